package lexer

import (
	"math/rand"
	"strings"
	"testing"

	"armature/api"
)

// texts returns the kinds and texts of tokens as one string.
func texts(l []api.Token) string {
	var b strings.Builder
	for _, x := range l {
		b.WriteString("?ins"[x.Kind:x.Kind+1] + ":" + x.Text + " ")
	}
	return strings.TrimSpace(b.String())
}

// P1.1: ordinary inputs, every symbol, and the examples of the chapter.
func TestTokens(t *testing.T) {
	for _, x := range []struct{ in, want string }{
		{"", ""},
		{" \t\r\n//", ""},
		{"all x: A|x in f", "i:all i:x s:: i:A s:| i:x i:in i:f"},
		{"a<=>b // c", "i:a s:<=> i:b"},
		{"a+++b", "i:a s:++ s:+ i:b"},
		{"( ) { } [ ] : ; , | || . ' ~ ^ * + ++ - -> & && # = => != < <= <=>",
			"s:( s:) s:{ s:} s:[ s:] s:: s:; s:, s:| s:|| s:. s:' s:~ s:^ s:* s:+ s:++ s:- s:-> s:& s:&& s:# s:= s:=> s:!= s:< s:<= s:<=>"},
		{"||||| ->-- &&& ===> <=>=> <==>", "s:|| s:|| s:| s:-> s:- s:- s:&& s:& s:= s:= s:=> s:<=> s:=> s:<= s:=>"},
		{"a_1Z A0 z_", "i:a_1Z i:A0 i:z_"},
		{"abcdefghijklmnop 0 9 999999999 -7", "i:abcdefghijklmnop n:0 n:9 n:999999999 s:- n:7"},
		{"a//b \xff\n//\nc//", "i:a i:c"},
		{"1//x", "n:1"},
	} {
		l, e, at := Lex(x.in)
		if got := texts(l); got != x.want || e != api.OK || at != 0 {
			t.Errorf("Lex(%q) = %s, %d, %d", x.in, got, e, at)
		}
	}
}

// P1.1, P1.5: the first error in source order, with the offset where the invalid token starts.
func TestErrors(t *testing.T) {
	for _, x := range []struct {
		in string
		at int
	}{
		{"#e < 07", 5}, {"a ! b", 2}, {"!", 0}, {"! =", 0}, {"a / b", 2}, {"a/", 1}, {"/ /", 0},
		{"abcdefghijklmnopq", 0}, {"x abcdefghijklmnopq @", 2}, {"x 1000000000", 2}, {"00", 0}, {"x 01", 2},
		{"7x", 0}, {"7_", 0}, {" 0x1", 1}, {"_", 0}, {"a >", 2}, {"a \x00", 2}, {"\u00e9", 0}, {"a\v", 1}, {"a$", 1},
		{"1 @ 02", 2}, {"abcdefghijklmnop_", 0}, {"-01", 1}, {"<=>>", 3},
	} {
		l, e, at := Lex(x.in)
		if len(l) != 0 || e != api.ErrToken || at != x.at {
			t.Errorf("Lex(%q) = %v, %d, %d", x.in, l, e, at)
		}
		if _, e, _ := Lex(x.in[:x.at]); e != api.OK {
			t.Errorf("Lex(%q): the input before the error has error %d", x.in, e)
		}
	}
}

// P1.1: the limit of the length comes before any other error.
func TestLength(t *testing.T) {
	if l, e, at := Lex(strings.Repeat("a ", 10000)); len(l) != 10000 || e != api.OK || at != 0 {
		t.Errorf("20000 bytes: %d tokens, %d, %d", len(l), e, at)
	}
	if l, e, at := Lex(" @" + strings.Repeat(" ", 19999)); len(l) != 0 || e != api.ErrLimit || at != 0 {
		t.Errorf("20001 bytes: %d tokens, %d, %d", len(l), e, at)
	}
}

// pieces are parts of random inputs; some are invalid by themselves or next to others.
var pieces = []string{"a", "Z9_", "in", "abcdefghijklmnop", "0", "7", "12", "<=>", "<=", "<", "=>", "=", "!=", "!", "-", "->", "+", "++",
	"&", "&&", "|", "||", "(", ")", "'", ".", "#", ":", ";", "/", "//", "// c", " ", "\n", "\t", "\r", "_", "@"}

func randomText(r *rand.Rand) string {
	var b strings.Builder
	for range r.Intn(9) {
		b.WriteString(pieces[r.Intn(len(pieces))])
	}
	return b.String()
}

// blank reports whether s has only white space and comments.
func blank(s string) bool {
	for _, line := range strings.Split(s, "\n") {
		before, _, _ := strings.Cut(line, "//")
		if strings.Trim(before, " \t\r") != "" {
			return false
		}
	}
	return true
}

// P1.2, P1.5, P1.6 on random inputs.
func TestRandom(t *testing.T) {
	r := rand.New(rand.NewSource(1))
	for range 20000 {
		s := randomText(r)
		l, e, at := Lex(s)
		if e != api.OK {
			if _, before, _ := Lex(s[:at]); before != api.OK || len(l) != 0 {
				t.Fatalf("Lex(%q): error at %d is not the first one", s, at)
			}
			continue
		}
		end := 0
		for i, x := range l {
			if x.At < end || s[x.At:x.At+len(x.Text)] != x.Text || !blank(s[end:x.At]) {
				t.Fatalf("Lex(%q): token %d is %v", s, i, x)
			}
			if i > 0 && x.At == end && longer(l[i-1].Text, x.Text) {
				t.Fatalf("Lex(%q): token %d does not extend token %d", s, i, i-1)
			}
			end = x.At + len(x.Text)
		}
		if !blank(s[end:]) {
			t.Fatalf("Lex(%q): text is left over", s)
		}
	}
}

// longer reports whether the first token of a+b is longer than a.
func longer(a, b string) bool {
	l, e, _ := Lex(a + b)
	return e == api.OK && len(l) > 0 && len(l[0].Text) > len(a)
}

// P1.3: other space between the tokens changes neither kinds nor texts.
func TestStability(t *testing.T) {
	r := rand.New(rand.NewSource(2))
	gaps := []string{" ", "\n", "\t \r", "//x\n", " // =>\n // \n"}
	for range 5000 {
		s := randomText(r)
		l, e, _ := Lex(s)
		if e != api.OK {
			continue
		}
		var b strings.Builder
		for _, x := range l {
			b.WriteString(gaps[r.Intn(len(gaps))] + x.Text)
		}
		again, e, _ := Lex(b.String() + gaps[r.Intn(len(gaps))])
		if e != api.OK || texts(again) != texts(l) {
			t.Fatalf("%q and %q have different tokens", s, b.String())
		}
	}
}

// P1.4: tokens of a concatenation.
func TestConcatenation(t *testing.T) {
	r := rand.New(rand.NewSource(3))
	for range 5000 {
		a, b := randomText(r), randomText(r)
		last := a[strings.LastIndexByte(a, '\n')+1:]
		la, ea, _ := Lex(a)
		lb, eb, _ := Lex(b)
		if ea != api.OK || eb != api.OK || strings.Contains(last, "//") {
			continue
		}
		l, e, _ := Lex(a + " " + b)
		if e != api.OK || len(l) != len(la)+len(lb) {
			t.Fatalf("Lex(%q) has %d tokens", a+" "+b, len(l))
		}
		for i, x := range l {
			want := api.Token{}
			if i < len(la) {
				want = la[i]
			} else {
				want = lb[i-len(la)]
				want.At += len(a) + 1
			}
			if x != want {
				t.Fatalf("Lex(%q): token %d is %v, not %v", a+" "+b, i, x, want)
			}
		}
	}
}

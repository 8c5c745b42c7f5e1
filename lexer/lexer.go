// Package lexer is layer 1: it splits the text of specifications and formulas into tokens (see shared/doc/01-lexer.md).
package lexer

import "armature/api"

const (
	maxText   = 20000
	maxDigits = 9
)

// symbols lists every symbol before its own prefixes, so that the first one that fits is the longest one.
var symbols = [...]string{
	"<=>",
	"||", "++", "->", "&&", "=>", "!=", "<=",
	"(", ")", "{", "}", "[", "]", ":", ";", ",", "|", ".", "'", "~", "^", "*", "+", "-", "&", "#", "=", "<",
}

// scanner is a position in a text.
type scanner struct {
	text string
	at   int
}

// Lex returns the tokens of s, or an error and the byte offset where it was found.
func Lex(s string) ([]api.Token, api.Errno, int) {
	if len(s) > maxText {
		return nil, api.ErrLimit, 0
	}
	c := scanner{text: s}
	var tokens []api.Token
	for c.skip(); c.at < len(s); c.skip() {
		start := c.at
		kind, ok := c.token()
		if !ok {
			return nil, api.ErrToken, start
		}
		tokens = append(tokens, api.Token{Kind: kind, Text: s[start:c.at], At: start})
	}
	return tokens, api.OK, 0
}

// skip moves past white space and comments.
func (c *scanner) skip() {
	for {
		c.while(c.onSpace)
		if !c.onComment() {
			return
		}
		c.while(c.insideLine)
	}
}

// token moves past the token at the current position and returns its kind; ok is false if there is no valid one.
func (c *scanner) token() (kind int, ok bool) {
	start := c.at
	switch {
	case c.onLetter():
		c.while(c.onWord)
		return api.Ident, c.at-start <= api.MaxName
	case c.onDigit():
		c.while(c.onDigit)
		length := c.at - start
		padded := length > 1 && c.text[start] == '0'
		return api.Number, length <= maxDigits && !padded && !c.onWord()
	default:
		return api.Symbol, c.symbol()
	}
}

// symbol moves past the longest symbol at the current position, if there is one.
func (c *scanner) symbol() bool {
	rest := c.text[c.at:]
search:
	for _, symbol := range symbols {
		if len(symbol) > len(rest) {
			continue
		}
		for i := range len(symbol) {
			if symbol[i] != rest[i] {
				continue search
			}
		}
		c.at += len(symbol)
		return true
	}
	return false
}

// while moves on as long as the condition holds before the end of the text.
func (c *scanner) while(condition func() bool) {
	for condition() {
		c.at++
	}
}

// current returns the byte at the current position, or 0 at the end; no condition below holds for byte 0.
func (c *scanner) current() byte {
	if c.at >= len(c.text) {
		return 0
	}
	return c.text[c.at]
}

// onSpace reports whether the current byte is white space.
func (c *scanner) onSpace() bool {
	b := c.current()
	return b == ' ' || b == '\t' || b == '\n' || b == '\r'
}

// onComment reports whether a comment starts at the current position.
func (c *scanner) onComment() bool {
	return c.current() == '/' && c.at+1 < len(c.text) && c.text[c.at+1] == '/'
}

// insideLine reports whether the current line goes on.
func (c *scanner) insideLine() bool {
	return c.at < len(c.text) && c.text[c.at] != '\n'
}

// onLetter reports whether the current byte is a letter.
func (c *scanner) onLetter() bool {
	b := c.current()
	return 'a' <= b && b <= 'z' || 'A' <= b && b <= 'Z'
}

// onDigit reports whether the current byte is a digit.
func (c *scanner) onDigit() bool {
	b := c.current()
	return '0' <= b && b <= '9'
}

// onWord reports whether the current byte can belong to an identifier.
func (c *scanner) onWord() bool {
	return c.onLetter() || c.onDigit() || c.current() == '_'
}

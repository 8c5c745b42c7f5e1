/- What the lexer answers, as a plain function of the text. -/
import Derived.Test.YtmcokfalkkjgmaaDoorE
namespace Go.Proofs.YtmcokfalkkjgmaaDoor
open Go.RowKit

theorem symFrom_bd {s : ByteArray} {k e : Nat} : ∀ n i, i + n ≤ 29 → symFrom s k n i = some e → k < e ∧ e ≤ s.size ∧ e ≤ k + 3
  | 0, i, _, h => by simp [symFrom] at h
  | n + 1, i, hn, h => by
    simp only [symFrom] at h
    split at h
    · rename_i hf
      have hf := (fitB_iff _ _ _).1 hf
      have := sym_size i (by omega)
      have := hf.1
      simp at h
      omega
    · exact symFrom_bd n (i + 1) (by omega) h
theorem symEnd_bd {s : ByteArray} {k e : Nat} (h : symEnd s k = some e) : k < e ∧ e ≤ s.size ∧ e ≤ k + 3 := symFrom_bd 29 0 (by omega) h

theorem letter_word {c : Nat} (h : isLetter c = true) : isWord c = true := by simp [isWord, h]
theorem digit_word {c : Nat} (h : isDigit c = true) : isWord c = true := by simp [isWord, h]
theorem wordEnd_bd {s : ByteArray} {k : Nat} (hk : k < s.size) (h : isWord (cur s k) = true) : k < wordEnd s k ∧ wordEnd s k ≤ s.size := by
  have := adv_yes (q := fun j => isWord (cur s j)) hk h
  have := adv_ge (fun j => isWord (cur s j)) (s.size - (k + 1)) (k + 1)
  unfold wordEnd; omega
theorem digitEnd_bd {s : ByteArray} {k : Nat} (hk : k < s.size) (h : isDigit (cur s k) = true) : k < digitEnd s k ∧ digitEnd s k ≤ s.size := by
  have := adv_yes (q := fun j => isDigit (cur s j)) hk h
  have := adv_ge (fun j => isDigit (cur s j)) (s.size - (k + 1)) (k + 1)
  unfold digitEnd; omega
theorem tokEnd_le {s : ByteArray} {k : Nat} (hk : k < s.size) : k ≤ tokEnd s k ∧ tokEnd s k ≤ s.size := by
  unfold tokEnd
  split
  · rename_i h; have := wordEnd_bd hk (letter_word h); omega
  · split
    · rename_i h; have := digitEnd_bd hk h; omega
    · cases h : symEnd s k with
      | none => simp; omega
      | some e => have := symEnd_bd h; simp; omega
theorem tokEnd_gt {s : ByteArray} {k : Nat} (hk : k < s.size) (ho : tokOk s k = true) : k < tokEnd s k ∧ tokEnd s k ≤ s.size := by
  unfold tokEnd; unfold tokOk at ho
  split
  · rename_i h; exact wordEnd_bd hk (letter_word h)
  · rename_i h0
    split
    · rename_i h; exact digitEnd_bd hk h
    · rename_i h1
      simp only [h0, h1, if_false, Bool.false_eq_true] at ho
      cases h : symEnd s k with
      | none => rw [h] at ho; cases ho
      | some e => have := symEnd_bd h; simp; omega

/-- A token: its kind, where it begins, where it ends. -/
structure Tok where
  kind : Nat
  start : Nat
  stop : Nat
  deriving DecidableEq

def tokAt (s : ByteArray) (k : Nat) : Tok := ⟨tokKind s k, k, tokEnd s k⟩

/-- What lexing comes to: the place of the first error, or the tokens. -/
abbrev Res := Except Nat (List Tok)
def pre (l : List Tok) : Res → Res
  | .error e => .error e
  | .ok m => .ok (l ++ m)

/-- From j, where a token begins or the text ends. -/
def lexTo (s : ByteArray) : Nat → Nat → Res
  | 0, _ => .ok []
  | n + 1, j => if j < s.size then if tokOk s j then pre [tokAt s j] (lexTo s n (skipEnd s (tokEnd s j))) else .error j else .ok []
def lexFrom (s : ByteArray) (j : Nat) : Res := lexTo s (s.size + 1 - j) j
def lex (s : ByteArray) : Res := lexFrom s (skipEnd s 0)

theorem pre_pre (a b : List Tok) (r : Res) : pre a (pre b r) = pre (a ++ b) r := by cases r <;> simp [pre]
theorem pre_nil (r : Res) : pre [] r = r := by cases r <;> simp [pre]

theorem lexTo_fuel {s : ByteArray} : ∀ n m j, s.size + 1 - j ≤ n → s.size + 1 - j ≤ m → lexTo s n j = lexTo s m j
  | 0, m, j, h1, h2 => by
    cases m with
    | zero => rfl
    | succ m => simp [lexTo]; intro h; omega
  | n + 1, 0, j, h1, h2 => by simp [lexTo]; intro h; omega
  | n + 1, m + 1, j, h1, h2 => by
    simp only [lexTo]
    split
    · rename_i hj
      split
      · rename_i ho
        have h3 := tokEnd_gt hj ho
        have h4 := skipEnd_bd h3.2
        rw [lexTo_fuel n m _ (by omega) (by omega)]
      · rfl
    · rfl
theorem lexFrom_tok {s : ByteArray} {j : Nat} (hj : j < s.size) (ho : tokOk s j = true) : lexFrom s j = pre [tokAt s j] (lexFrom s (skipEnd s (tokEnd s j))) := by
  have h3 := tokEnd_gt hj ho
  have h4 := skipEnd_bd h3.2
  unfold lexFrom
  rw [show s.size + 1 - j = (s.size - j) + 1 by omega]
  simp only [lexTo, hj, ho, if_true]
  rw [lexTo_fuel (s.size - j) (s.size + 1 - skipEnd s (tokEnd s j)) _ (by omega) (by omega)]
theorem lexFrom_err {s : ByteArray} {j : Nat} (hj : j < s.size) (ho : tokOk s j = false) : lexFrom s j = .error j := by
  unfold lexFrom
  rw [show s.size + 1 - j = (s.size - j) + 1 by omega]
  simp [lexTo, hj, ho]
theorem lexFrom_end {s : ByteArray} {j : Nat} (hj : ¬ j < s.size) : lexFrom s j = .ok [] := by
  unfold lexFrom
  cases s.size + 1 - j <;> simp [lexTo, hj]

/-- The token's text. -/
def Tok.text (s : ByteArray) (t : Tok) : ByteArray := s.extract t.start t.stop
/-- The token's three cells. -/
def Tok.cells (s : ByteArray) (t : Tok) : List Value := [.int .i64 (t.kind : Nat), .string (t.text s), .int .i64 (t.start : Nat)]
def toks (s : ByteArray) (l : List Tok) : List Value := l.flatMap (Tok.cells s)
theorem toks_snoc (s : ByteArray) (l : List Tok) (t : Tok) : toks s (l ++ [t]) = toks s l ++ t.cells s := by simp [toks]

def LexPost (w : World) (s : ByteArray) (e : Ending) (w' : World) : Prop :=
  w.grownBy w' none ∧
  ((s.size > 20000 ∧ e = .returned (.tuple #[.slice none 0 0, .int .i64 2, .int .i64 0])) ∨
   (s.size ≤ 20000 ∧
    ((∃ j, lex s = .error j ∧ e = .returned (.tuple #[.slice none 0 0, .int .i64 10, .int .i64 (j : Nat)])) ∨
     (∃ l v, lex s = .ok l ∧ e = .returned (.tuple #[v, .int .i64 0, .int .i64 0]) ∧ w'.ownsRow w.heap.size 31 3 v l.length (toks s l)))))
end Go.Proofs.YtmcokfalkkjgmaaDoor

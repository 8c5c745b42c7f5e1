/- The law LexerWords: words and numbers alone, and its walk. -/
import Derived.Test.YtmcokfalkkjgmaaDoorAb
import Derived.Laws.IdiomStrings
namespace Go.Proofs.YtmcokfalkkjgmaaDoor
open Go.RowKit

/-- A text of word bytes that begins with a letter. -/
structure Wordy (s : ByteArray) : Prop where
  pos : 0 < s.size
  first : isLetter (cur s 0) = true
  all : ∀ i, i < s.size → isWord (cur s i) = true
/-- A text of digits. -/
structure Digity (s : ByteArray) : Prop where
  pos : 0 < s.size
  all : ∀ i, i < s.size → isDigit (cur s i) = true

theorem letter_first {c : Nat} (h : isLetter c = true) : isSpace c = false ∧ c ≠ 47 := by
  simp [isLetter] at h; simp [isSpace]; omega
theorem digit_first {c : Nat} (h : isDigit c = true) : isSpace c = false ∧ c ≠ 47 := by
  simp [isDigit] at h; simp [isSpace]; omega
theorem digit_letter {c : Nat} (h : isDigit c = true) : isLetter c = false := by
  simp [isDigit] at h; simp [isLetter]; omega
theorem letter_digit {c : Nat} (h : isLetter c = true) : isDigit c = false := by
  simp [isLetter] at h; simp [isDigit]; omega

theorem wordy_end {s : ByteArray} (h : Wordy s) : wordEnd s 0 = s.size :=
  adv_eq _ _ _ (Nat.zero_le _) (by omega) (fun j _ h2 => h.all j h2) (.inl (by omega))
theorem wordy_lex {s : ByteArray} (h : Wordy s) : lex s = if s.size ≤ 16 then .ok [⟨1, 0, s.size⟩] else .error 0 := by
  have h0 := tok_skip (Nat.zero_le _) (letter_first h.first)
  have hp := h.pos
  rw [lex, h0]
  by_cases h16 : s.size ≤ 16
  · rw [if_pos h16, lexFrom_tok hp (by simp [tokOk, h.first, wordy_end h, h16])]
    have e1 : tokEnd s 0 = s.size := by simp [tokEnd, h.first, wordy_end h]
    rw [e1, skipEnd_end, lexFrom_end (by omega)]
    simp [pre, tokAt, e1, tokKind, h.first]
  · rw [if_neg h16, lexFrom_err hp (by simp [tokOk, h.first, wordy_end h]; omega)]
theorem digity_end {s : ByteArray} {n : Nat} (hd : ∀ i, i < n → isDigit (cur s i) = true) (hn : n ≤ s.size) (hx : isDigit (cur s n) = false) : digitEnd s 0 = n :=
  adv_eq _ _ _ (Nat.zero_le _) (by omega) (fun j _ h2 => hd j h2) (.inr hx)
theorem digity_lex {s : ByteArray} (h : Digity s) (h9 : s.size ≤ 9) (hz : s.size = 1 ∨ cur s 0 ≠ 48) : lex s = .ok [⟨2, 0, s.size⟩] := by
  have hf := h.all 0 h.pos
  have h0 := tok_skip (Nat.zero_le _) (digit_first hf)
  have hp := h.pos
  have he : digitEnd s 0 = s.size := digity_end h.all (Nat.le_refl _) (by rw [cur_end (Nat.le_refl _)]; rfl)
  have hl := digit_letter hf
  have hw : isWord (cur s s.size) = false := by rw [cur_end (Nat.le_refl _)]; rfl
  have hok : tokOk s 0 = true := by
    simp only [tokOk, hl, hf, he, hw, if_true, if_false, Bool.false_eq_true, Nat.sub_zero]
    rcases hz with hz | hz
    · simp [hz]
    · simp [hz, h9]
  have e1 : tokEnd s 0 = s.size := by simp [tokEnd, hl, hf, he]
  rw [lex, h0, lexFrom_tok hp hok, e1, skipEnd_end, lexFrom_end (by omega)]
  simp [pre, tokAt, e1, tokKind, hl, hf]
theorem padded_lex {s : ByteArray} (h : Digity s) (h2 : 2 ≤ s.size) (hz : cur s 0 = 48) : lex s = .error 0 := by
  have hf := h.all 0 h.pos
  have h0 := tok_skip (Nat.zero_le _) (digit_first hf)
  have he : digitEnd s 0 = s.size := digity_end h.all (Nat.le_refl _) (by rw [cur_end (Nat.le_refl _)]; rfl)
  have hl := digit_letter hf
  have hok : tokOk s 0 = false := by
    simp only [tokOk, hl, hf, he, if_true, if_false, Bool.false_eq_true, Nat.sub_zero]
    have : decide (1 < s.size) = true := by simp; omega
    simp [this, hz]
  rw [lex, h0, lexFrom_err h.pos hok]
theorem mixed_lex {d x : ByteArray} (h : Digity d) (hx : Wordy x) : lex (d ++ x) = .error 0 := by
  have hs := size_app d x
  have hp := h.pos
  have hxp := hx.pos
  have e0 : ∀ i, i < d.size → cur (d ++ x) i = cur d i := fun i hi => by rw [cur_app, if_pos hi]
  have ex : cur (d ++ x) d.size = cur x 0 := by rw [cur_app, if_neg (by omega), Nat.sub_self]
  have hf : isDigit (cur (d ++ x) 0) = true := by rw [e0 0 hp]; exact h.all 0 hp
  have h0 := tok_skip (Nat.zero_le _) (digit_first hf)
  have he : digitEnd (d ++ x) 0 = d.size := digity_end (fun i hi => by rw [e0 i hi]; exact h.all i hi) (by omega) (by rw [ex]; exact letter_digit hx.first)
  have hl := digit_letter hf
  have hok : tokOk (d ++ x) 0 = false := by
    simp only [tokOk, hl, hf, he, if_true, if_false, Bool.false_eq_true, ex, letter_word hx.first]
    simp
  rw [lex, h0, lexFrom_err (by omega) hok]

def chr (c : Nat) : ByteArray := ⟨#[UInt8.ofNat c]⟩
theorem cur_chr {c : Nat} (h : c < 256) : cur (chr c) 0 = c := by
  have : (chr c).size = 1 := rfl
  rw [cur_get (by omega)]
  show (UInt8.ofNat c).toNat = c
  simp; omega
theorem chr_conv {c : Nat} (h : c < 256) (W : World) (v : Int) (hv : v = (c : Int)) : (convert 32 9 (.slice (some ⟨W.heap.size, 0, none⟩) 1 1)).run Tryd.prog (W.alloc (.cells #[.int .u8 v] 5)) = .ok (.string (chr c)) (W.alloc (.cells #[.int .u8 v] 5)) := by
  have := run_convert_bytes_back (P := Tryd.prog) (W.alloc (.cells #[.int .u8 v] 5)) 32 9 5 ⟨W.heap.size, 0, none⟩ 1 [UInt8.ofNat c] Tryd.underlying32 Tryd.underlying5 Tryd.underlying9 (fun j hj => by
    have : j = 0 := by simp at hj; omega
    subst this
    have e : ((⟨W.heap.size, 0, none⟩ : Addr).add 0) = ⟨W.heap.size, 0, none⟩ := rfl
    rw [e, hv]
    have e2 : (UInt8.ofNat c).toNat = c := by simp; omega
    simp [e2])
  exact this


def setS : ByteArray := ⟨#[97, 98, 99, 120, 121, 122, 65, 66, 67, 88, 89, 90, 48, 49, 50, 51, 52, 53, 54, 55, 56, 57, 95]⟩
theorem setS_word : ∀ k : Fin 23, isWord (cur setS k) = true := by decide +kernel
theorem setS_cut {k : Nat} (hk : k < 23) : (setS.extract k (k + 1)).size = 1 ∧ isWord (cur (setS.extract k (k + 1)) 0) = true := by
  have hs : setS.size = 23 := rfl
  refine ⟨by rw [ByteArray.size_extract]; omega, ?_⟩
  rw [cur_extract (by omega), if_pos (by omega)]
  exact setS_word ⟨k, hk⟩
theorem wordy_chr {c : Nat} (h1 : 97 ≤ c) (h2 : c ≤ 122) : Wordy (chr c) := by
  have hs : (chr c).size = 1 := rfl
  have hl : isLetter (cur (chr c) 0) = true := by rw [cur_chr (by omega)]; simp [isLetter]; omega
  exact ⟨by omega, hl, fun i hi => by rw [show i = 0 by omega]; exact letter_word hl⟩
theorem wordy_snoc {a y : ByteArray} (ha : Wordy a) (hy1 : y.size = 1) (hy : isWord (cur y 0) = true) : Wordy (a ++ y) := by
  have hp := ha.pos
  refine ⟨by rw [size_app]; omega, by rw [cur_app, if_pos hp]; exact ha.first, fun i hi => ?_⟩
  rw [size_app] at hi
  rw [cur_app]
  split
  · rename_i h; exact ha.all i h
  · rw [show i - a.size = 0 by omega]; exact hy
/-- The digits of a number on their way: m is what is left. -/
structure Part (d : ByteArray) (m : Nat) : Prop where
  all : ∀ i, i < d.size → isDigit (cur d i) = true
  small : d.size ≤ 9
  room : m < 10 ^ (9 - d.size)
  lead : m = 0 → 0 < d.size → d.size = 1 ∨ cur d 0 ≠ 48
theorem part_step {d : ByteArray} {m : Nat} (h : Part d m) (hgo : 0 < m ∨ d.size = 0) : Part (chr (48 + m % 10) ++ d) (m / 10) := by
  have h1 : (chr (48 + m % 10)).size = 1 := rfl
  have hc : cur (chr (48 + m % 10)) 0 = 48 + m % 10 := cur_chr (by omega)
  have hs := h.small
  have hr := h.room
  have h9 : d.size < 9 := by
    rcases hgo with hgo | hgo
    · refine Nat.lt_of_le_of_ne hs fun e => ?_
      rw [e] at hr; simp at hr; omega
    · omega
  refine ⟨fun i hi => ?_, by rw [size_app]; omega, ?_, fun h0 _ => ?_⟩
  · rw [size_app] at hi
    rw [cur_app, h1]
    split
    · rw [show i = 0 by omega, hc]; simp [isDigit]; omega
    · exact h.all _ (by omega)
  · rw [size_app, h1, show 9 - (1 + d.size) = 9 - d.size - 1 by omega]
    have e : 10 ^ (9 - d.size) = 10 ^ (9 - d.size - 1) * 10 := by
      rw [← Nat.pow_succ, show (9 - d.size - 1).succ = 9 - d.size by omega]
    rw [e] at hr
    exact Nat.div_lt_of_lt_mul (by omega)
  · rw [size_app, h1, cur_app, if_pos (by omega), hc]
    rcases hgo with hgo | hgo
    · exact .inr (by omega)
    · exact .inl (by omega)
theorem padded {d : ByteArray} (h : Digity d) : Digity ((⟨#[48]⟩ : ByteArray) ++ d) ∧ cur ((⟨#[48]⟩ : ByteArray) ++ d) 0 = 48 := by
  have h1 : (⟨#[48]⟩ : ByteArray).size = 1 := rfl
  have hc : cur (⟨#[48]⟩ : ByteArray) 0 = 48 := rfl
  refine ⟨⟨by rw [size_app]; omega, fun i hi => ?_⟩, by rw [cur_app, if_pos (by omega), hc]⟩
  rw [size_app] at hi
  rw [cur_app, h1]
  split
  · rw [show i = 0 by omega, hc]; rfl
  · exact h.all _ (by omega)
end Go.Proofs.YtmcokfalkkjgmaaDoor

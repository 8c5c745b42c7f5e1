/- The laws' helpers: the first 2000 bytes, equality of two token slices, white space alone. -/
import Derived.Test.YtmcokfalkkjgmaaDoorL
namespace Go.Proofs.YtmcokfalkkjgmaaDoor
open Go.RowKit

def fewS (s : ByteArray) : ByteArray := s.extract 0 (min s.size 2000)
theorem fewS_size (s : ByteArray) : (fewS s).size ≤ 2000 := by unfold fewS; simp [ByteArray.size_extract]; omega

theorem ret_str {a b : ByteArray} (h : a = b) : Ending.returned (.string a) = .returned (.string b) := by rw [h]

set_option maxHeartbeats 400000 in
theorem few_calls (s : ByteArray) (w : World) (hs : s.size ≤ maxLen) : Calls Tryd.prog 12 #[.string s] w fun e w' => e = .returned (.string (fewS s)) ∧ w = w' := by
  unfold maxLen at hs
  by_cases h : s.size ≤ 2000
  · have hI : (s.size : Int) ≤ 2000 := by omega
    have hm : min (s.size : Int) 2000 = (s.size : Int) := by omega
    go_enter Tryd.func12, Tryd.ntmps12
    go_wp2
    go_ret
    refine ⟨ret_str ?_, rfl⟩
    rw [fewS, Nat.min_eq_left h]
    simp
  · have hI : (2000 : Int) ≤ (s.size : Int) := by omega
    go_enter Tryd.func12, Tryd.ntmps12
    go_wp2
    go_ret
    refine ⟨ret_str ?_, rfl⟩
    rw [fewS, Nat.min_eq_right (by omega)]

theorem toks_length (s : ByteArray) (l : List Tok) : (toks s l).length = 3 * l.length := by
  induction l with
  | nil => rfl
  | cons t l ih => simp only [toks, List.flatMap_cons, List.length_append] at *; rw [ih]; simp [Tok.cells]; omega
theorem toks_get (s : ByteArray) : ∀ (l : List Tok) (i : Nat) (t : Tok), l[i]? = some t →
    (toks s l)[i * 3]? = some (.int .i64 (t.kind : Nat)) ∧ (toks s l)[i * 3 + 1]? = some (.string (t.text s)) ∧ (toks s l)[i * 3 + 2]? = some (.int .i64 (t.start : Nat))
  | [], i, t, h => by simp at h
  | x :: l, 0, t, h => by
    simp at h; subst h
    simp [toks, Tok.cells]
  | x :: l, i + 1, t, h => by
    have ih := toks_get s l i t (by simpa using h)
    have e : toks s (x :: l) = x.cells s ++ toks s l := rfl
    have hl : (x.cells s).length = 3 := rfl
    rw [e, List.getElem?_append_right (by omega), List.getElem?_append_right (by omega), List.getElem?_append_right (by omega), hl]
    rw [show (i + 1) * 3 - 3 = i * 3 by omega, show (i + 1) * 3 + 1 - 3 = i * 3 + 1 by omega, show (i + 1) * 3 + 2 - 3 = i * 3 + 2 by omega]
    exact ih

/-- A slice of tokens that lies in memory. -/
def Reads (w : World) (v : Value) (s : ByteArray) (l : List Tok) : Prop :=
  (l = [] ∧ ∃ a c, v = .slice a 0 c) ∨ ∃ g cap, v = .slice (some ⟨g, 0, none⟩) l.length cap ∧ TokRow w s l g cap
theorem Reads.of_own {w : World} {B : Nat} {v : Value} {s : ByteArray} {l : List Tok} (h : w.ownsRow B 31 3 v l.length (toks s l)) : Reads w v s l := by
  rcases Nat.eq_zero_or_pos l.length with h0 | h0
  · have hl : l = [] := List.eq_nil_of_length_eq_zero h0
    rcases h.2 with ⟨hv, _⟩ | ⟨g, cap, cur, hv, _⟩
    · exact .inl ⟨hl, _, _, hv⟩
    · rw [h0] at hv; exact .inl ⟨hl, _, _, hv⟩
  · obtain ⟨g, cap, hv, _, h2, h3, h4, h5⟩ := own_slice h h0
    exact .inr ⟨g, cap, hv, h2, h3, h4, h5⟩
theorem Reads.grown {w w' : World} {v : Value} {s : ByteArray} {l : List Tok} (h : Reads w v s l) (hg : w.grownBy w' none) : Reads w' v s l := by
  rcases h with h | ⟨g, cap, hv, h⟩
  · exact .inl h
  · exact .inr ⟨g, cap, hv, h.grown hg⟩

set_option maxHeartbeats 1000000 in
theorem same_row (w : World) (s s' : ByteArray) (l l' : List Tok) (g cap g' cap' : Nat) (h : TokRow w s l g cap) (h' : TokRow w s' l' g' cap') (he : toks s l = toks s' l') (hl : l.length ≤ 20000) :
    Calls Tryd.prog 15 #[.slice (some ⟨g, 0, none⟩) l.length cap, .slice (some ⟨g', 0, none⟩) l'.length cap'] w fun e w' => e = .returned (.bool true) ∧ ∃ n, w' = w.drewN n := by
  have hlen : l'.length = l.length := by have := congrArg List.length he; rw [toks_length, toks_length] at this; omega
  rw [hlen]
  obtain ⟨n, hn⟩ : ∃ n, l.length = n := ⟨_, rfl⟩
  rw [hn]; rw [hn] at hl
  have HN := Lib.hid (And.intro hn hlen); clear hn hlen
  have HH := Lib.hid (And.intro h (And.intro h' he)); clear h h' he
  go_enter Tryd.func15, Tryd.ntmps15
  go_wp2
  go_loopg [5] n (fun k s5 wr => ∃ i : Nat, s5 = .int .i64 (i : Int) ∧ k = n - i ∧ i ≤ n ∧ ∃ m, wr = w.drewN m)
  case atStart => exact ⟨0, rfl, rfl, by omega, 0, rfl⟩
  case round =>
    obtain ⟨i, rfl, hg, hi, m, rfl⟩ := hrel
    have HG := Lib.hid hg; clear hg
    by_cases hin : i < n
    · have hinI : decide ((i : Int) < (n : Int)) = true := by simp; omega
      have hinI2 : (i : Int) < (n : Int) := by omega
      obtain ⟨t, ht⟩ : ∃ t, l[i]? = some t := ⟨_, List.getElem?_eq_getElem (by rw [HN.out.1]; exact hin)⟩
      have h3 := toks_get s l i t ht
      obtain ⟨x, hx⟩ : ∃ x, t.text s = x := ⟨_, rfl⟩
      have a0 := HH.out.1.cells _ _ h3.1
      have a1 := HH.out.1.cells _ _ h3.2.1
      have a2 := HH.out.1.cells _ _ h3.2.2
      rw [HH.out.2.2] at h3
      have b0 := HH.out.2.1.cells _ _ h3.1
      have b1 := HH.out.2.1.cells _ _ h3.2.1
      have b2 := HH.out.2.1.cells _ _ h3.2.2
      rw [hx] at a1 b1
      clear h3 hx ht
      go_wp2
      go_quiet (fail)
      go_wp2
      go_roundg (n - (i + 1))
      case measure => rw [HG.out]; omega
      case rel => exact ⟨i + 1, rfl, rfl, by omega, _, rfl⟩
    · have hinI : decide ((i : Int) < (n : Int)) = false := by simp; omega
      go_wp2
      go_ret
      exact ⟨rfl, m, rfl⟩

set_option maxHeartbeats 1000000 in
theorem same_zero (w : World) (a a' : Option Addr) (c c' : Nat) :
    Calls Tryd.prog 15 #[.slice a 0 c, .slice a' 0 c'] w fun e w' => e = .returned (.bool true) ∧ ∃ n, w' = w.drewN n := by
  go_enter Tryd.func15, Tryd.ntmps15
  go_wp2
  go_loopg [5] 0 (fun _ s5 wr => s5 = .int .i64 0 ∧ w = wr)
  case atStart => exact ⟨rfl, rfl⟩
  case round =>
    obtain ⟨rfl, rfl⟩ := hrel
    go_wp2
    go_ret
    exact ⟨rfl, 0, rfl⟩

theorem toks_inj_len {s s' : ByteArray} {l l' : List Tok} (he : toks s l = toks s' l') : l'.length = l.length := by
  have := congrArg List.length he; rw [toks_length, toks_length] at this; omega

/-- Two slices that hold the same tokens are the same. -/
theorem same_reads {w : World} {s s' : ByteArray} {l l' : List Tok} {v v' : Value} (h : Reads w v s l) (h' : Reads w v' s' l') (he : toks s l = toks s' l') (hl : l.length ≤ 20000) :
    Calls Tryd.prog 15 #[v, v'] w fun e w' => e = .returned (.bool true) ∧ ∃ n, w' = w.drewN n := by
  have hlen := toks_inj_len he
  have z : ∀ {w : World} {v : Value} {s : ByteArray} {l : List Tok}, Reads w v s l → l.length = 0 → ∃ a c, v = .slice a 0 c := by
    intro w v s l h h0
    rcases h with ⟨_, h⟩ | ⟨g, cap, hv, _⟩
    · exact h
    · rw [h0] at hv; exact ⟨_, _, hv⟩
  by_cases h0 : l.length = 0
  · obtain ⟨a, c, rfl⟩ := z h h0
    obtain ⟨a', c', rfl⟩ := z h' (by omega)
    exact same_zero w a a' c c'
  · rcases h with ⟨rfl, _⟩ | ⟨g, cap, rfl, hr⟩
    · simp at h0
    · rcases h' with ⟨rfl, _⟩ | ⟨g', cap', rfl, hr'⟩
      · simp at hlen; omega
      · exact same_row w s s' l l' g cap g' cap' hr hr' he hl

/-- What Lex answers for a text of at most 20000 bytes, in two cases. -/
theorem lex_err {w w' : World} {s : ByteArray} {e : Ending} {j : Nat} (hs : s.size ≤ 20000) (hl : lex s = .error j) (h : LexPost w s e w') :
    e = .returned (.tuple #[.slice none 0 0, .int .i64 10, .int .i64 (j : Nat)]) ∧ w.grownBy w' none := lex_err_row h hs j hl
theorem lex_ok {w w' : World} {s : ByteArray} {e : Ending} {l : List Tok} (hs : s.size ≤ 20000) (hl : lex s = .ok l) (h : LexPost w s e w') :
    ∃ v, e = .returned (.tuple #[v, .int .i64 0, .int .i64 0]) ∧ Reads w' v s l ∧ w.grownBy w' none := by
  obtain ⟨hg, h | ⟨_, h | h⟩⟩ := h
  · omega
  · obtain ⟨j', h1, rfl⟩ := h; rw [hl] at h1; cases h1
  · obtain ⟨l', v, h1, rfl, hown⟩ := h; rw [hl] at h1; cases h1
    exact ⟨v, rfl, Reads.of_own hown, hg⟩
theorem lexTo_len {s : ByteArray} : ∀ n j l, lexTo s n j = .ok l → l.length ≤ n
  | 0, j, l, h => by simp [lexTo] at h; subst h; simp
  | n + 1, j, l, h => by
    simp only [lexTo] at h
    split at h
    · split at h
      · cases hr : lexTo s n (skipEnd s (tokEnd s j)) with
        | error e => rw [hr] at h; cases h
        | ok m => rw [hr] at h; have := lexTo_len n _ m hr; cases h; simp; omega
      · cases h
    · cases h; simp
theorem lex_len {s : ByteArray} {l : List Tok} (h : lex s = .ok l) : l.length ≤ s.size + 1 := by
  have := lexTo_len _ _ _ h; omega
end Go.Proofs.YtmcokfalkkjgmaaDoor

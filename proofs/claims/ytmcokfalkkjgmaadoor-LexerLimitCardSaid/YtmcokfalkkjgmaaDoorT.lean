/- A text that begins or ends as another one is lexed as that one there. -/
import Derived.Test.YtmcokfalkkjgmaaDoorR
namespace Go.Proofs.YtmcokfalkkjgmaaDoor
open Go.RowKit

theorem ext_cur {a b : ByteArray} (hs : a.size = b.size) (h : ∀ i, i < a.size → cur a i = cur b i) : a = b := by
  have : a.data.toList = b.data.toList := by
    apply List.ext_getElem
    · exact hs
    · intro i h1 h2
      have h3 : i < a.size := h1
      have e := h i h3
      rw [cur_get h3, cur_get (show i < b.size by omega)] at e
      exact UInt8.toNat_inj.1 e
  cases a; cases b
  simpa [Array.toList_inj] using this

theorem skipEnd_idem {s : ByteArray} : ∀ n f, s.size - f ≤ n → f ≤ s.size → skipEnd s (skipEnd s f) = skipEnd s f
  | 0, f, hn, hf => by
    have : f = s.size := by omega
    subst this; rw [skipEnd_end, skipEnd_end]
  | n + 1, f, hn, hf => by
    by_cases hfs : f = s.size
    · subst hfs; rw [skipEnd_end, skipEnd_end]
    · have hlt : f < s.size := by omega
      cases hsp : isSpace (cur s f)
      · cases hc : onCom s f
        · have e := skipEnd_stop hf hsp hc
          rw [e, e]
        · rw [skipEnd_line hlt hsp hc]
          have h1 := lineEnd_com hc
          have h2 := lineEnd_bd hf
          exact skipEnd_idem n _ (by omega) h2.2
      · rw [skipEnd_space hlt hsp]
        exact skipEnd_idem n _ (by omega) (by omega)

theorem lexTo_err_ge {s : ByteArray} : ∀ n j e, lexTo s n j = .error e → j ≤ e
  | 0, j, e, h => by simp [lexTo] at h
  | n + 1, j, e, h => by
    simp only [lexTo] at h
    split at h
    · rename_i hlt
      split at h
      · rename_i ho
        have h3 := tokEnd_gt hlt ho
        have h4 := skipEnd_bd h3.2
        cases hr : lexTo s n (skipEnd s (tokEnd s j)) with
        | error e' =>
          rw [hr] at h; cases h
          have := lexTo_err_ge n _ _ hr; omega
        | ok m => rw [hr] at h; cases h
      · cases h; exact Nat.le_refl _
    · cases h
theorem lexFrom_any {s : ByteArray} {n j : Nat} (h : s.size + 1 - j ≤ n) : lexTo s n j = lexFrom s j := lexTo_fuel _ _ _ h (Nat.le_refl _)

/-- u begins with s; what follows ends every token; no comment of s reaches its end (or the line ends there). -/
structure Begins (s u : ByteArray) : Prop where
  sim : Sim s u 0 0 s.size
  bd : bnd (cur u s.size) = true
def Closes (s u : ByteArray) : Prop := u.size = s.size ∨ cur u s.size = 10 ∨ ∀ i, i < s.size → onCom s i = true → lineEnd s i ≠ s.size

theorem begins_skip {s u : ByteArray} (h : Begins s u) {f : Nat} (hf : f ≤ s.size) (hlt : skipEnd s f < s.size) : skipEnd u f = skipEnd s f := by
  have := (skip_sim h.sim (by rw [Nat.zero_add]; exact bnd_slash h.bd) s.size f (by omega) hf (by rw [Nat.zero_add]; have := skipEnd_bd hf; omega)).1 (by simp only [Nat.zero_add]; exact hlt)
  simp only [Nat.zero_add, Nat.add_zero] at this; exact this
theorem begins_tok {s u : ByteArray} (h : Begins s u) {p : Nat} (hp : p < s.size) : tokAt u p = tokAt s p ∧ tokOk u p = tokOk s p := by
  have := tok_sim h.sim (by rw [Nat.zero_add]; exact h.bd) hp (by simp only [Nat.zero_add]; exact (tokEnd_le hp).2) (.inr (by simp))
  simp only [Nat.zero_add, Nat.add_zero] at this
  exact ⟨by rw [tokAt, tokAt, this.1, this.2.1], this.2.2⟩

theorem begins_err {s u : ByteArray} (h : Begins s u) : ∀ n f e, f ≤ s.size → s.size + 1 - skipEnd s f ≤ n → lexTo s n (skipEnd s f) = .error e → lexFrom u (skipEnd u f) = .error e
  | 0, f, e, hf, hn, hl => by simp [lexTo] at hl
  | n + 1, f, e, hf, hn, hl => by
    have hu := h.sim.hu
    rw [Nat.zero_add] at hu
    simp only [lexTo] at hl
    split at hl
    · rename_i hlt
      have ht := begins_tok h hlt
      rw [begins_skip h hf hlt]
      split at hl
      · rename_i ho
        have h3 := tokEnd_gt hlt ho
        have h4 := skipEnd_bd h3.2
        cases hr : lexTo s n (skipEnd s (tokEnd s (skipEnd s f))) with
        | error e' =>
          rw [hr] at hl
          have ih := begins_err h n _ e' h3.2 (by omega) hr
          rw [lexFrom_tok (by omega) (by rw [ht.2]; exact ho)]
          have e1 : tokEnd u (skipEnd s f) = tokEnd s (skipEnd s f) := congrArg Tok.stop ht.1
          rw [e1, ih]; exact hl
        | ok m => rw [hr] at hl; cases hl
      · rename_i ho
        cases hl
        exact lexFrom_err (by omega) (by rw [ht.2]; simpa using ho)
    · cases hl
theorem begins_ok {s u : ByteArray} (h : Begins s u) (hc : Closes s u) : ∀ n f l, f ≤ s.size → s.size + 1 - skipEnd s f ≤ n → lexTo s n (skipEnd s f) = .ok l → lexFrom u (skipEnd u f) = pre l (lexFrom u (skipEnd u s.size))
  | 0, f, l, hf, hn, hl => by have := skipEnd_bd hf; omega
  | n + 1, f, l, hf, hn, hl => by
    have hu := h.sim.hu
    rw [Nat.zero_add] at hu
    simp only [lexTo] at hl
    split at hl
    · rename_i hlt
      have ht := begins_tok h hlt
      rw [begins_skip h hf hlt]
      split at hl
      · rename_i ho
        have h3 := tokEnd_gt hlt ho
        have h4 := skipEnd_bd h3.2
        cases hr : lexTo s n (skipEnd s (tokEnd s (skipEnd s f))) with
        | error e' => rw [hr] at hl; cases hl
        | ok m =>
          rw [hr] at hl
          have ih := begins_ok h hc n _ m h3.2 (by omega) hr
          rw [lexFrom_tok (by omega) (by rw [ht.2]; exact ho)]
          have e1 : tokEnd u (skipEnd s f) = tokEnd s (skipEnd s f) := congrArg Tok.stop ht.1
          rw [e1, ih, ht.1, pre_pre]
          cases hl; rfl
      · cases hl
    · rename_i hlt
      have hb := skipEnd_bd hf
      cases hl
      rw [pre_nil]
      have := (skip_sim' h.sim (by rw [Nat.zero_add]; exact bnd_slash h.bd) s.size f (by omega) hf (by rw [Nat.zero_add]; omega)).2 (by simp only [Nat.zero_add]; omega) (by
        rcases hc with hc | hc | hc
        · exact .inl (by omega)
        · exact .inr (.inl (by simpa using hc))
        · exact .inr (.inr (by simpa using hc)))
      simp only [Nat.zero_add] at this
      rw [this]

/-- s is lexed in u from c on, where it ends u. -/
def shiftTok (c : Nat) (t : Tok) : Tok := ⟨t.kind, t.start + c, t.stop + c⟩
def shiftRes (c : Nat) : Res → Res
  | .error e => .error (e + c)
  | .ok l => .ok (l.map (shiftTok c))
theorem shiftRes_pre (c : Nat) (l : List Tok) (r : Res) : shiftRes c (pre l r) = pre (l.map (shiftTok c)) (shiftRes c r) := by
  cases r <;> simp [shiftRes, pre]

theorem ends_skip {s u : ByteArray} {a c : Nat} (h : Sim s u a c (s.size - a)) (he : c + (s.size - a) = u.size) {i : Nat} (hi : i ≤ s.size - a) : skipEnd u (c + i) + a = skipEnd s (a + i) + c := by
  have hs := h.hs
  have hb := skipEnd_bd (s := s) (k := a + i) (by omega)
  have h0 : cur u (c + (s.size - a)) = 0 := cur_end (by omega)
  have hk := skip_sim h (by rw [h0]; decide) (s.size - a) i (by omega) hi (by omega)
  by_cases hlt : skipEnd s (a + i) < a + (s.size - a)
  · exact hk.1 hlt
  · have := hk.2 (by omega) (.inl he)
    rw [this, he, skipEnd_end]; omega
theorem ends_lex {s u : ByteArray} {a c : Nat} (h : Sim s u a c (s.size - a)) (he : c + (s.size - a) = u.size) : ∀ n i, i ≤ s.size - a → s.size - (a + i) < n → ∀ r, lexFrom s (a + i) = r → 
    (match r with
      | .error e => lexFrom u (c + i) = .error (e - a + c) ∧ a ≤ e
      | .ok l => lexFrom u (c + i) = .ok (l.map fun t => ⟨t.kind, t.start - a + c, t.stop - a + c⟩))
  | 0, i, hi, hn, r, hr => by omega
  | n + 1, i, hi, hn, r, hr => by
    have hs := h.hs
    have h0 : cur u (c + (s.size - a)) = 0 := cur_end (by omega)
    by_cases hlt : a + i < s.size
    · have ht := tok_sim h (by rw [h0]; rfl) (show i < s.size - a by omega) (by have := (tokEnd_le hlt).2; omega) (.inr (by omega))
      cases ho : tokOk s (a + i)
      · rw [lexFrom_err hlt ho] at hr
        subst hr
        refine ⟨?_, by omega⟩
        rw [lexFrom_err (by omega) (by rw [ht.2.2]; exact ho)]
        congr 1; omega
      · have h3 := tokEnd_gt hlt ho
        have h4 := skipEnd_bd h3.2
        rw [lexFrom_tok hlt ho] at hr
        have e2 : lexFrom u (c + i) = _ := lexFrom_tok (by omega) (by rw [ht.2.2]; exact ho)
        obtain ⟨x, hx⟩ : ∃ x, tokEnd s (a + i) = a + x := ⟨tokEnd s (a + i) - a, by omega⟩
        have hx2 : tokEnd u (c + i) = c + x := by omega
        have hsk := ends_skip h he (i := x) (by omega)
        obtain ⟨y, hy⟩ : ∃ y, skipEnd s (a + x) = a + y := ⟨skipEnd s (a + x) - a, by rw [hx] at h4; omega⟩
        have hy2 : skipEnd u (c + x) = c + y := by omega
        rw [hx] at hr h4 h3
        rw [hy] at hr h4
        have ih := ends_lex h he n y (by omega) (by omega) _ rfl
        have et : tokAt u (c + i) = ⟨(tokAt s (a + i)).kind, (tokAt s (a + i)).start - a + c, (tokAt s (a + i)).stop - a + c⟩ := by
          simp only [tokAt, hx2, hx, ht.1]
          congr 1 <;> omega
        rw [hx2, hy2, et] at e2
        cases hrr : lexFrom s (a + y) with
        | error e =>
          rw [hrr] at hr ih; subst hr
          simp only at ih
          exact ⟨by rw [e2, ih.1]; rfl, ih.2⟩
        | ok m =>
          rw [hrr] at hr ih; subst hr
          simp only at ih
          show lexFrom u (c + i) = _
          rw [e2, ih]; rfl
    · rw [lexFrom_end hlt] at hr
      subst hr
      show lexFrom u (c + i) = _
      rw [lexFrom_end (by omega)]; rfl
end Go.Proofs.YtmcokfalkkjgmaaDoor

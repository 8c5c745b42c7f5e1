/- Where two texts agree, the lexer's plain functions agree. -/
import Derived.Test.YtmcokfalkkjgmaaDoorM
namespace Go.Proofs.YtmcokfalkkjgmaaDoor
open Go.RowKit

theorem adv_spec {q : Nat → Bool} : ∀ d k, (∀ j, k ≤ j → j < adv q d k → q j = true) ∧ (adv q d k = k + d ∨ q (adv q d k) = false)
  | 0, k => ⟨fun j h1 h2 => by simp [adv] at h2; omega, .inl (by simp [adv])⟩
  | d + 1, k => by
    have ih := adv_spec (q := q) d (k + 1)
    cases h : q k
    · have e : adv q (d + 1) k = k := adv_no h
      rw [e]; exact ⟨fun j h1 h2 => by omega, .inr h⟩
    · have e : adv q (d + 1) k = adv q d (k + 1) := by simp [adv, h]
      rw [e]
      refine ⟨fun j h1 h2 => ?_, ?_⟩
      · by_cases hj : j = k
        · rw [hj]; exact h
        · exact ih.1 j (by omega) h2
      · rcases ih.2 with h2 | h2
        · exact .inl (by omega)
        · exact .inr h2
theorem adv_eq {q : Nat → Bool} : ∀ d k e, k ≤ e → e ≤ k + d → (∀ j, k ≤ j → j < e → q j = true) → (e = k + d ∨ q e = false) → adv q d k = e
  | 0, k, e, h1, h2, _, _ => by simp [adv]; omega
  | d + 1, k, e, h1, h2, h3, h4 => by
    by_cases he : e = k
    · subst he
      rcases h4 with h4 | h4
      · omega
      · exact adv_no h4
    · have hk := h3 k (Nat.le_refl _) (by omega)
      have : adv q (d + 1) k = adv q d (k + 1) := by simp [adv, hk]
      rw [this]
      refine adv_eq d (k + 1) e (by omega) (by omega) (fun j h5 h6 => h3 j (by omega) h6) ?_
      rcases h4 with h4 | h4
      · exact .inl (by omega)
      · exact .inr h4

/-- From a in s and from c in u the next m bytes are the same. -/
structure Sim (s u : ByteArray) (a c m : Nat) : Prop where
  hs : a + m ≤ s.size
  hu : c + m ≤ u.size
  eq : ∀ i, i < m → cur u (c + i) = cur s (a + i)

/-- No token goes on at such a byte (0 also stands for the end). -/
def bnd (c : Nat) : Bool := c == 0 || isSpace c
theorem bnd_word {c : Nat} (h : bnd c = true) : isWord c = false := by
  simp [bnd, isSpace] at h
  rcases h with rfl | ((rfl | rfl) | rfl) | rfl <;> rfl
theorem bnd_digit {c : Nat} (h : bnd c = true) : isDigit c = false := by
  simp [bnd, isSpace] at h
  rcases h with rfl | ((rfl | rfl) | rfl) | rfl <;> rfl
theorem bnd_slash {c : Nat} (h : bnd c = true) : c ≠ 47 := by
  simp [bnd, isSpace] at h
  omega
theorem sym_bnd : ∀ j : Fin 29, ∀ x : Fin 3, (x : Nat) < (sym j).size → bnd (cur (sym j) x) = false := by decide +kernel

section
variable {s u : ByteArray} {a c m : Nat}

theorem run_sim (h : Sim s u a c m) (q : Nat → Bool) (hb : q (cur u (c + m)) = false) {i : Nat} (_hi : i ≤ m)
    (hle : adv (fun j => q (cur s j)) (s.size - (a + i)) (a + i) ≤ a + m) :
    adv (fun j => q (cur u j)) (u.size - (c + i)) (c + i) + a = adv (fun j => q (cur s j)) (s.size - (a + i)) (a + i) + c := by
  have h1 := h.hs
  have h2 := h.hu
  have hbd := adv_ge (fun j => q (cur s j)) (s.size - (a + i)) (a + i)
  have hsp := adv_spec (q := fun j => q (cur s j)) (s.size - (a + i)) (a + i)
  obtain ⟨e, he⟩ : ∃ e, adv (fun j => q (cur s j)) (s.size - (a + i)) (a + i) = e := ⟨_, rfl⟩
  rw [he] at hle hbd hsp ⊢
  have : adv (fun j => q (cur u j)) (u.size - (c + i)) (c + i) = e - a + c := by
    refine adv_eq _ _ _ (by omega) (by omega) (fun j h3 h4 => ?_) ?_
    · have e1 := h.eq (j - c) (by omega)
      rw [show c + (j - c) = j by omega] at e1
      show q (cur u j) = true
      rw [e1]
      exact hsp.1 _ (by omega) (by omega)
    · refine .inr ?_
      show q (cur u (e - a + c)) = false
      by_cases hem : e = a + m
      · rw [show e - a + c = c + m by omega]; exact hb
      · have e1 := h.eq (e - a) (by omega)
        rw [show e - a + c = c + (e - a) by omega, e1, show a + (e - a) = e by omega]
        rcases hsp.2 with h5 | h5
        · omega
        · exact h5
  omega

theorem fit_sim (h : Sim s u a c m) (hb : bnd (cur u (c + m)) = true) {i j : Nat} (hi : i < m) (hj : j < 29) (hf : Fits (sym j) u (c + i)) :
    Fits (sym j) s (a + i) ∧ i + (sym j).size ≤ m := by
  have h1 := h.hs
  have h2 := h.hu
  have hsz := sym_size j hj
  have hm : i + (sym j).size ≤ m := by
    refine Nat.le_of_not_lt fun hlt => ?_
    have e1 := hf.2 (m - i) (by omega)
    rw [show c + i + (m - i) = c + m by omega] at e1
    have := sym_bnd ⟨j, hj⟩ ⟨m - i, by omega⟩ (by simp; omega)
    simp only at this
    rw [e1, hb] at this; cases this
  refine ⟨⟨by omega, fun x hx => ?_⟩, hm⟩
  have e1 := hf.2 x hx
  have e2 := h.eq (i + x) (by omega)
  rw [show c + (i + x) = c + i + x by omega, show a + (i + x) = a + i + x by omega] at e2
  rw [e1, e2]
theorem fit_back (h : Sim s u a c m) {i j : Nat} (hf : Fits (sym j) s (a + i)) (hm : i + (sym j).size ≤ m) : Fits (sym j) u (c + i) := by
  have h2 := h.hu
  refine ⟨by omega, fun x hx => ?_⟩
  have e1 := hf.2 x hx
  have e2 := h.eq (i + x) (by omega)
  rw [show c + (i + x) = c + i + x by omega, show a + (i + x) = a + i + x by omega] at e2
  rw [e1, ← e2]

theorem sym_sim_some (h : Sim s u a c m) (hb : bnd (cur u (c + m)) = true) {i e : Nat} (hi : i < m) (he : symEnd s (a + i) = some e) (hle : e ≤ a + m) :
    symEnd u (c + i) = some (e - a + c) := by
  obtain ⟨j, _, hj, hf, rfl, hno⟩ := symFrom_first 29 0 (by omega) he
  have hf' := fit_back h ((fitB_iff _ _ _).1 hf) (by omega)
  have := symFrom_some (j := j) (k := c + i) (s := u) 29 0 (by omega) hj hf' (fun x hx hfx => by
    have := (fit_sim h hb hi (by omega) hfx).1
    rw [← fitB_iff, hno x (by omega) hx] at this; cases this)
  rw [symEnd, this]
  congr 1; omega
theorem sym_sim_none (h : Sim s u a c m) (hb : bnd (cur u (c + m)) = true) {i : Nat} (hi : i < m) (he : symEnd s (a + i) = none) : symEnd u (c + i) = none :=
  symFrom_none 29 0 fun x hx hfx => by
    have h1 := (fit_sim h hb hi (by omega) hfx).1
    rw [← fitB_iff, symFrom_empty 29 0 (by omega) he x (by omega) hx] at h1; cases h1

theorem tok_sim (h : Sim s u a c m) (hb : bnd (cur u (c + m)) = true) {i : Nat} (hi : i < m) (hle : tokEnd s (a + i) ≤ a + m) (hok : tokOk s (a + i) = true ∨ a + m = s.size) :
    tokKind u (c + i) = tokKind s (a + i) ∧ tokEnd u (c + i) + a = tokEnd s (a + i) + c ∧ tokOk u (c + i) = tokOk s (a + i) := by
  have h1 := h.hs
  have h2 := h.hu
  have he := h.eq i hi
  unfold tokKind tokEnd tokOk at *
  rw [he]
  cases hl : isLetter (cur s (a + i))
  · rw [hl] at hle hok
    simp only [Bool.false_eq_true, if_false] at hle hok ⊢
    cases hd : isDigit (cur s (a + i))
    · rw [hd] at hle hok
      simp only [Bool.false_eq_true, if_false] at hle hok ⊢
      cases hs : symEnd s (a + i) with
      | none => rw [sym_sim_none h hb hi hs]; simp; omega
      | some e =>
        rw [hs] at hle
        have := symEnd_bd hs
        simp only [Option.getD_some] at hle
        rw [sym_sim_some h hb hi hs hle]; simp; omega
    · rw [hd] at hle hok
      simp only [if_true] at hle hok ⊢
      have hr : digitEnd u (c + i) + a = digitEnd s (a + i) + c := run_sim h isDigit (bnd_digit hb) (Nat.le_of_lt hi) hle
      refine ⟨trivial, hr, ?_⟩
      have hge := (adv_ge (fun j => isDigit (cur s j)) (s.size - (a + i)) (a + i)).1
      have hge : a + i ≤ digitEnd s (a + i) := hge
      have e1 : digitEnd u (c + i) - (c + i) = digitEnd s (a + i) - (a + i) := by omega
      have e2 : isWord (cur u (digitEnd u (c + i))) = isWord (cur s (digitEnd s (a + i))) := by
        by_cases hem : digitEnd s (a + i) = a + m
        · rw [show digitEnd u (c + i) = c + m by omega, bnd_word hb]
          rcases hok with hok | hok
          · simp only [Bool.and_eq_true, Bool.not_eq_true'] at hok
            exact hok.2.symm
          · rw [hem, show cur s (a + m) = 0 by simp [cur, hok]]; rfl
        · have e3 := h.eq (digitEnd s (a + i) - a) (by omega)
          rw [show c + (digitEnd s (a + i) - a) = digitEnd u (c + i) by omega, show a + (digitEnd s (a + i) - a) = digitEnd s (a + i) by omega] at e3
          rw [e3]
      rw [e1, e2]
  · rw [hl] at hle hok
    simp only [if_true] at hle hok ⊢
    have hr : wordEnd u (c + i) + a = wordEnd s (a + i) + c := run_sim h isWord (bnd_word hb) (Nat.le_of_lt hi) hle
    have hge := (adv_ge (fun j => isWord (cur s j)) (s.size - (a + i)) (a + i)).1
    have hge : a + i ≤ wordEnd s (a + i) := hge
    have e1 : wordEnd u (c + i) - (c + i) = wordEnd s (a + i) - (a + i) := by omega
    exact ⟨trivial, hr, by rw [e1]⟩

theorem lineEnd_com2 {k : Nat} (h : onCom s k = true) : k + 2 ≤ lineEnd s k := by
  simp [onCom] at h
  have hk1 : k + 1 < s.size := cur_pos (by omega)
  have e1 : lineEnd s k = lineEnd s (k + 1) := adv_yes (q := fun j => inLine s j) (by omega) (by simp [inLine, h.1]; omega)
  have e2 : lineEnd s (k + 1) = lineEnd s (k + 2) := adv_yes (q := fun j => inLine s j) hk1 (by simp [inLine, h.2, hk1])
  have := adv_ge (fun j => inLine s j) (s.size - (k + 2)) (k + 2)
  have e3 : lineEnd s (k + 2) = adv (fun j => inLine s j) (s.size - (k + 2)) (k + 2) := rfl
  omega

theorem line_sim (h : Sim s u a c m) {i l : Nat} (hi : i ≤ m) (hl : lineEnd s (a + i) = a + l) (hlm : l ≤ m) (hbd : l = m → c + m = u.size ∨ cur u (c + m) = 10) :
    lineEnd u (c + i) = c + l := by
  have h1 := h.hs
  have h2 := h.hu
  have hge := (adv_ge (fun j => inLine s j) (s.size - (a + i)) (a + i)).1
  have hge : a + i ≤ lineEnd s (a + i) := hge
  have hsp := adv_spec (q := fun j => inLine s j) (s.size - (a + i)) (a + i)
  have el : adv (fun j => inLine s j) (s.size - (a + i)) (a + i) = a + l := hl
  rw [el] at hsp
  refine adv_eq _ _ _ (by omega) (by omega) (fun j h3 h4 => ?_) ?_
  · have e1 := h.eq (j - c) (by omega)
    rw [show c + (j - c) = j by omega] at e1
    have := hsp.1 (a + (j - c)) (by omega) (by omega)
    simp [inLine] at this ⊢
    exact ⟨by omega, by rw [e1]; exact this.2⟩
  · by_cases hem : l = m
    · rcases hbd hem with h5 | h5
      · exact .inl (by omega)
      · refine .inr ?_
        simp [inLine]; intro _; rw [hem]; exact h5
    · refine .inr ?_
      have e1 := h.eq l (by omega)
      rcases hsp.2 with h5 | h5
      · omega
      · simp [inLine] at h5 ⊢
        intro _; rw [e1]; exact h5 (by omega)

theorem skip_sim' (h : Sim s u a c m) (hb : cur u (c + m) ≠ 47) : ∀ d i, m - i ≤ d → i ≤ m → skipEnd s (a + i) ≤ a + m →
    (skipEnd s (a + i) < a + m → skipEnd u (c + i) + a = skipEnd s (a + i) + c) ∧
    (skipEnd s (a + i) = a + m → (c + m = u.size ∨ cur u (c + m) = 10 ∨ ∀ i, i < m → onCom s (a + i) = true → lineEnd s (a + i) ≠ a + m) → skipEnd u (c + i) = skipEnd u (c + m)) := by
  have h1 := h.hs
  have h2 := h.hu
  intro d
  induction d with
  | zero =>
    intro i hd hi hle
    have : i = m := by omega
    subst this
    have := skipEnd_bd h1
    exact ⟨fun hlt => by omega, fun _ _ => rfl⟩
  | succ d ih =>
    intro i hd hi hle
    by_cases him : i = m
    · subst him
      have := skipEnd_bd h1
      exact ⟨fun hlt => by omega, fun _ _ => rfl⟩
    · have hik : a + i < s.size := by omega
      have hiu : c + i < u.size := by omega
      have he := h.eq i (by omega)
      cases hsp : isSpace (cur s (a + i))
      · cases hc : onCom s (a + i)
        · have e1 := skipEnd_stop (Nat.le_of_lt hik) hsp hc
          have hcu : onCom u (c + i) = false := by
            simp only [onCom, he] at hc ⊢
            by_cases h47 : cur s (a + i) = 47
            · have hne : cur s (a + i + 1) ≠ 47 := by intro h5; simp [h47, h5] at hc
              have hnu : cur u (c + i + 1) ≠ 47 := by
                by_cases hm1 : i + 1 = m
                · rw [show c + i + 1 = c + m by omega]; exact hb
                · have := h.eq (i + 1) (by omega)
                  rw [show c + i + 1 = c + (i + 1) by omega, this]; exact hne
              simp [hnu]
            · simp [h47]
          have e2 := skipEnd_stop (Nat.le_of_lt hiu) (by rw [he]; exact hsp) hcu
          exact ⟨fun _ => by omega, fun h5 => by omega⟩
        · have e1 := skipEnd_line hik hsp hc
          have hg2 := lineEnd_com2 hc
          have hlb := lineEnd_bd (Nat.le_of_lt hik)
          have hlk := skipEnd_bd hlb.2
          have hcu : onCom u (c + i) = true := by
            have := h.eq (i + 1) (by omega)
            simp only [onCom, he] at hc ⊢
            rw [show c + i + 1 = c + (i + 1) by omega, this]; exact hc
          have e2 := skipEnd_line hiu (by rw [he]; exact hsp) hcu
          obtain ⟨l, hl⟩ : ∃ l, lineEnd s (a + i) = a + l := ⟨lineEnd s (a + i) - a, by omega⟩
          rw [hl] at e1 hg2 hlb hlk
          by_cases hlm : l = m
          · subst hlm
            refine ⟨fun h5 => by omega, fun h5 h6 => ?_⟩
            have h6 : c + l = u.size ∨ cur u (c + l) = 10 := by
              rcases h6 with h6 | h6 | h6
              · exact .inl h6
              · exact .inr h6
              · exact absurd hl (h6 i (by omega) hc)
            rw [e2, line_sim h hi hl (Nat.le_refl _) (fun _ => h6)]
          · have := line_sim h hi hl (by omega) (fun h5 => absurd h5 hlm)
            rw [e1] at hle
            have ih' := ih l (by omega) (by omega) hle
            rw [e1, e2, this]
            exact ih'
      · have e1 := skipEnd_space hik hsp
        have e2 := skipEnd_space hiu (by rw [he]; exact hsp)
        rw [show a + i + 1 = a + (i + 1) by omega] at e1
        rw [show c + i + 1 = c + (i + 1) by omega] at e2
        rw [e1] at hle
        have ih' := ih (i + 1) (by omega) (by omega) hle
        rw [e1, e2]
        exact ih'
theorem skip_sim (h : Sim s u a c m) (hb : cur u (c + m) ≠ 47) (d i : Nat) (hd : m - i ≤ d) (hi : i ≤ m) (hle : skipEnd s (a + i) ≤ a + m) :
    (skipEnd s (a + i) < a + m → skipEnd u (c + i) + a = skipEnd s (a + i) + c) ∧
    (skipEnd s (a + i) = a + m → (c + m = u.size ∨ cur u (c + m) = 10) → skipEnd u (c + i) = skipEnd u (c + m)) :=
  ⟨(skip_sim' h hb d i hd hi hle).1, fun h1 h2 => (skip_sim' h hb d i hd hi hle).2 h1 (by
    rcases h2 with h2 | h2
    · exact .inl h2
    · exact .inr (.inl h2))⟩
end

theorem cur_extract {s : ByteArray} {a b i : Nat} (hb : b ≤ s.size) : cur (s.extract a b) i = if a + i < b then cur s (a + i) else 0 := by
  by_cases h : a + i < b
  · rw [if_pos h]
    have h1 : i < (s.extract a b).size := by rw [ByteArray.size_extract]; omega
    rw [cur_get h1, cur_get (show a + i < s.size by omega), ByteArray.getElem_extract]
  · rw [if_neg h]
    have h1 : ¬ i < (s.extract a b).size := by rw [ByteArray.size_extract]; omega
    unfold cur; rw [dif_neg h1]
theorem sim_extract {s : ByteArray} {a b : Nat} (hab : a ≤ b) (hb : b ≤ s.size) : Sim s (s.extract a b) a 0 (b - a) :=
  ⟨by omega, by rw [ByteArray.size_extract]; omega, fun i hi => by rw [Nat.zero_add, cur_extract hb, if_pos (by omega)]⟩
theorem cur_end {s : ByteArray} {i : Nat} (h : s.size ≤ i) : cur s i = 0 := by simp [cur, Nat.not_lt.2 h]

/-- The gap between two tokens, alone, is white space and comments. -/
theorem gap_void {s : ByteArray} {a b : Nat} (hb : b ≤ s.size) (h : skipEnd s a = b) (ha : a ≤ s.size) : skipEnd (s.extract a b) 0 = (s.extract a b).size := by
  have hab := (skipEnd_bd ha).1
  rw [h] at hab
  have hsz : (s.extract a b).size = b - a := by rw [ByteArray.size_extract]; omega
  have h1 := skip_sim (sim_extract hab hb) (by rw [Nat.zero_add, cur_end (by omega)]; decide) (b - a) 0 (by omega) (by omega) (by simp only [Nat.add_zero]; omega)
  have h2 := h1.2 (by simp only [Nat.add_zero]; omega) (.inl (by omega))
  rw [h2, Nat.zero_add, ← hsz, skipEnd_end]
end Go.Proofs.YtmcokfalkkjgmaaDoor

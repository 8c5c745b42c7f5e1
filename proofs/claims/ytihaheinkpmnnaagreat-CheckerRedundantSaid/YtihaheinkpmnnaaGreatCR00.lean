/- CheckerRedundant is proved: for every input, the law returns true and leaves its arguments as they were (a justified clause, learnt and deleted again, changes nothing); there are no further conditions. -/
import Derived.Test.YtihaheinkpmnnaaGreatCA35
import Derived.ProofKit
import Derived.OpenShut
import Derived.Stop.Joined
import Derived.SevenTiedAt
import Derived.Deep.Slices
import Derived.Deep.Strs
import Derived.ChangeSame
import Derived.Lib.SmallJoins
namespace Go.Proofs.YtihaheinkpmnnaaGreat
theorem der_same {C D : List (List Int)} {A B : List Int} (hC : ∀ c ∈ C, ∃ d ∈ D, ∀ y, y ∈ c ↔ y ∈ d) (hA : ∀ x ∈ A, x ∈ B) {x : Int} (h : Der C A x) : Der D B x := by
  induction h with
  | ass x hx => exact .ass x (hA x hx)
  | imp c x hc hx _ ih =>
    obtain ⟨d, hd, he⟩ := hC c hc
    exact .imp d x hd ((he x).1 hx) (fun y hy hne => ih y ((he y).2 hy) hne)
theorem conf_same {C D : List (List Int)} {A B : List Int} (hC : ∀ c ∈ C, ∃ d ∈ D, ∀ y, y ∈ c ↔ y ∈ d) (hA : ∀ x ∈ A, x ∈ B) (h : Conf C A) : Conf D B := by
  obtain ⟨c, hc, hall⟩ := h
  obtain ⟨d, hd, he⟩ := hC c hc
  exact ⟨d, hd, fun y hy => der_same hC hA (hall y ((he y).2 hy))⟩
end Go.Proofs.YtihaheinkpmnnaaGreat
namespace Go.Proofs.YtihaheinkpmnnaaGreat
set_option maxRecDepth 200000
theorem SubE.mem {E C D : List (List Int)} (h : SubE E C D) {c : List Int} (hc : c ∈ C) : ∃ d ∈ D, ∀ y, y ∈ c ↔ y ∈ d := by
  have h1 : normL c ∈ D.map normL := h.mem_iff.2 (List.mem_append_left _ (List.mem_map.2 ⟨c, hc, rfl⟩))
  obtain ⟨d, hd, e⟩ := List.mem_map.1 h1
  exact ⟨d, hd, fun y => by rw [← mem_norm (L := c), ← e, mem_norm]⟩
theorem del_erase (C : List (List Int)) (L : List Int) : (C.map normL).erase (normL L) = match delP C L with | some D => D.map normL | none => C.map normL := by
  rw [List.erase_eq_eraseP, List.eraseP_map]
  have e : ((fun x => normL L == x) ∘ normL) = fun c => eqS c L := by
    funext c
    rw [Function.comp, eqS_dec, Bool.eq_iff_iff, beq_iff_eq, decide_eq_true_eq]
    exact eq_comm
  rw [e, List.eraseP_eq_eraseIdx]
  unfold delP
  cases C.findIdx? (fun c => eqS c L) <;> rfl
theorem del_none {C : List (List Int)} {L : List Int} : delP C L = none ↔ normL L ∉ C.map normL := by
  unfold delP
  rw [Option.map_eq_none_iff, List.findIdx?_eq_none_iff, List.mem_map]
  constructor
  · rintro h ⟨c, hc, e⟩
    have := h c hc
    rw [eqS_norm.2 e] at this; cases this
  · intro h c hc
    cases hq : eqS c L with
    | false => rfl
    | true => exact absurd ⟨c, hc, eqS_norm.1 hq⟩ h
theorem del_sub {E C D : List (List Int)} (h : SubE E C D) {L : List Int} {C' : List (List Int)} (hd : delP C L = some C') : ∃ D', delP D L = some D' ∧ SubE E C' D' := by
  have hm : normL L ∈ C.map normL := by
    cases Decidable.em (normL L ∈ C.map normL) with
    | inl h => exact h
    | inr h => rw [del_none.2 h] at hd; cases hd
  cases hq : delP D L with
  | none => exact absurd (h.mem_iff.2 (List.mem_append_left _ hm)) (del_none.1 hq)
  | some D' =>
    refine ⟨D', rfl, ?_⟩
    have h1 := del_erase C L
    have h2 := del_erase D L
    rw [hd] at h1
    rw [hq] at h2
    simp only at h1 h2
    unfold SubE
    rw [← h1, ← h2, ← List.erase_append_left _ hm]
    exact h.erase _
theorem imp_mono {V W : Nat} {C D : List (List Int)} (hR : Ran V C) (hR' : Ran W D) (h : ∀ c ∈ C, ∃ d ∈ D, ∀ y, y ∈ c ↔ y ∈ d) {L : List Int} (hi : impB V C L = true) : impB W D L = true := by
  rw [impB_iff hR] at hi
  rw [impB_iff hR']
  rcases hi with hi | hi
  · exact .inl hi
  · exact .inr (conf_same h (fun x hx => hx) hi)
theorem okS_mono {V W : Int} {x : St} (h : okS V x = true) (h3 : x.1 ≠ 3) (hk : knownB W x.2.1 = true) : okS W x = true := by
  unfold okS at h ⊢
  by_cases h1 : x.1 = 1 ∨ x.1 = 2
  · rw [if_pos h1] at h ⊢
    rw [Bool.and_eq_true] at h ⊢
    exact ⟨h.1, hk⟩
  · rw [if_neg h1] at h ⊢
    by_cases h4 : x.1 = 4
    · rw [if_pos h4] at h ⊢
      simp only [Bool.and_eq_true] at h ⊢
      exact ⟨h.1, h.2.1, hk⟩
    · rw [if_neg h4, if_neg h3] at h; cases h
theorem wf_mono {V W : Nat} {x : St} (h : wfS V x = true) (hw : V ≤ W) (hW : W ≤ 20000) (h3 : x.1 = 3 → V = W) : wfS W x = true := by
  by_cases e3 : x.1 = 3
  · rw [← h3 e3]; exact h
  have hk : knownB W x.2.1 = true := knownB_iff.2 fun y hy => inR_mono (wf_known h e3 y hy) hw
  unfold wfS at h ⊢
  rw [Bool.and_eq_true, decide_eq_true_eq] at h ⊢
  exact ⟨by omega, okS_mono h.2 e3 hk⟩
theorem sy_mono {F : CkS} {Y C D : List (List Int)} (h : ∀ c ∈ C, ∃ d ∈ D, ∀ y, y ∈ c ↔ y ∈ d) {x : St} (hs : syB F Y C x = true) : syB F Y D x = true := by
  unfold syB at hs ⊢
  simp only [Bool.and_eq_true, List.any_eq_true] at hs ⊢
  obtain ⟨h1, h2, c, hc, h3⟩ := hs
  refine ⟨h1, h2, ?_⟩
  obtain ⟨d, hd, he⟩ := h c hc
  refine ⟨d, hd, ?_⟩
  unfold mapB at h3 ⊢
  rw [Bool.and_eq_true, List.all_eq_true] at h3 ⊢
  refine ⟨fun y hy => h3.1 y ((he y).2 hy), ?_⟩
  have h4 := eqS_iff.1 h3.2
  refine eqS_iff.2 fun y => (?_ : _ ↔ _).trans (h4 y)
  unfold imgL
  rw [List.mem_map, List.mem_map]
  exact ⟨fun ⟨z, hz, e⟩ => ⟨z, (he z).2 hz, e⟩, fun ⟨z, hz, e⟩ => ⟨z, (he z).1 hz, e⟩⟩
/-- A justified step stays justified under more clauses and more variables. -/
theorem step_sub {F F' : CkS} {Y E : List (List Int)} {s t : CkS} {x : St} {W : Nat} {D : List (List Int)} (h : stepP F Y s x = some t) (hR : Ran s.1 s.2) (hR' : Ran W D) (hs : SubE E s.2 D) (hw : s.1 ≤ W) (hW : W ≤ 20000)
    (h3 : x.1 = 3 → s.1 = W) (h4 : x.1 = 4 → F' = F) : ∃ D', stepP F' Y (W, D) x = some (W + (t.1 - s.1), D') ∧ SubE E t.2 D' := by
  unfold stepP at h
  by_cases hf : wfS s.1 x = true
  rotate_left
  · rw [if_neg hf] at h; cases h
  rw [if_pos hf] at h
  unfold stepP
  rw [if_pos (wf_mono hf hw hW h3)]
  unfold doP at h ⊢
  by_cases k1 : x.1 = 1
  · rw [if_pos k1] at h ⊢
    split at h
    · rename_i hi
      cases h
      rw [if_pos (imp_mono hR hR' (fun c hc => hs.mem hc) hi)]
      exact ⟨_, by simp, hs.snoc _⟩
    · cases h
  rw [if_neg k1] at h ⊢
  by_cases k2 : x.1 = 2
  · rw [if_pos k2] at h ⊢
    cases hd : delP s.2 x.2.1 with
    | none => rw [hd] at h; cases h
    | some C' =>
      rw [hd] at h
      cases h
      obtain ⟨D', e, hs'⟩ := del_sub hs hd
      exact ⟨D', by simp [e], hs'⟩
  rw [if_neg k2] at h ⊢
  by_cases k3 : x.1 = 3
  · rw [if_pos k3] at h ⊢
    cases h
    have := h3 k3
    subst this
    exact ⟨_, by simp, hs.snoc _⟩
  rw [if_neg k3] at h ⊢
  have k4 : x.1 = 4 := by rcases wf_kind hf with h | h | h | h <;> omega
  rw [h4 k4]
  split at h
  · rename_i hi
    cases h
    rw [if_pos (sy_mono (fun c hc => hs.mem hc) hi)]
    exact ⟨_, by simp, hs.snoc _⟩
  · cases h
end Go.Proofs.YtihaheinkpmnnaaGreat
namespace Go.Proofs.YtihaheinkpmnnaaGreat
open Go.ChangeShapes Go.WideShapes Go.ChangeAt Go.WideMaps Go.WideElems Go.RowKit Go.Deep Go.Joins

set_option maxRecDepth 100000
section
variable {H : Type} {enc : TypeId × Value → H} {W : World}
theorem open_ints {v : Value} {d : DataW H} {ps : List MemPlace} {base : Nat} (hv : Value.okWide Tryz.prog W .any base 34 v) (h : DataW.Trod enc Tryz.prog W 0 (fun _ => true) true 34 v d ps) :
    ∃ (l : List Int) (a : Option Addr) (c : Nat), v = .slice a l.length c ∧ IntsW W a c l ∧ (l.length : Int) ≤ 9223372036854775807 := by
  obtain ⟨ra, rn, rc, rfl⟩ := okWide_slice Tryz.underlying34 hv
  obtain ⟨fuel, hf0⟩ := h
  exact ints_open hf0
end
end Go.Proofs.YtihaheinkpmnnaaGreat
namespace Go.Proofs.YtihaheinkpmnnaaGreat
set_option maxRecDepth 200000
theorem SubE.symm {C D : List (List Int)} (h : SubE [] C D) : SubE [] D C := by
  unfold SubE at h ⊢
  rw [List.append_nil] at h ⊢
  exact h.symm
theorem step_vars {F : CkS} {Y : List (List Int)} {s t : CkS} {x : St} (h : stepP F Y s x = some t) : s.1 ≤ 20000 := by
  unfold stepP at h
  by_cases hf : wfS s.1 x = true
  · unfold wfS at hf
    simp only [Bool.and_eq_true, decide_eq_true_eq] at hf
    omega
  · rw [if_neg hf] at h; cases h
theorem step_same {F : CkS} {Y : List (List Int)} {s : CkS} {D : List (List Int)} {x : St} {v c : Nat} (hf : Fit s v c) (hd : Fit (s.1, D) v c) (hs : SubE [] s.2 D) (hx : x.2.1.length ≤ 12) {t : CkS} (h : stepP F Y s x = some t) :
    ∃ D', stepP F Y (s.1, D) x = some (t.1, D') ∧ SubE [] t.2 D' ∧ Fit t (v + 1) (c + 12) ∧ Fit (t.1, D') (v + 1) (c + 12) := by
  obtain ⟨D', h1, h2⟩ := step_sub (W := s.1) (D := D) h hf.ran hd.ran hs (Nat.le_refl _) (step_vars h) (fun _ => rfl) (fun _ => rfl)
  obtain ⟨f1, f2⟩ := step_fit h hf hx
  rw [show s.1 + (t.1 - s.1) = t.1 by omega] at h1
  exact ⟨D', h1, h2, f1, (step_fit h1 hd hx).1⟩
theorem run_same {F : CkS} {Y : List (List Int)} : ∀ (l : List St) (s : CkS) (D : List (List Int)) (v c : Nat), Fit s v c → Fit (s.1, D) v c → SubE [] s.2 D → (∀ x ∈ l, x.2.1.length ≤ 12) → (runP F Y s l).1 = (runP F Y (s.1, D) l).1
  | [], _, _, _, _, _, _, _, _ => rfl
  | x :: l, s, D, v, c, hf, hd, hs, hl => by
    rw [run_cons, run_cons]
    have hx := hl x (List.mem_cons_self ..)
    cases h : stepP F Y s x with
    | some t =>
      obtain ⟨D', h1, h2, f1, f2⟩ := step_same hf hd hs hx h
      rw [h1]
      simp only
      rw [run_same l t D' _ _ f1 f2 h2 (fun y hy => hl y (List.mem_cons_of_mem _ hy))]
    | none =>
      cases h' : stepP F Y (s.1, D) x with
      | none => rfl
      | some t =>
        obtain ⟨D', h1, _⟩ := step_same (s := (s.1, D)) (D := s.2) hd hf hs.symm hx h'
        rw [show ((s.1, D).1, s.2) = s from rfl, h] at h1
        cases h1
theorem fit_run {F : CkS} {Y : List (List Int)} : ∀ (l : List St) (s : CkS) (v c : Nat), Fit s v c → (∀ x ∈ l, x.2.1.length ≤ 12) → ∃ v' c', Fit (runP F Y s l).2 v' c'
  | [], s, v, c, hf, _ => ⟨v, c, hf⟩
  | x :: l, s, v, c, hf, hl => by
    rw [run_cons]
    cases h : stepP F Y s x with
    | none => exact ⟨v, c, hf⟩
    | some t => exact fit_run l t _ _ (step_fit h hf (hl x (List.mem_cons_self ..))).1 (fun y hy => hl y (List.mem_cons_of_mem _ hy))
/-- Learnt and deleted at once, a clause leaves the clauses as they were. -/
theorem del_snoc (C : List (List Int)) (L : List Int) : ∃ D, delP (C ++ [L]) L = some D ∧ SubE [] C D := by
  have h := del_erase (C ++ [L]) L
  cases hd : delP (C ++ [L]) L with
  | none => exact absurd (by rw [List.map_append]; exact List.mem_append_right _ (List.mem_singleton.2 rfl)) (del_none.1 hd)
  | some D =>
    rw [hd] at h
    simp only at h
    refine ⟨D, rfl, ?_⟩
    unfold SubE
    rw [← h, List.append_nil, List.map_append]
    have := (List.perm_append_comm (l₁ := C.map normL) (l₂ := [normL L])).erase (normL L)
    refine this.trans ?_
    simp
theorem learn_ok {F : CkS} {Y : List (List Int)} {s t : CkS} {L : List Int} (h : stepP F Y s (1, L, 0) = some t) : t = (s.1, s.2 ++ [L]) ∧ ∃ D, stepP F Y t (2, L, 0) = some (s.1, D) ∧ SubE [] s.2 D := by
  unfold stepP at h
  by_cases hf : wfS s.1 ((1 : Int), L, (0 : Int)) = true
  rotate_left
  · rw [if_neg hf] at h; cases h
  rw [if_pos hf] at h
  have ht : t = (s.1, s.2 ++ [L]) := by
    unfold doP at h
    rw [if_pos rfl] at h
    split at h
    · cases h; rfl
    · cases h
  subst ht
  obtain ⟨D, h1, h2⟩ := del_snoc s.2 L
  refine ⟨rfl, D, ?_, h2⟩
  have hf2 : wfS s.1 ((2 : Int), L, (0 : Int)) = true := by
    unfold wfS okS at hf ⊢
    simpa using hf
  unfold stepP
  rw [if_pos hf2]
  unfold doP
  rw [if_neg (by simp), if_pos rfl, h1]
  rfl
/-- The check of a beginning with a clause learnt behind it. -/
theorem front_le (F : CkS) (Y : List (List Int)) (l : List St) {k : Nat} (hk : k ≤ l.length) (c : List Int) (h : chkP F Y (l.take k ++ [(1, c, 0)]) ≠ k + 1) : chkP F Y (l.take k ++ [(1, c, 0)]) ≤ k := by
  have := chk_le F Y (l.take k ++ [(1, c, 0)])
  rw [List.length_append, List.length_take] at this
  simp at this
  omega
theorem redundant {F : CkS} {Y : List (List Int)} {l : List St} {k : Nat} (hk : k ≤ l.length) {c : List Int} {v n : Nat} (hF : Fit F v n) (hl : ∀ x ∈ l, x.2.1.length ≤ 12) (hc12 : c.length ≤ 12) (h : chkP F Y (l.take k ++ [(1, c, 0)]) = k + 1) :
    chkP F Y (l.take k ++ [(1, c, 0)] ++ [(2, c, 0)] ++ l.drop k) = chkP F Y l + 2 := by
  have hlen : (l.take k).length = k := by rw [List.length_take]; omega
  unfold chkP at *
  obtain ⟨r, hr⟩ : ∃ z, runP F Y F (l.take k) = z := ⟨_, rfl⟩
  obtain ⟨v', n', hfit⟩ := fit_run (F := F) (Y := Y) (l.take k) F v n hF (fun x hx => hl x (List.mem_of_mem_take hx))
  rw [hr] at hfit
  have e1 : r.1 = k := by
    by_cases hc : r.1 = k
    · exact hc
    · rw [run_append, hr, hlen, if_neg hc] at h
      have := run_le F Y (l.take k) F
      rw [hr, hlen] at this
      omega
  rw [run_append, hr, hlen, if_pos e1, run_cons] at h
  cases hs : stepP F Y r.2 ((1 : Int), c, (0 : Int)) with
  | none => rw [hs] at h; simp at h
  | some t =>
    obtain ⟨rfl, D, h1, h2⟩ := learn_ok hs
    have hfD : Fit (r.2.1, D) (v' + 1 + 1) (n' + 12 + 12) := (step_fit h1 (step_fit hs hfit hc12).1 hc12).1
    have hfit' : Fit r.2 (v' + 1 + 1) (n' + 12 + 12) := hfit.le (by omega) (by omega)
    have hd := run_same (F := F) (Y := Y) (l.drop k) r.2 D _ _ hfit' hfD h2 (fun x hx => hl x (List.mem_of_mem_drop hx))
    have el : (runP F Y F l).1 = k + (runP F Y r.2 (l.drop k)).1 := by
      conv => lhs; rw [← List.take_append_drop k l]
      rw [run_append, hr, hlen, if_pos e1]
    have ea : runP F Y F (l.take k ++ [(1, c, 0)] ++ [(2, c, 0)]) = (k + 2, (r.2.1, D)) := by
      rw [List.append_assoc, run_append, hr, hlen, if_pos e1]
      rw [show [((1 : Int), c, (0 : Int))] ++ [((2 : Int), c, (0 : Int))] = [(1, c, 0), (2, c, 0)] from rfl, run_cons, hs]
      simp only
      rw [run_cons, h1]
      rfl
    rw [run_append, ea, if_pos (by simp [hlen])]
    rw [el, hd]
    simp [hlen]
    omega
end Go.Proofs.YtihaheinkpmnnaaGreat
namespace Go.Proofs.YtihaheinkpmnnaaGreat
set_option maxRecDepth 200000
open Go.RowKit
theorem alloc_more (w : World) (o : Obj) : (w.alloc o).heap.size = w.heap.size + 1 := World.size_alloc _ _
theorem own_nil46' {V w : World} (hg : V.grownBy w none) : OwnS V (w.alloc (.cells #[] 46)) (.slice (some ⟨w.heap.size, 0, none⟩) 0 0) 0 [] :=
  ⟨[], World.ownsRow_made w #[] 0 hg.size (Nat.zero_le _) rfl, rfl, hg.trans (World.grownBy_alloc _ _ none)⟩
theorem run_append_step1 (ty : TypeId) {V : World} {v : Value} {n : Nat} {l : List St} {w : World} (hown : OwnS V w v n l) {b c : Nat} {x : St} {la : Option Addr} {lc : Nat} (h0 : w.cell? ⟨b, 0, none⟩ = some (.int .i64 x.1)) (h1 : w.cell? ⟨b, 1, none⟩ = some (.slice la x.2.1.length lc)) (h2 : w.cell? ⟨b, 2, none⟩ = some (.int .i64 x.2.2)) (hi : IntsW V la lc x.2.1)
    (h63 : n ≤ 99999) :
    ∃ v' w', (Builtin.append_ #[25, 25] ty #[v, .slice (some ⟨b, 0, none⟩) 1 c]).run Tryz.prog w = .ok v' w' ∧ OwnS V w' v' (n + 1) (l ++ [x]) := by
  obtain ⟨i0, hi0, hz0, hz1, hz2⟩ := info_parts info46
  obtain ⟨cs, k1, k2, hg⟩ := hown
  have e1 : StC V [x] [.int .i64 x.1, .slice la x.2.1.length lc, .int .i64 x.2.2] := ⟨la, lc, [], rfl, hi, rfl⟩
  obtain ⟨v', w', hr, h3, h4, _, _⟩ := run_append_own_at (P := Tryz.prog) w V.heap.size 25 ty 46 i0 (.agg #[.int .i64 0, .slice none 0 0, .int .i64 0]) 3 40 Tryz.underlying25 hi0 hz0 hz1 hz2 rfl (by decide) v n cs k1 ⟨b, 0, none⟩ 1 c [.int .i64 x.1, .slice la x.2.1.length lc, .int .i64 x.2.2] rfl (fun j u hj => by
    rw [add_plain]
    match j, hj with
    | 0, hj => simp at hj; subst hj; exact h0
    | 1, hj => simp at hj; subst hj; exact h1
    | 2, hj => simp at hj; subst hj; exact h2) e1.one (by unfold maxLen; omega) (by omega) hg.size
  exact ⟨v', w', hr, _, h3, StC.app e1 k2, grown_own hg h4 (own_low k1)⟩
theorem append_step1 {ops : Array Oper} {rest : List Oper} {o : Oper} {a : Act} {Q : Exit → Act → World → Prop} {w : World} (hgd : o.guard = none) (s y : Operand)
    (ho : o.op = .call { callee := .builtin .append, args := #[s, y], argTypes := #[25, 25] })
    (V : World) (v : Value) (n : Nat) (l : List St) (hs : a.eval s = v) (hown : OwnS V w v n l)
    (b c : Nat) (x : St) (la : Option Addr) (lc : Nat) (hx : a.eval y = .slice (some ⟨b, 0, none⟩) 1 c) (h0 : w.cell? ⟨b, 0, none⟩ = some (.int .i64 x.1)) (h1 : w.cell? ⟨b, 1, none⟩ = some (.slice la x.2.1.length lc)) (h2 : w.cell? ⟨b, 2, none⟩ = some (.int .i64 x.2.2)) (hi : IntsW V la lc x.2.1)
    (h63 : n ≤ 99999)
    (h : ∀ a' c' w', OwnS V w' (.slice a' (n + 1) c') (n + 1) (l ++ [x]) → wpList Tryz.prog ops Q rest (a.put o.dst (.slice a' (n + 1) c')) w') : wpList Tryz.prog ops Q (o :: rest) a w := by
  refine wpList_plain hgd fun K' hK' => ?_
  obtain ⟨v', w', hr, h2⟩ := run_append_step1 (c := c) o.type hown h0 h1 h2 hi h63
  obtain ⟨a', c', rfl, _⟩ := h2.steps
  unfold Oper.wp execOp
  simp only [ho, resolve, invoke, builtin, Sem.run_bind, Sem.run_pure, Result.andThen_ok, List.map_toArray, List.map_cons, List.map_nil, hs, hx, hr]
  exact hK' _ _ (h a' c' w' h2)
theorem ready_append_step1 {ops : Array Oper} {o : Oper} {a : Act} {Q : Exit → Act → World → Prop} {K' : Act → World → Prop} {w : World} (s y : Operand) (hgd : o.guard = none)
    (ho : o.op = .call { callee := .builtin .append, args := #[s, y], argTypes := #[25, 25] })
    (V : World) (v : Value) (n : Nat) (l : List St) (hs : a.eval s = v) (hown : OwnS V w v n l)
    (b c : Nat) (x : St) (la : Option Addr) (lc : Nat) (hx : a.eval y = .slice (some ⟨b, 0, none⟩) 1 c) (h0 : w.cell? ⟨b, 0, none⟩ = some (.int .i64 x.1)) (h1 : w.cell? ⟨b, 1, none⟩ = some (.slice la x.2.1.length lc)) (h2 : w.cell? ⟨b, 2, none⟩ = some (.int .i64 x.2.2)) (hi : IntsW V la lc x.2.1)
    (h63 : n ≤ 99999)
    (h : ∀ a' c' w', OwnS V w' (.slice a' (n + 1) c') (n + 1) (l ++ [x]) → K' (a.put o.dst (.slice a' (n + 1) c')) w') :
    if Region.wanted o (yielded ops a.tmps) = true then Oper.wp Tryz.prog o a w K' Q else K' (a.put o.dst undef) w := by
  have hw : Region.wanted o (yielded ops a.tmps) = true := by simp only [Region.wanted, hgd]
  rw [if_pos hw]
  obtain ⟨v', w', hr, h2⟩ := run_append_step1 (c := c) o.type hown h0 h1 h2 hi h63
  obtain ⟨a', c', rfl, _⟩ := h2.steps
  unfold Oper.wp execOp
  simp only [ho, resolve, invoke, builtin, Sem.run_bind, Sem.run_pure, Result.andThen_ok, List.map_toArray, List.map_cons, List.map_nil, hs, hx, hr]
  exact h a' c' w' h2
/-- The cells of the own block's neighbours stay: what an append leaves as it was. -/
theorem StepsW.rest {w : World} {ad : Addr} {c : Nat} {l : List St} (h : StepsW w (some ad) c l) {k : Nat} (hk : k ≤ l.length) : StepsW w (some (ad.add (k * 3))) (c - k) (l.drop k) := by
  refine ⟨by rw [List.length_drop]; have := h.1; omega, fun j x hj => ?_⟩
  rw [List.getElem?_drop] at hj
  obtain ⟨b, o, e, hs⟩ := h.2 _ x hj
  cases e
  refine ⟨b, o + k * 3, by rw [add_plain], ?_⟩
  rwa [show o + k * 3 + j * 3 = o + (k + j) * 3 by omega]
theorem run_append_steps2 (ty : TypeId) {V : World} {v : Value} {n : Nat} {l : List St} {w : World} (hown : OwnS V w v n l) {xa : Option Addr} {m c : Nat} {news : List St} (hm : news.length = m) (hi : StepsW V xa c news)
    (h63 : n + m ≤ 100000) :
    ∃ v' w', (Builtin.append_ #[25, 25] ty #[v, .slice xa m c]).run Tryz.prog w = .ok v' w' ∧ OwnS V w' v' (n + m) (l ++ news) ∧ w.grownBy w' v.ownBlock := by
  obtain ⟨i0, hi0, hz0, hz1, hz2⟩ := info_parts info46
  obtain ⟨cs, h1, h2, hg⟩ := hown
  cases xa with
  | none =>
    obtain rfl : news = [] := by
      cases news with
      | nil => rfl
      | cons y l => obtain ⟨b, o, e, _⟩ := hi.2 0 y rfl; cases e
    obtain rfl : 0 = m := hm
    exact ⟨v, w, run_append_nil46 h1 ty c, ⟨cs, h1, by rw [List.append_nil]; exact h2, hg⟩, grown_refl _ _⟩
  | some ad =>
    have hsrc : ∃ ds, StC V news ds ∧ ∀ j u, ds[j]? = some u → V.cell? (ad.add j) = some u := by
      cases news with
      | nil => exact ⟨[], rfl, fun j u hj => by simp at hj⟩
      | cons y l' =>
        obtain ⟨b, o, e, _⟩ := hi.2 0 y rfl
        cases e
        obtain ⟨ds, e1, e2⟩ := stc_of (w := V) (b := b) (o := o) (l := y :: l') (fun j x hj => by
          obtain ⟨b', o', e', h'⟩ := hi.2 j x hj
          cases e'
          exact h')
        exact ⟨ds, e1, fun j u hj => by rw [add_plain]; exact e2 j u hj⟩
    obtain ⟨ds, e1, e2⟩ := hsrc
    obtain ⟨v', w', hr, h3, h4, _, _⟩ := run_append_own_at (P := Tryz.prog) w V.heap.size 25 ty 46 i0 (.agg #[.int .i64 0, .slice none 0 0, .int .i64 0]) 3 40 Tryz.underlying25 hi0 hz0 hz1 hz2 rfl (by decide) v n cs h1 ad m c ds (by rw [e1.len, hm]) (fun j u hj => hg.cell (e2 j u hj) (by simp)) e1.one (by unfold maxLen; omega) (by omega) hg.size
    exact ⟨v', w', hr, ⟨cs ++ ds, h3, StC.app e1 h2, grown_own hg h4 (own_low h1)⟩, h4⟩
/-- The append where the order of a region is drawn. -/
theorem ready_append_steps2 {ops : Array Oper} {o : Oper} {a : Act} {Q : Exit → Act → World → Prop} {K' : Act → World → Prop} {w : World} (s x : Operand) (hgd : o.guard = none)
    (ho : o.op = .call { callee := .builtin .append, args := #[s, x], argTypes := #[25, 25] })
    (V : World) (v : Value) (n : Nat) (l : List St) (hs : a.eval s = v) (hown : OwnS V w v n l)
    (xa : Option Addr) (m c : Nat) (news : List St) (hx : a.eval x = .slice xa m c) (hm : news.length = m) (hi : StepsW V xa c news)
    (h63 : n + m ≤ 100000)
    (h : ∀ a' c' w', OwnS V w' (.slice a' (n + m) c') (n + m) (l ++ news) → w.grownBy w' v.ownBlock → K' (a.put o.dst (.slice a' (n + m) c')) w') :
    if Region.wanted o (yielded ops a.tmps) = true then Oper.wp Tryz.prog o a w K' Q else K' (a.put o.dst undef) w := by
  have hw : Region.wanted o (yielded ops a.tmps) = true := by simp only [Region.wanted, hgd]
  rw [if_pos hw]
  obtain ⟨v', w', hr, h2, h4⟩ := run_append_steps2 o.type hown hm hi h63
  obtain ⟨a', c', rfl, _⟩ := h2.steps
  unfold Oper.wp execOp
  simp only [ho, resolve, invoke, builtin, Sem.run_bind, Sem.run_pure, Result.andThen_ok, List.map_toArray, List.map_cons, List.map_nil, hs, hx, hr]
  exact h a' c' w' h2 h4
end Go.Proofs.YtihaheinkpmnnaaGreat
namespace Go.Proofs.YtihaheinkpmnnaaGreat
set_option maxRecDepth 200000
open Go.RowKit Go.Shelf Go.Maps Go.Sort
set_option maxHeartbeats 32000000 in
theorem redundant_calls (V : Int) (F : List (List Int)) (fa : Option Addr) (fc : Nat) (Y : List (List Int)) (ya : Option Addr) (yc : Nat) (l : List St) (la : Option Addr) (lc : Nat) (L : List Int) (ca : Option Addr) (cc : Nat) (kk : Int) (w : World)
    (hF : ClsW w fa fc F) (hY : ClsW w ya yc Y) (hl : StepsW w la lc l) (hc : IntsW w ca cc L) (hk0 : 0 ≤ kk) (hk1 : kk ≤ 255) (by1 : (Y.length : Int) ≤ 9223372036854775807) (bl1 : (l.length : Int) ≤ 9223372036854775807)
    (wl : ∀ x ∈ l, (Lit.int .i64 x.1).wf = true) :
    Calls Tryz.prog 9 #[.agg #[.int .i64 V, .slice fa F.length fc], .slice ya Y.length yc, .slice la l.length lc, .slice ca L.length cc, .int .u8 kk] w fun e w' => e = .returned (.bool true) ∧ w.grownBy w' none := by
  obtain ⟨fn, hfn⟩ : ∃ z, F.length = z := ⟨_, rfl⟩
  obtain ⟨yn, hyn⟩ : ∃ z, Y.length = z := ⟨_, rfl⟩
  obtain ⟨n, hn⟩ : ∃ z, l.length = z := ⟨_, rfl⟩
  obtain ⟨cn, hcn⟩ : ∃ z, L.length = z := ⟨_, rfl⟩
  obtain ⟨W1, hW1⟩ : ∃ z, w.alloc (.cells #[.int .i64 V, .slice fa fn fc] 24) = z := ⟨_, rfl⟩
  obtain ⟨q0, q1, hg1⟩ := box_at w _ _ hW1
  obtain ⟨bf, hbf⟩ : ∃ z, w.heap.size = z := ⟨_, rfl⟩
  rw [hbf] at q0 q1
  have HI := Lib.hid (And.intro (hF.grown hg1) (And.intro (hY.grown hg1) (And.intro (hl.grown hg1) (hc.grown hg1))))
  have HN := Lib.hid (And.intro hfn (And.intro hyn (And.intro hn hcn)))
  have HB := Lib.hid (And.intro by1 bl1)
  have HW := Lib.hid wl
  have HG1 := Lib.hid hg1
  have HQ := Lib.hid (And.intro q0 q1)
  have HM : Hid (smallB V F = true → fewB Y l = true → (∃ V0 : Nat, V = (V0 : Int) ∧ V0 ≤ 8 ∧ (∀ W, W1.grownBy W none → FY W V0 F fa fc Y ya yc) ∧ Fit (V0, F) 8 40) ∧ Few l 40) := Lib.hid (fun h1 h2 => by
    obtain ⟨V0, e, a1, a2, a3, a4⟩ := small_nat h1
    obtain ⟨c1, c2, c3, c4⟩ := few_true h2
    exact ⟨⟨V0, e, a1, fun W hg => ⟨HI.out.1.grown hg, HI.out.2.1.grown hg, by omega, a2, a3, a4, c1, c3⟩, a4, a1, a2, a3⟩, ⟨c2, c4, HW.out⟩⟩)
  rw [hfn, hyn, hn, hcn]
  clear hF hY hl hc hfn hyn hn hcn wl hg1 q0 q1 by1 bl1
  have HS : Hid (∀ W, W1.grownBy W none → Calls Tryz.prog 11 #[.agg #[.int .i64 V, .slice fa fn fc]] W fun e w' => e = .returned (.bool (smallB V F)) ∧ W.grownBy w' none) := Lib.hid (fun W hg => by
    have := small_calls V F fa fc W (HI.out.1.grown hg); rwa [HN.out.1] at this)
  have HFW : Hid (∀ W, W1.grownBy W none → Calls Tryz.prog 12 #[.slice ya yn yc, .slice la n lc] W fun e w' => e = .returned (.bool (fewB Y l)) ∧ w' = W) := Lib.hid (fun W hg => by
    have := few_calls Y ya yc l la lc W (HI.out.2.1.grown hg) (HI.out.2.2.1.grown hg) HB.out.2 HB.out.1; rwa [HN.out.2.1, HN.out.2.2.1] at this)
  go_enter Tryz.func9, Tryz.ntmps9
  go_wp2_with fail
  clear hW1
  refine (head_calls _).mono ?_
  rintro e w2 ⟨rfl, hg2⟩
  have q0 := hg2.cell HQ.out.1 (by simp)
  have q1 := hg2.cell HQ.out.2 (by simp)
  have G2 := Lib.hid hg2
  clear hg2
  go_wp2_with fail
  refine (HS.out _ G2.out).mono ?_
  rintro e w3 ⟨rfl, hg⟩
  replace q0 := hg.cell q0 (by simp)
  replace q1 := hg.cell q1 (by simp)
  have G3 := Lib.hid (G2.out.trans hg)
  clear hg
  obtain ⟨sb, hsb⟩ : ∃ z, smallB V F = z := ⟨_, rfl⟩
  rw [hsb]
  cases sb
  case false =>
    go_wp2_with fail
    go_ret
    exact ⟨rfl, HG1.out.trans G3.out⟩
  go_wp2_with fail
  refine (HFW.out _ G3.out).mono ?_
  rintro e w4 ⟨rfl, rfl⟩
  obtain ⟨sl, hsl⟩ : ∃ z, fewB Y l = z := ⟨_, rfl⟩
  rw [hsl]
  cases sl
  case false =>
    go_wp2_with fail
    go_ret
    exact ⟨rfl, HG1.out.trans G3.out⟩
  obtain ⟨⟨V0, rfl, hV8, hFY, hfit⟩, hl40⟩ := HM.out hsb hsl
  have HFY := Lib.hid hFY
  have HL := Lib.hid hl40
  have HFIT := Lib.hid hfit
  have n40 : n ≤ 40 := by rw [← HN.out.2.2.1]; exact hl40.1
  clear hFY hl40 hsb hsl hfit
  by_cases h12 : 12 < cn
  · have f1 : decide ((cn : Int) > 12) = true := decide_eq_true (by omega)
    have f1' : decide ((12 : Int) < (cn : Int)) = true := decide_eq_true (by omega)
    have f1'' : decide (12 < cn) = true := decide_eq_true h12
    clear h12
    go_wp2_with fail
    go_ret
    exact ⟨rfl, HG1.out.trans G3.out⟩
  have c12 : cn ≤ 12 := by omega
  have f1 : decide ((cn : Int) > 12) = false := decide_eq_false (by omega)
  have f1' : decide ((12 : Int) < (cn : Int)) = false := decide_eq_false (by omega)
  have f1'' : decide (12 < cn) = false := decide_eq_false h12
  clear h12
  have HCK : Hid (∀ W (l' : List St) (la' : Option Addr) (lc' n' c' : Nat) (g' : Int), W1.grownBy W none → StepsW W la' lc' l' → Few l' 80 → l'.length = n' → chkP (V0, F) Y l' = c' → errC c' n' = g' → Calls Tryz.prog 13 #[.agg #[.int .i64 (V0 : Int), .slice fa fn fc], .slice ya yn yc, .slice la' n' lc'] W fun e w' => e = .returned (.tuple #[.int .i64 (c' : Int), .int .i64 g']) ∧ W1.grownBy w' none ∧ W.grownBy w' none) :=
    Lib.hid (fun W l' la' lc' n' c' g' hg hs hf h1 h2 h3 => ((HFY.out W hg).check hs hf HN.out.1 HN.out.2.1 h1 h2 h3).mono fun e w' ⟨e1, e2⟩ => ⟨e1, hg.trans e2, e2⟩)
  have HQC : Hid (∀ W, W1.grownBy W none → W.cell? ⟨bf, 0, none⟩ = some (.int .i64 (V0 : Int)) ∧ W.cell? ⟨bf, 1, none⟩ = some (.slice fa fn fc)) := Lib.hid (fun W hg => ⟨hg.cell HQ.out.1 (by simp), hg.cell HQ.out.2 (by simp)⟩)
  obtain ⟨kn, rfl⟩ : ∃ z : Nat, kk = (z : Int) := ⟨kk.toNat, by omega⟩
  obtain ⟨k, hcut⟩ : ∃ z, kn % (n + 1) = z := ⟨_, rfl⟩
  have cutn : k ≤ n := by have := Nat.mod_lt kn (show 0 < n + 1 by omega); omega
  have k1 : IntKind.i64.wrap ((n : Int) + 1) = (n : Int) + 1 := IntWalk.i64_in _ (by omega)
  have k2 : IntKind.i64.wrap (kn : Int) = (kn : Int) := IntWalk.i64_in _ (by omega)
  have k3 : (kn : Int).tmod ((n : Int) + 1) = (k : Int) := by rw [← hcut]; rfl
  have k4 : IntKind.i64.wrap (k : Int) = (k : Int) := IntWalk.i64_in _ (by omega)
  have k5 : ¬ ((n : Int) + 1 = 0) := by omega
  have q3 : (0 : Int) ≤ (k : Int) := by omega
  have cutc : k ≤ lc := by have := HI.out.2.2.1.1; rw [HN.out.2.2.1] at this; omega
  have HCU := Lib.hid (And.intro hcut (And.intro hk0 hk1))
  clear hcut hk0 hk1
  obtain ⟨bl, hbl⟩ : ∃ z, w4.heap.size = z := ⟨_, rfl⟩
  obtain ⟨V9, hV9⟩ : ∃ z, ((w4.alloc (.cells #[.int .i64 1, .slice ca cn cc, .int .i64 0] 46)).alloc (.cells #[.int .i64 2, .slice ca cn cc, .int .i64 0] 46)) = z := ⟨_, rfl⟩
  have hs9 : W1.grownBy V9 none ∧ (V9.cell? ⟨bl, 0, none⟩ = some (.int .i64 1) ∧ V9.cell? ⟨bl, 1, none⟩ = some (.slice ca cn cc) ∧ V9.cell? ⟨bl, 2, none⟩ = some (.int .i64 0)) ∧ V9.cell? ⟨bl + 1, 0, none⟩ = some (.int .i64 2) ∧ V9.cell? ⟨bl + 1, 1, none⟩ = some (.slice ca cn cc) ∧ V9.cell? ⟨bl + 1, 2, none⟩ = some (.int .i64 0) := by
    rw [← hV9, ← hbl]
    clear hV9 hbl
    exact ⟨(G3.out.trans (World.grownBy_alloc _ _ none)).trans (World.grownBy_alloc _ _ none), ⟨by go_simp, by go_simp, by go_simp⟩, by go_simp, by go_simp, by go_simp⟩
  have H9 := Lib.hid hs9
  have HS9 : Hid (∀ W, V9.grownBy W none → V9.grownBy W none ∧ W.cell? ⟨bl, 0, none⟩ = some (.int .i64 1) ∧ W.cell? ⟨bl, 1, none⟩ = some (.slice ca cn cc) ∧ W.cell? ⟨bl, 2, none⟩ = some (.int .i64 0)) := Lib.hid (fun W hg => ⟨hg, hg.cell H9.out.2.1.1 (by simp), hg.cell H9.out.2.1.2.1 (by simp), hg.cell H9.out.2.1.2.2 (by simp)⟩)
  have HI9 : Hid (StepsW V9 la lc (l.take k) ∧ (l.take k).length = k ∧ IntsW V9 ca cc L) := Lib.hid ⟨(HI.out.2.2.1.take k).grown H9.out.1, by rw [List.length_take, HN.out.2.2.1]; omega, HI.out.2.2.2.grown H9.out.1⟩
  clear hs9 q0 q1
  have HV9 := Lib.hid hV9
  clear hV9
  go_upto_region 7 with fail
  clear k1 k2 k3 k4 k5
  rw [HV9.out]
  go_cut [15] (fun s15 wx => ∃ a c, s15 = .slice a (k + 1) c ∧ StepsW wx a c (l.take k ++ [(1, L, 0)]) ∧ V9.grownBy wx none)
  case first =>
    refine wp_region_gone_drew (S := (fun Wh : World => V9.grownBy Wh none ∧ Wh.cell? ⟨bl, 0, none⟩ = some (.int .i64 1) ∧ Wh.cell? ⟨bl, 1, none⟩ = some (.slice ca cn cc) ∧ Wh.cell? ⟨bl, 2, none⟩ = some (.int .i64 0))) (T := (fun _ => True)) (m := 999) (by kernel_rfl) ⟨HS9.out _ (grown_drew V9 none), trivial⟩ (fun hHeld => ?_)
    obtain ⟨U0, hU0⟩ : ∃ z, V9.drew = z := ⟨_, rfl⟩
    have hg0 : V9.grownBy U0 none := by rw [← hU0]; exact grown_drew V9 none
    rw [hU0] at hHeld ⊢
    refine wpAnyG_take (i := 1) (oi := { dst := some 50, op := Op.move (Operand.tmp 2), type := 25, pos := "law.go:293", after := #[], guard := none }) (v := ?_) rfl (by decide) (by kernel_rfl) (by kernel_rfl) (by kernel_rfl) (fun _ _ _ h => h) (Or.inl ⟨by rfl, ?_⟩) (by assumption) ?_
    rotate_left 1
    · (intro W hSW; (try dsimp only at hSW); obtain ⟨z0, z1, z2, z3⟩ := hSW; first | (go_simp; done) | (go_simp; with_reducible rfl))
    try simp only [Act.put, List.setIfInBounds_toArray, List.set_cons_zero, List.set_cons_succ]
    refine wpAnyG_take (i := 2) (oi := { dst := some 51, op := Op.move (Operand.tmp 12), type := 3, pos := "law.go:293", after := #[], guard := none }) (v := ?_) rfl (by decide) (by kernel_rfl) (by kernel_rfl) (by kernel_rfl) (fun _ _ _ h => h) (Or.inl ⟨by rfl, ?_⟩) (by assumption) ?_
    rotate_left 1
    · (intro W hSW; (try dsimp only at hSW); obtain ⟨z0, z1, z2, z3⟩ := hSW; first | (go_simp; done) | (go_simp; with_reducible rfl))
    try simp only [Act.put, List.setIfInBounds_toArray, List.set_cons_zero, List.set_cons_succ]
    refine wpAnyG_take (i := 3) (oi := { dst := some 52, op := Op.slice 25 (Operand.tmp 50) none (some (Operand.tmp 51)) none, type := 25, pos := "law.go:293", after := #[{ on := 1, ground := Ground.data }, { on := 2, ground := Ground.data }], guard := none }) (v := ?_) rfl (by decide) (by kernel_rfl) (by kernel_rfl) (by kernel_rfl) (fun _ _ _ h => h) (Or.inl ⟨by rfl, ?_⟩) (by assumption) ?_
    rotate_left 1
    · (intro W hSW; (try dsimp only at hSW); obtain ⟨z0, z1, z2, z3⟩ := hSW; first | (go_simp; done) | (go_simp; with_reducible rfl))
    try simp only [Act.put, List.setIfInBounds_toArray, List.set_cons_zero, List.set_cons_succ]
    refine wpAnyG_take (i := 5) (oi := { dst := some 54, op := Op.load 46 (Operand.tmp 13), type := 46, pos := "law.go:293", after := #[], guard := none }) (v := ?_) rfl (by decide) (by kernel_rfl) (by kernel_rfl) (by kernel_rfl) (fun _ _ _ h => h) (Or.inl ⟨by rfl, ?_⟩) (by assumption) ?_
    rotate_left 1
    · (intro W hSW; (try dsimp only at hSW); obtain ⟨z0, z1, z2, z3⟩ := hSW; first | (go_simp; done) | (go_simp; with_reducible rfl))
    try simp only [Act.put, List.setIfInBounds_toArray, List.set_cons_zero, List.set_cons_succ]
    refine wpAnyG_ready (rs := [0, 6]) (by kernel_rfl) (by simp) ?_
    refine (AllReadyG.cons (o := { dst := some 49, op := Op.buildSlice 25 0 #[], type := 25, pos := "law.go:293", after := #[], guard := none }) rfl (fun KK hK => ?_) (AllReadyG.cons (o := { dst := some 55, op := Op.buildSlice 25 1 #[(0, Operand.tmp 54)], type := 25, pos := "law.go:293", after := #[{ on := 5, ground := Ground.data }], guard := none }) rfl (fun KK hK => ?_) AllReadyG.nil))
    · skip
      rw [if_pos (by rfl)]
      go_simp
      have hg1 : V9.grownBy (World.alloc U0 (.cells #[] 46)) none := hg0.trans (World.grownBy_alloc _ _ none)
      have hal := World.grownBy_alloc U0 (.cells #[] 46) none
      have hz : (World.alloc U0 (.cells #[] 46)).heap.size = U0.heap.size + 1 := alloc_more _ _
      have hO := own_nil46' hg0
      obtain ⟨U1, hU⟩ : ∃ z, World.alloc U0 (.cells #[] 46) = z := ⟨_, rfl⟩
      obtain ⟨ba, hba⟩ : ∃ z, U0.heap.size = z := ⟨_, rfl⟩
      rw [hU] at hg1 hO
      rw [hba] at hO
      rw [hU, hba] at hz
      rw [hU]
      try rw [hba]
      have hza := Lib.hid hz
      clear hz
      refine hK.out _ _ ⟨HS9.out _ hg1, .inr trivial⟩ (fun hHeld => ?_)
      clear hK KK
      try simp only [Act.put, List.setIfInBounds_toArray, List.set_cons_zero, List.set_cons_succ]
      refine wpAnyG_ready (rs := [4, 6]) (by kernel_rfl) (by simp) ?_
      refine (AllReadyG.cons (o := { dst := some 53, op := Op.call { callee := Callee.builtin Builtin.append, args := #[Operand.tmp 49, Operand.tmp 52], argTypes := #[25, 25] }, type := 25, pos := "law.go:293", after := #[{ on := 0, ground := Ground.data }, { on := 3, ground := Ground.data }], guard := none }) rfl (fun KK hK => ?_) (AllReadyG.cons (o := { dst := some 55, op := Op.buildSlice 25 1 #[(0, Operand.tmp 54)], type := 25, pos := "law.go:293", after := #[{ on := 5, ground := Ground.data }], guard := none }) rfl (fun KK hK => ?_) AllReadyG.nil))
      · skip
        refine ready_append_steps2 _ _ rfl rfl V9 (.slice (some ⟨ba, 0, none⟩) 0 0) 0 [] rfl hO la k lc (l.take k) rfl HI9.out.2.1 HI9.out.1 (by omega) ?_
        intro aa cc' U2 hO' hgw
        rw [Nat.zero_add, List.nil_append] at hO'
        have hg2 := hO'.choose_spec.2.2
        replace hO := hO'
        clear hO'
        rw [Nat.zero_add]
        refine hK.out _ _ ⟨HS9.out _ hg2, .inr trivial⟩ (fun hHeld => ?_)
        clear hK KK
        try simp only [Act.put, List.setIfInBounds_toArray, List.set_cons_zero, List.set_cons_succ]
        refine wpAnyG_ready (rs := [6]) (by kernel_rfl) (by simp) ?_
        refine (AllReadyG.cons (o := { dst := some 55, op := Op.buildSlice 25 1 #[(0, Operand.tmp 54)], type := 25, pos := "law.go:293", after := #[{ on := 5, ground := Ground.data }], guard := none }) rfl (fun KK hK => ?_) AllReadyG.nil)
        rw [if_pos (by rfl)]
        go_simp
        have hg3 : V9.grownBy (World.alloc U2 (.cells #[.int .i64 1, .slice ca cn cc, .int .i64 0] 46)) none := hg2.trans (World.grownBy_alloc _ _ none)
        have hal := World.grownBy_alloc U2 (.cells #[.int .i64 1, .slice ca cn cc, .int .i64 0] 46) none
        have hz : (World.alloc U2 (.cells #[.int .i64 1, .slice ca cn cc, .int .i64 0] 46)).heap.size = U2.heap.size + 1 := alloc_more _ _
        have hB : (World.alloc U2 (.cells #[.int .i64 1, .slice ca cn cc, .int .i64 0] 46)).cell? ⟨U2.heap.size, 0, none⟩ = some (.int .i64 1) ∧ (World.alloc U2 (.cells #[.int .i64 1, .slice ca cn cc, .int .i64 0] 46)).cell? ⟨U2.heap.size, 1, none⟩ = some (.slice ca cn cc) ∧ (World.alloc U2 (.cells #[.int .i64 1, .slice ca cn cc, .int .i64 0] 46)).cell? ⟨U2.heap.size, 2, none⟩ = some (.int .i64 0) := ⟨by go_simp, by go_simp, by go_simp⟩
        replace hO := hO.grown hal
        obtain ⟨U3, hU⟩ : ∃ z, World.alloc U2 (.cells #[.int .i64 1, .slice ca cn cc, .int .i64 0] 46) = z := ⟨_, rfl⟩
        obtain ⟨bb, hbb⟩ : ∃ z, U2.heap.size = z := ⟨_, rfl⟩
        rw [hU] at hg3 hB hO
        rw [hbb] at hB
        rw [hU, hbb] at hz
        rw [hU]
        try rw [hbb]
        have hza := Lib.hid hz
        clear hz
        refine hK.out _ _ ⟨HS9.out _ hg3, .inr trivial⟩ (fun hHeld => ?_)
        clear hK KK
        try simp only [Act.put, List.setIfInBounds_toArray, List.set_cons_zero, List.set_cons_succ]
        refine wpAnyG_ready (rs := [7]) (by kernel_rfl) (by simp) ?_
        refine (AllReadyG.cons (o := { dst := some 56, op := Op.call { callee := Callee.builtin Builtin.append, args := #[Operand.tmp 53, Operand.tmp 55], argTypes := #[25, 25] }, type := 25, pos := "law.go:293", after := #[{ on := 4, ground := Ground.data }, { on := 6, ground := Ground.data }, { on := 4, ground := Ground.chain }], guard := none }) rfl (fun KK hK => ?_) AllReadyG.nil)
        refine ready_append_step1 _ _ rfl rfl V9 (.slice aa k cc') k (l.take k) rfl hO bb 1 (1, L, 0) ca cc rfl hB.1 (by rw [HN.out.2.2.2]; exact hB.2.1) hB.2.2 HI9.out.2.2 (by omega) ?_
        intro ab cb U4 hO'
        have hg4 := hO'.choose_spec.2.2
        refine hK.out _ _ ⟨HS9.out _ hg4, .inr trivial⟩ (fun hHeld => ?_)
        clear hK KK
        try simp only [Act.put, List.setIfInBounds_toArray, List.set_cons_zero, List.set_cons_succ]
        refine wpAnyG_take (i := 8) (oi := { dst := some 15, op := Op.assign (Operand.tmp 56), type := 25, pos := "law.go:293", after := #[{ on := 7, ground := Ground.data }, { on := 7, ground := Ground.chain }, { on := 0, ground := Ground.phase }, { on := 1, ground := Ground.phase }, { on := 2, ground := Ground.phase }, { on := 3, ground := Ground.phase }, { on := 4, ground := Ground.phase }, { on := 5, ground := Ground.phase }, { on := 6, ground := Ground.phase }, { on := 7, ground := Ground.phase }], guard := none }) (v := ?_) rfl (by decide) (by kernel_rfl) (by kernel_rfl) (by kernel_rfl) (fun _ _ _ h => h) (Or.inl ⟨by rfl, ?_⟩) (by assumption) ?_
        rotate_left 1
        · (intro W hSW; (try dsimp only at hSW); obtain ⟨z0, z1, z2, z3⟩ := hSW; first | (go_simp; done) | (go_simp; with_reducible rfl))
        try simp only [Act.put, List.setIfInBounds_toArray, List.set_cons_zero, List.set_cons_succ]
        refine wpAnyG_done (by kernel_rfl) ?_ _
        clear hHeld
        go_wp2_with fail
        go_meet
        obtain ⟨ax, cx, ex, hst⟩ := hO'.steps
        cases ex
        exact ⟨_, _, rfl, hst, hg4⟩
      · skip
        rw [if_pos (by rfl)]
        go_simp
        have hg2 : V9.grownBy (World.alloc U1 (.cells #[.int .i64 1, .slice ca cn cc, .int .i64 0] 46)) none := hg1.trans (World.grownBy_alloc _ _ none)
        have hal := World.grownBy_alloc U1 (.cells #[.int .i64 1, .slice ca cn cc, .int .i64 0] 46) none
        have hz : (World.alloc U1 (.cells #[.int .i64 1, .slice ca cn cc, .int .i64 0] 46)).heap.size = U1.heap.size + 1 := alloc_more _ _
        have hB : (World.alloc U1 (.cells #[.int .i64 1, .slice ca cn cc, .int .i64 0] 46)).cell? ⟨U1.heap.size, 0, none⟩ = some (.int .i64 1) ∧ (World.alloc U1 (.cells #[.int .i64 1, .slice ca cn cc, .int .i64 0] 46)).cell? ⟨U1.heap.size, 1, none⟩ = some (.slice ca cn cc) ∧ (World.alloc U1 (.cells #[.int .i64 1, .slice ca cn cc, .int .i64 0] 46)).cell? ⟨U1.heap.size, 2, none⟩ = some (.int .i64 0) := ⟨by go_simp, by go_simp, by go_simp⟩
        replace hO := hO.grown hal
        obtain ⟨U2, hU⟩ : ∃ z, World.alloc U1 (.cells #[.int .i64 1, .slice ca cn cc, .int .i64 0] 46) = z := ⟨_, rfl⟩
        obtain ⟨bb, hbb⟩ : ∃ z, U1.heap.size = z := ⟨_, rfl⟩
        rw [hU] at hg2 hB hO
        rw [hbb] at hB
        rw [hU, hbb] at hz
        rw [hU]
        try rw [hbb]
        have hne := Lib.hid (show bb < ba ∨ ba < bb by have := hza.out; omega)
        clear hz
        refine hK.out _ _ ⟨HS9.out _ hg2, .inr trivial⟩ (fun hHeld => ?_)
        clear hK KK
        try simp only [Act.put, List.setIfInBounds_toArray, List.set_cons_zero, List.set_cons_succ]
        refine wpAnyG_ready (rs := [4]) (by kernel_rfl) (by simp) ?_
        refine (AllReadyG.cons (o := { dst := some 53, op := Op.call { callee := Callee.builtin Builtin.append, args := #[Operand.tmp 49, Operand.tmp 52], argTypes := #[25, 25] }, type := 25, pos := "law.go:293", after := #[{ on := 0, ground := Ground.data }, { on := 3, ground := Ground.data }], guard := none }) rfl (fun KK hK => ?_) AllReadyG.nil)
        refine ready_append_steps2 _ _ rfl rfl V9 (.slice (some ⟨ba, 0, none⟩) 0 0) 0 [] rfl hO la k lc (l.take k) rfl HI9.out.2.1 HI9.out.1 (by omega) ?_
        intro aa cc' U3 hO' hgw
        rw [Nat.zero_add, List.nil_append] at hO'
        have hg3 := hO'.choose_spec.2.2
        have hnb : some bb ≠ (Value.slice (some ⟨ba, 0, none⟩) 0 0).ownBlock := fun e => by have e2 : bb = ba := Option.some.inj e; have := hne.out; omega
        replace hB := And.intro (hgw.cell hB.1 hnb) (And.intro (hgw.cell hB.2.1 hnb) (hgw.cell hB.2.2 hnb))
        replace hO := hO'
        clear hO'
        rw [Nat.zero_add]
        refine hK.out _ _ ⟨HS9.out _ hg3, .inr trivial⟩ (fun hHeld => ?_)
        clear hK KK
        try simp only [Act.put, List.setIfInBounds_toArray, List.set_cons_zero, List.set_cons_succ]
        refine wpAnyG_ready (rs := [7]) (by kernel_rfl) (by simp) ?_
        refine (AllReadyG.cons (o := { dst := some 56, op := Op.call { callee := Callee.builtin Builtin.append, args := #[Operand.tmp 53, Operand.tmp 55], argTypes := #[25, 25] }, type := 25, pos := "law.go:293", after := #[{ on := 4, ground := Ground.data }, { on := 6, ground := Ground.data }, { on := 4, ground := Ground.chain }], guard := none }) rfl (fun KK hK => ?_) AllReadyG.nil)
        refine ready_append_step1 _ _ rfl rfl V9 (.slice aa k cc') k (l.take k) rfl hO bb 1 (1, L, 0) ca cc rfl hB.1 (by rw [HN.out.2.2.2]; exact hB.2.1) hB.2.2 HI9.out.2.2 (by omega) ?_
        intro ab cb U4 hO'
        have hg4 := hO'.choose_spec.2.2
        refine hK.out _ _ ⟨HS9.out _ hg4, .inr trivial⟩ (fun hHeld => ?_)
        clear hK KK
        try simp only [Act.put, List.setIfInBounds_toArray, List.set_cons_zero, List.set_cons_succ]
        refine wpAnyG_take (i := 8) (oi := { dst := some 15, op := Op.assign (Operand.tmp 56), type := 25, pos := "law.go:293", after := #[{ on := 7, ground := Ground.data }, { on := 7, ground := Ground.chain }, { on := 0, ground := Ground.phase }, { on := 1, ground := Ground.phase }, { on := 2, ground := Ground.phase }, { on := 3, ground := Ground.phase }, { on := 4, ground := Ground.phase }, { on := 5, ground := Ground.phase }, { on := 6, ground := Ground.phase }, { on := 7, ground := Ground.phase }], guard := none }) (v := ?_) rfl (by decide) (by kernel_rfl) (by kernel_rfl) (by kernel_rfl) (fun _ _ _ h => h) (Or.inl ⟨by rfl, ?_⟩) (by assumption) ?_
        rotate_left 1
        · (intro W hSW; (try dsimp only at hSW); obtain ⟨z0, z1, z2, z3⟩ := hSW; first | (go_simp; done) | (go_simp; with_reducible rfl))
        try simp only [Act.put, List.setIfInBounds_toArray, List.set_cons_zero, List.set_cons_succ]
        refine wpAnyG_done (by kernel_rfl) ?_ _
        clear hHeld
        go_wp2_with fail
        go_meet
        obtain ⟨ax, cx, ex, hst⟩ := hO'.steps
        cases ex
        exact ⟨_, _, rfl, hst, hg4⟩
    · skip
      rw [if_pos (by rfl)]
      go_simp
      have hg1 : V9.grownBy (World.alloc U0 (.cells #[.int .i64 1, .slice ca cn cc, .int .i64 0] 46)) none := hg0.trans (World.grownBy_alloc _ _ none)
      have hal := World.grownBy_alloc U0 (.cells #[.int .i64 1, .slice ca cn cc, .int .i64 0] 46) none
      have hz : (World.alloc U0 (.cells #[.int .i64 1, .slice ca cn cc, .int .i64 0] 46)).heap.size = U0.heap.size + 1 := alloc_more _ _
      have hB : (World.alloc U0 (.cells #[.int .i64 1, .slice ca cn cc, .int .i64 0] 46)).cell? ⟨U0.heap.size, 0, none⟩ = some (.int .i64 1) ∧ (World.alloc U0 (.cells #[.int .i64 1, .slice ca cn cc, .int .i64 0] 46)).cell? ⟨U0.heap.size, 1, none⟩ = some (.slice ca cn cc) ∧ (World.alloc U0 (.cells #[.int .i64 1, .slice ca cn cc, .int .i64 0] 46)).cell? ⟨U0.heap.size, 2, none⟩ = some (.int .i64 0) := ⟨by go_simp, by go_simp, by go_simp⟩
      obtain ⟨U1, hU⟩ : ∃ z, World.alloc U0 (.cells #[.int .i64 1, .slice ca cn cc, .int .i64 0] 46) = z := ⟨_, rfl⟩
      obtain ⟨bb, hbb⟩ : ∃ z, U0.heap.size = z := ⟨_, rfl⟩
      rw [hU] at hg1 hB
      rw [hbb] at hB
      rw [hU, hbb] at hz
      rw [hU]
      try rw [hbb]
      have hza := Lib.hid hz
      clear hz
      refine hK.out _ _ ⟨HS9.out _ hg1, .inr trivial⟩ (fun hHeld => ?_)
      clear hK KK
      try simp only [Act.put, List.setIfInBounds_toArray, List.set_cons_zero, List.set_cons_succ]
      refine wpAnyG_ready (rs := [0]) (by kernel_rfl) (by simp) ?_
      refine (AllReadyG.cons (o := { dst := some 49, op := Op.buildSlice 25 0 #[], type := 25, pos := "law.go:293", after := #[], guard := none }) rfl (fun KK hK => ?_) AllReadyG.nil)
      rw [if_pos (by rfl)]
      go_simp
      have hg2 : V9.grownBy (World.alloc U1 (.cells #[] 46)) none := hg1.trans (World.grownBy_alloc _ _ none)
      have hal := World.grownBy_alloc U1 (.cells #[] 46) none
      have hz : (World.alloc U1 (.cells #[] 46)).heap.size = U1.heap.size + 1 := alloc_more _ _
      have hO := own_nil46' hg1
      replace hB := And.intro (hal.cell hB.1 (by simp)) (And.intro (hal.cell hB.2.1 (by simp)) (hal.cell hB.2.2 (by simp)))
      obtain ⟨U2, hU⟩ : ∃ z, World.alloc U1 (.cells #[] 46) = z := ⟨_, rfl⟩
      obtain ⟨ba, hba⟩ : ∃ z, U1.heap.size = z := ⟨_, rfl⟩
      rw [hU] at hg2 hO hB
      rw [hba] at hO
      rw [hU, hba] at hz
      rw [hU]
      try rw [hba]
      have hne := Lib.hid (show bb < ba ∨ ba < bb by have := hza.out; omega)
      clear hz
      refine hK.out _ _ ⟨HS9.out _ hg2, .inr trivial⟩ (fun hHeld => ?_)
      clear hK KK
      try simp only [Act.put, List.setIfInBounds_toArray, List.set_cons_zero, List.set_cons_succ]
      refine wpAnyG_ready (rs := [4]) (by kernel_rfl) (by simp) ?_
      refine (AllReadyG.cons (o := { dst := some 53, op := Op.call { callee := Callee.builtin Builtin.append, args := #[Operand.tmp 49, Operand.tmp 52], argTypes := #[25, 25] }, type := 25, pos := "law.go:293", after := #[{ on := 0, ground := Ground.data }, { on := 3, ground := Ground.data }], guard := none }) rfl (fun KK hK => ?_) AllReadyG.nil)
      refine ready_append_steps2 _ _ rfl rfl V9 (.slice (some ⟨ba, 0, none⟩) 0 0) 0 [] rfl hO la k lc (l.take k) rfl HI9.out.2.1 HI9.out.1 (by omega) ?_
      intro aa cc' U3 hO' hgw
      rw [Nat.zero_add, List.nil_append] at hO'
      have hg3 := hO'.choose_spec.2.2
      have hnb : some bb ≠ (Value.slice (some ⟨ba, 0, none⟩) 0 0).ownBlock := fun e => by have e2 : bb = ba := Option.some.inj e; have := hne.out; omega
      replace hB := And.intro (hgw.cell hB.1 hnb) (And.intro (hgw.cell hB.2.1 hnb) (hgw.cell hB.2.2 hnb))
      replace hO := hO'
      clear hO'
      rw [Nat.zero_add]
      refine hK.out _ _ ⟨HS9.out _ hg3, .inr trivial⟩ (fun hHeld => ?_)
      clear hK KK
      try simp only [Act.put, List.setIfInBounds_toArray, List.set_cons_zero, List.set_cons_succ]
      refine wpAnyG_ready (rs := [7]) (by kernel_rfl) (by simp) ?_
      refine (AllReadyG.cons (o := { dst := some 56, op := Op.call { callee := Callee.builtin Builtin.append, args := #[Operand.tmp 53, Operand.tmp 55], argTypes := #[25, 25] }, type := 25, pos := "law.go:293", after := #[{ on := 4, ground := Ground.data }, { on := 6, ground := Ground.data }, { on := 4, ground := Ground.chain }], guard := none }) rfl (fun KK hK => ?_) AllReadyG.nil)
      refine ready_append_step1 _ _ rfl rfl V9 (.slice aa k cc') k (l.take k) rfl hO bb 1 (1, L, 0) ca cc rfl hB.1 (by rw [HN.out.2.2.2]; exact hB.2.1) hB.2.2 HI9.out.2.2 (by omega) ?_
      intro ab cb U4 hO'
      have hg4 := hO'.choose_spec.2.2
      refine hK.out _ _ ⟨HS9.out _ hg4, .inr trivial⟩ (fun hHeld => ?_)
      clear hK KK
      try simp only [Act.put, List.setIfInBounds_toArray, List.set_cons_zero, List.set_cons_succ]
      refine wpAnyG_take (i := 8) (oi := { dst := some 15, op := Op.assign (Operand.tmp 56), type := 25, pos := "law.go:293", after := #[{ on := 7, ground := Ground.data }, { on := 7, ground := Ground.chain }, { on := 0, ground := Ground.phase }, { on := 1, ground := Ground.phase }, { on := 2, ground := Ground.phase }, { on := 3, ground := Ground.phase }, { on := 4, ground := Ground.phase }, { on := 5, ground := Ground.phase }, { on := 6, ground := Ground.phase }, { on := 7, ground := Ground.phase }], guard := none }) (v := ?_) rfl (by decide) (by kernel_rfl) (by kernel_rfl) (by kernel_rfl) (fun _ _ _ h => h) (Or.inl ⟨by rfl, ?_⟩) (by assumption) ?_
      rotate_left 1
      · (intro W hSW; (try dsimp only at hSW); obtain ⟨z0, z1, z2, z3⟩ := hSW; first | (go_simp; done) | (go_simp; with_reducible rfl))
      try simp only [Act.put, List.setIfInBounds_toArray, List.set_cons_zero, List.set_cons_succ]
      refine wpAnyG_done (by kernel_rfl) ?_ _
      clear hHeld
      go_wp2_with fail
      go_meet
      obtain ⟨ax, cx, ex, hst⟩ := hO'.steps
      cases ex
      exact ⟨_, _, rfl, hst, hg4⟩
  case rest =>
    obtain ⟨a15, c15, rfl, hst, hg15⟩ := hcut
    obtain ⟨V15, hV15⟩ : ∃ z, z = wc := ⟨_, rfl⟩
    rw [← hV15] at hst hg15 ⊢
    clear hV15
    have HFR : Hid (Few (l.take k ++ [(1, L, 0)]) 80 ∧ (l.take k ++ [((1 : Int), L, (0 : Int))]).length = k + 1 ∧ Few (l.take k ++ [(1, L, 0)] ++ [(2, L, 0)] ++ l.drop k) 80 ∧ Few l 80) := Lib.hid (by
      have f1 : Few [((1 : Int), L, (0 : Int))] 1 := ⟨Nat.le_refl _, fun x hx => by rw [List.mem_singleton.1 hx]; exact Nat.le_trans (Nat.le_of_eq HN.out.2.2.2) c12, fun x hx => by rw [List.mem_singleton.1 hx]; rfl⟩
      have f2 : Few [((2 : Int), L, (0 : Int))] 1 := ⟨Nat.le_refl _, fun x hx => by rw [List.mem_singleton.1 hx]; exact Nat.le_trans (Nat.le_of_eq HN.out.2.2.2) c12, fun x hx => by rw [List.mem_singleton.1 hx]; rfl⟩
      have f3 : Few (l.drop k) 30000 := ⟨by rw [List.length_drop, HN.out.2.2.1]; omega, fun x hx => HL.out.2.1 x (List.mem_of_mem_drop hx), fun x hx => HL.out.2.2 x (List.mem_of_mem_drop hx)⟩
      have g1 := (HL.out.take k).app f1
      have g2 := (g1.app f2).app f3
      have e1 : (l.take k).length = k := HI9.out.2.1
      exact ⟨⟨Nat.le_trans g1.1 (by omega), g1.2⟩, by rw [List.length_append, e1]; rfl, ⟨by rw [List.length_append, List.length_append, List.length_append, e1, List.length_drop, HN.out.2.2.1]; simp only [List.length_cons, List.length_nil]; omega, g2.2⟩, Nat.le_trans HL.out.1 (by omega), HL.out.2⟩)
    obtain ⟨c1, hc1⟩ : ∃ z, chkP (V0, F) Y (l.take k ++ [(1, L, 0)]) = z := ⟨_, rfl⟩
    have HC1 := Lib.hid hc1
    have HST := Lib.hid (And.intro hst (H9.out.1.trans hg15))
    have HG15 := Lib.hid hg15
    clear hst hc1 hg15
    obtain ⟨q0, q1⟩ := HQC.out _ HST.out.2
    go_wp2_with fail
    by_cases hA : c1 = k + 1
    rotate_left
    · have hle : c1 ≤ k := by rw [← HC1.out]; exact front_le _ _ _ (by rw [HN.out.2.2.1]; exact cutn) L (by rw [HC1.out]; exact hA)
      refine (HCK.out _ _ a15 c15 (k + 1) c1 220 HST.out.2 HST.out.1 HFR.out.1 HFR.out.2.1 HC1.out (by unfold errC; rw [if_neg hA])).mono ?_
      rintro e w16 ⟨rfl, g16, -⟩
      have GE := Lib.hid g16
      have p1 : decide ((c1 : Int) ≤ (k : Int)) = true := decide_eq_true (by omega)
      have p1' : decide (c1 ≤ k) = true := decide_eq_true hle
      clear g16
      go_wp2_with fail
      go_ret
      exact ⟨rfl, HG1.out.trans GE.out⟩
    subst hA
    refine (HCK.out _ _ a15 c15 (k + 1) (k + 1) 0 HST.out.2 HST.out.1 HFR.out.1 HFR.out.2.1 HC1.out (by unfold errC; rw [if_pos rfl])).mono ?_
    rintro e w16 ⟨rfl, g16, gk16⟩
    have G16 := Lib.hid (And.intro g16 (HG15.out.trans gk16))
    have HS16 : Hid (StepsW w16 a15 c15 (l.take k ++ [(1, L, 0)]) ∧ StepsW w16 la lc l ∧ IntsW w16 ca cc L) := Lib.hid ⟨HST.out.1.grown gk16, HI.out.2.2.1.grown g16, HI.out.2.2.2.grown g16⟩
    clear g16 gk16
    go_upto_region 11 with fail
    have HO := Lib.hid (own_nil46 w16)
    go_wp2_with (at_builtin; refine append_steps rfl _ _ rfl w16 _ 0 [] rfl HO.out a15 (k + 1) c15 (l.take k ++ [(1, L, 0)]) rfl HFR.out.2.1 HS16.out.1 (by omega) ?_)
    intro a17 c17 w17 hO17
    have HO17 := Lib.hid hO17
    have hg17 := hO17.choose_spec.2.2
    have HB17 : Hid (w17.cell? ⟨bl + 1, 0, none⟩ = some (.int .i64 2) ∧ w17.cell? ⟨bl + 1, 1, none⟩ = some (.slice ca cn cc) ∧ w17.cell? ⟨bl + 1, 2, none⟩ = some (.int .i64 0)) := Lib.hid ⟨(G16.out.2.trans hg17).cell H9.out.2.2.1 (by simp), (G16.out.2.trans hg17).cell H9.out.2.2.2.1 (by simp), (G16.out.2.trans hg17).cell H9.out.2.2.2.2 (by simp)⟩
    clear hO17 hg17
    obtain ⟨y0, y1, y2⟩ := HB17.out
    go_upto_region 12 with fail
    go_wp2_with (at_builtin; refine append_step1 rfl _ _ rfl w16 (.slice a17 (k + 1) c17) (k + 1) (l.take k ++ [(1, L, 0)]) rfl (HO17.out.grown (World.grownBy_alloc _ _ none)) w17.heap.size 1 (2, L, 0) ca cc rfl ?h0 ?h1 ?h2 HS16.out.2.2 (by omega) ?_)
    case h1 => exact HN.out.2.2.2.symm
    intro a18 c18 w18 hO18
    have HO18 := Lib.hid hO18
    clear hO18 y0 y1 y2
    have q4 : (k : Int) ≤ (n : Int) := by omega
    have q4' : (n : Int) ≤ (lc : Int) := by have := HI.out.2.2.1.1; rw [HN.out.2.2.1] at this; omega
    obtain ⟨c, hc⟩ : ∃ z, chkP (V0, F) Y l = z := ⟨_, rfl⟩
    obtain ⟨g1, hg1⟩ : ∃ z, errC c n = z := ⟨_, rfl⟩
    have HC := Lib.hid (And.intro hc hg1)
    have hcn : c ≤ n := by rw [← hc, ← HN.out.2.2.1]; exact chk_le _ _ _
    clear hc hg1
    have HALL : Hid (chkP (V0, F) Y (l.take k ++ [(1, L, 0)] ++ [(2, L, 0)] ++ l.drop k) = c + 2 ∧ (l.take k ++ [((1 : Int), L, (0 : Int))] ++ [((2 : Int), L, (0 : Int))] ++ l.drop k).length = n + 2 ∧ errC (c + 2) (n + 2) = g1) := Lib.hid ⟨by
        rw [redundant (by rw [HN.out.2.2.1]; exact cutn) HFIT.out HL.out.2.1 (by rw [HN.out.2.2.2]; exact c12) HC1.out, HC.out.1], by
        rw [List.length_append, List.length_append, List.length_append, HI9.out.2.1, List.length_drop, HN.out.2.2.1]; simp only [List.length_cons, List.length_nil]; omega, by
        rw [← HC.out.2]; unfold errC; by_cases h : c = n
        · rw [if_pos h, if_pos (by omega)]
        · rw [if_neg h, if_neg (by omega)]⟩
    have kw : IntKind.i64.wrap ((c : Int) + 2) = (c : Int) + 2 := IntWalk.i64_in _ (by omega)
    cases la with
    | none =>
      have hd : Hid (l.drop k = []) := Lib.hid (by
        cases l with
        | nil => simp
        | cons x l => obtain ⟨b, o, e, _⟩ := HS16.out.2.1.2 0 x rfl; cases e)
      obtain rfl : n = 0 := by
        rw [← HN.out.2.2.1]
        cases l with
        | nil => rfl
        | cons x l => obtain ⟨b, o, e, _⟩ := HS16.out.2.1.2 0 x rfl; cases e
      obtain rfl : k = 0 := by omega
      go_wp2_with (at_builtin; refine append_steps rfl _ _ rfl w16 _ _ _ rfl HO18.out _ _ _ (l.drop 0) rfl (by rw [hd.out]; simp) (by rw [hd.out]; exact stepsw_nil _ _ _) (by omega) ?_)
      intro a19 c19 w19 hO19
      have hg19 := hO19.choose_spec.2.2
      obtain ⟨ax, cx, ex, hst⟩ := hO19.steps
      cases ex
      have HL19 := Lib.hid hO19.len
      have HS19 : Hid (W1.grownBy w19 none ∧ StepsW w19 a19 c19 (l.take 0 ++ [(1, L, 0)] ++ [(2, L, 0)] ++ l.drop 0)) := Lib.hid ⟨G16.out.1.trans hg19, by
        have h := hst
        simp only [List.append_assoc, List.cons_append, List.nil_append] at h ⊢
        exact h⟩
      clear hst hO19 hg19
      obtain ⟨q0, q1⟩ := HQC.out _ HS19.out.1
      go_wp2_with fail
      refine (HCK.out _ l _ lc _ c g1 HS19.out.1 (HI.out.2.2.1.grown HS19.out.1) HFR.out.2.2.2 HN.out.2.2.1 HC.out.1 HC.out.2).mono ?_
      rintro e w20 ⟨rfl, g20, gk20⟩
      have HS20 := Lib.hid (And.intro g20 (HS19.out.2.grown gk20))
      obtain ⟨q0, q1⟩ := HQC.out _ g20
      clear g20 gk20
      go_wp2_with fail
      refine (HCK.out _ (l.take 0 ++ [(1, L, 0)] ++ [(2, L, 0)] ++ l.drop 0) _ c19 _ (c + 2) g1 HS20.out.1 HS20.out.2 HFR.out.2.2.1 (HALL.out.2.1.trans (by omega)) HALL.out.1 (Eq.trans (congrArg (errC (c + 2)) (by omega)) HALL.out.2.2)).mono ?_
      rintro e w21 ⟨rfl, g21, -⟩
      have GE := Lib.hid g21
      clear g21
      go_wp2_with fail
      go_ret
      exact ⟨rfl, HG1.out.trans GE.out⟩
    | some ad =>
      by_cases hlk : lc = k
      · subst hlk
        have hnk : n = lc := by omega
        have HNK := Lib.hid hnk
        have hd : Hid (l.drop lc = []) := Lib.hid (List.drop_of_length_le (by rw [HN.out.2.2.1]; exact Nat.le_of_eq hnk))
        clear hnk cutc
        go_wp2_with (at_builtin; refine append_steps rfl _ _ rfl w16 _ _ _ rfl HO18.out _ _ _ (l.drop lc) rfl (by rw [hd.out]; have := HNK.out; simp; try omega) (by rw [hd.out]; exact stepsw_nil _ _ _) (by omega) ?_)
        intro a19 c19 w19 hO19
        have hg19 := hO19.choose_spec.2.2
        obtain ⟨ax, cx, ex, hst⟩ := hO19.steps
        cases ex
        have HL19 := Lib.hid hO19.len
        have HS19 : Hid (W1.grownBy w19 none ∧ StepsW w19 a19 c19 (l.take lc ++ [(1, L, 0)] ++ [(2, L, 0)] ++ l.drop lc)) := Lib.hid ⟨G16.out.1.trans hg19, by
          have h := hst
          simp only [List.append_assoc, List.cons_append, List.nil_append] at h ⊢
          exact h⟩
        clear hst hO19 hg19
        obtain ⟨q0, q1⟩ := HQC.out _ HS19.out.1
        go_wp2_with fail
        refine (HCK.out _ l _ lc _ c g1 HS19.out.1 (HI.out.2.2.1.grown HS19.out.1) HFR.out.2.2.2 HN.out.2.2.1 HC.out.1 HC.out.2).mono ?_
        rintro e w20 ⟨rfl, g20, gk20⟩
        have HS20 := Lib.hid (And.intro g20 (HS19.out.2.grown gk20))
        obtain ⟨q0, q1⟩ := HQC.out _ g20
        clear g20 gk20
        go_wp2_with fail
        refine (HCK.out _ (l.take lc ++ [(1, L, 0)] ++ [(2, L, 0)] ++ l.drop lc) _ c19 _ (c + 2) g1 HS20.out.1 HS20.out.2 HFR.out.2.2.1 (HALL.out.2.1.trans (by have := HNK.out; omega)) HALL.out.1 (Eq.trans (congrArg (errC (c + 2)) (by have := HNK.out; omega)) HALL.out.2.2)).mono ?_
        rintro e w21 ⟨rfl, g21, -⟩
        have GE := Lib.hid g21
        clear g21
        go_wp2_with fail
        go_ret
        exact ⟨rfl, HG1.out.trans GE.out⟩
      · go_wp2_with (at_builtin; refine append_steps rfl _ _ rfl w16 _ _ _ rfl HO18.out _ _ _ (l.drop k) rfl (by rw [List.length_drop, HN.out.2.2.1]) (HS16.out.2.1.rest (by rw [HN.out.2.2.1]; exact cutn)) (by omega) ?_)
        intro a19 c19 w19 hO19
        have hg19 := hO19.choose_spec.2.2
        obtain ⟨ax, cx, ex, hst⟩ := hO19.steps
        cases ex
        have HL19 := Lib.hid hO19.len
        have HS19 : Hid (W1.grownBy w19 none ∧ StepsW w19 a19 c19 (l.take k ++ [(1, L, 0)] ++ [(2, L, 0)] ++ l.drop k)) := Lib.hid ⟨G16.out.1.trans hg19, by
          have h := hst
          simp only [List.append_assoc, List.cons_append, List.nil_append] at h ⊢
          exact h⟩
        clear hst hO19 hg19
        obtain ⟨q0, q1⟩ := HQC.out _ HS19.out.1
        go_wp2_with fail
        refine (HCK.out _ l _ lc _ c g1 HS19.out.1 (HI.out.2.2.1.grown HS19.out.1) HFR.out.2.2.2 HN.out.2.2.1 HC.out.1 HC.out.2).mono ?_
        rintro e w20 ⟨rfl, g20, gk20⟩
        have HS20 := Lib.hid (And.intro g20 (HS19.out.2.grown gk20))
        obtain ⟨q0, q1⟩ := HQC.out _ g20
        clear g20 gk20
        go_wp2_with fail
        refine (HCK.out _ (l.take k ++ [(1, L, 0)] ++ [(2, L, 0)] ++ l.drop k) _ c19 _ (c + 2) g1 HS20.out.1 HS20.out.2 HFR.out.2.2.1 (HALL.out.2.1.trans (by omega)) HALL.out.1 (Eq.trans (congrArg (errC (c + 2)) (by omega)) HALL.out.2.2)).mono ?_
        rintro e w21 ⟨rfl, g21, -⟩
        have GE := Lib.hid g21
        clear g21
        go_wp2_with fail
        go_ret
        exact ⟨rfl, HG1.out.trans GE.out⟩
end Go.Proofs.YtihaheinkpmnnaaGreat
namespace Go.Proofs.YtihaheinkpmnnaaGreat
open Go.ChangeShapes Go.WideShapes Go.ChangeAt Go.WideMaps Go.WideElems Go.RowKit

set_option maxRecDepth 100000 in
theorem checkerRedundant_lifted (os : Os) (started : os.Started) (H : Type) (enc : TypeId × Value → H) :
    ReturnsInHanded {} Tryz.checked os 9 .any (Rows.checkerRedundantSpec.pre6 enc Tryz.prog Tryz.f9 [] false) (Rows.checkerRedundantSpec.post enc Tryz.prog Tryz.f9 false true false false) := by
  refine returnsInHanded_of_change (C := Tryz.checked) own started (by kernel_rfl) Tryz.func9
    (ChangeSpec.witness6 (enc := enc) (C := Tryz.checked) false ⟨#[], #[.agg #[.int .i64 0, .slice none 0 0], .slice none 0 0, .slice none 0 0, .slice none 0 0, .int .u8 0], []⟩ 8 (by kernel_rfl) (by kernel_rfl) (by kernel_rfl) (by kernel_rfl)) ?_
  intro W base args ds gs before hval0 hW _ _
  have hval : ∀ (j : Nat) t v, Tryz.f9.params[j]? = some t → args[j]? = some v → Value.okWide Tryz.prog W .any base t v := hval0
  have hW' := hW
  obtain ⟨p, q, hA0, hV, rfl, _, _⟩ := hW
  have hA : DataW.TrodAll enc Tryz.prog W 0 (fun _ => true) true Tryz.f9.params.toList args.toList ds p := hA0
  rw [Tryz.params9] at hA hval
  have hpl : ∀ x ∈ p, x.block < W.heap.size := fun x hx => hW'.lt x (by simp [hx])
  have hA2 := hA
  obtain ⟨v0, v1, v2, v3, v4, d0, d1, d2, d3, d4, p0, p1, p2, p3, p4, rfl, rfl, rfl, h0, h1, h2, h3, h4⟩ := trodAll_five20 hA
  obtain ⟨rfl, rfl⟩ := trodVars_none hV
  obtain ⟨x0, g0, ga0, gc0, rfl, hg0, hx0, hw0⟩ := open_cnf (hval 0 24 v0 rfl rfl) h0
  obtain ⟨m1, ma1, mc1, rfl, hm1, hn1, hw1⟩ := open_cls (hval 1 22 v1 rfl rfl) h1
  obtain ⟨s2, sa2, sc2, rfl, hs2, hn2, hw2⟩ := open_steps (hval 2 25 v2 rfl rfl) h2
  obtain ⟨l3, la3, lc3, rfl, hl3, hn3⟩ := open_ints (hval 3 34 v3 rfl rfl) h3
  obtain ⟨z4, rfl, hz4⟩ := open_u8 (hval 4 5 v4 rfl rfl) h4
  refine (redundant_calls x0 g0 ga0 gc0 m1 ma1 mc1 s2 sa2 sc2 l3 la3 lc3 z4 W hg0 hm1 hs2 hl3 (by omega) (by omega) hn1 hn2 hw2).mono fun e W' ⟨he, hw⟩ => ?_
  subst he
  have hbl := below_of hw
  exact ⟨_, rfl, _, _, _, [], _, [], hW', trodAll_mk1 (shut_bool Tryz.underlying4 _), trodAll_below hbl (by decide +kernel) hA2 hpl, rfl, hbl.frame _, fun h => by cases h⟩

theorem checkerRedundant_holds : Rows.CheckerRedundantSaid :=
  OpenClaim.holds_of_wide 9 Tryz.f9 rfl rfl rfl rfl rfl rfl rfl ⟨rfl, rfl, rfl, rfl, rfl⟩ rfl rfl rfl rfl rfl (by kernel_rfl) Tryz.func9 (by kernel_rfl)
    (of_decide_eq_true (by kernel_rfl)) (by unfold Func.isWrapper; rw [if_neg (of_decide_eq_false (by kernel_rfl))]; exact ⟨rfl, rfl⟩)
    (fun os started H enc _ => checkerRedundant_lifted os started H enc)
end Go.Proofs.YtihaheinkpmnnaaGreat

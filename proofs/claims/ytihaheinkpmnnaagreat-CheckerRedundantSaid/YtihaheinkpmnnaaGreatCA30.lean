/- Texts of the proof: WF RU MD. -/
import Derived.Test.YtihaheinkpmnnaaGreatCA26
import Derived.Test.YtihaheinkpmnnaaGreatCA24
import Derived.Test.YtihaheinkpmnnaaGreatCA29
namespace Go.Proofs.YtihaheinkpmnnaaGreat
set_option maxRecDepth 200000
open Go.RowKit Go.Shelf Go.Maps Go.Sort
theorem valid1 (v : Int) (x : St) : validF v [x] = (decide (0 ≤ v ∧ v ≤ 20000) && okS v x) := by
  have e : validF v [x] = (decide (0 ≤ v ∧ v ≤ 20000 ∧ [x].length ≤ 20000) && okF v [x]) := rfl
  rw [e]
  simp [okF]
/-- A row of clauses that is read, header by header. -/
def RowN (w : World) (a : Option Addr) (c : Nat) (zs : List Nr) : Prop := zs.length ≤ c ∧ (zs = [] ∨ ∃ b o, a = some ⟨b, o, none⟩ ∧ ∀ (j : Nat) (z : Nr), zs[j]? = some z → w.cell? ⟨b, o + j, none⟩ = some (encP z))
theorem cls_row {w : World} {a : Option Addr} {c : Nat} {C : List (List Int)} (h : ClsW w a c C) : ∃ ps : List Nr, ps.map (·.2.2) = C ∧ RowN w a c ps ∧ ∀ p ∈ ps, IntsW w p.1 p.2.1 p.2.2 := by
  have key : ∀ k, k ≤ C.length → ∃ ps : List Nr, ps.map (·.2.2) = C.take k ∧ (∀ p ∈ ps, IntsW w p.1 p.2.1 p.2.2) ∧ (ps = [] ∨ ∃ b o, a = some ⟨b, o, none⟩ ∧ ∀ (j : Nat) (z : Nr), ps[j]? = some z → w.cell? ⟨b, o + j, none⟩ = some (encP z)) := by
    intro k
    induction k with
    | zero => intro _; exact ⟨[], by simp, fun p hp => (by cases hp), .inl rfl⟩
    | succ k ih =>
      intro hk
      obtain ⟨ps, h1, h2, h3⟩ := ih (by omega)
      obtain ⟨b, o, a', c', ha, hc, hi⟩ := h.at (i := k) (z := C[k]) (List.getElem?_eq_getElem hk)
      have hlen : ps.length = k := by
        have := congrArg List.length h1
        rw [List.length_map, List.length_take] at this; omega
      refine ⟨ps ++ [(a', c', C[k])], by rw [List.map_append, h1, List.take_add_one, List.getElem?_eq_getElem hk]; rfl, fun p hp => ?_, .inr ⟨b, o, ha, fun j z hj => ?_⟩⟩
      · rcases List.mem_append.1 hp with hp | hp
        · exact h2 p hp
        · rw [List.mem_singleton.1 hp]; exact hi
      · by_cases hjk : j < k
        · rw [List.getElem?_append_left (by omega)] at hj
          rcases h3 with h3 | ⟨b', o', ha', h3⟩
          · rw [h3] at hj; cases hj
          · rw [ha] at ha'; cases ha'; exact h3 j z hj
        · rw [List.getElem?_append_right (by omega), hlen] at hj
          have : j = k := by
            have := (List.getElem?_eq_some_iff.1 hj).1
            simp at this; omega
          subst this
          simp at hj
          subst hj
          exact hc
  obtain ⟨ps, h1, h2, h3⟩ := key C.length (Nat.le_refl _)
  rw [List.take_length] at h1
  refine ⟨ps, h1, ⟨?_, h3⟩, h2⟩
  have := congrArg List.length h1
  rw [List.length_map] at this
  have := h.1
  omega
theorem clone27_calls (zs : List Nr) (a : Option Addr) (c : Nat) (w : World) (h : RowN w a c zs) (hl : zs.length ≤ 100000) :
    Calls Tryz.prog 27 #[.slice a zs.length c] w fun e w' => ∃ v', e = .returned v' ∧ w'.ownsRow w.heap.size 34 1 v' zs.length (zs.map encP) ∧ w.grownBy w' none := by
  obtain ⟨n, hn⟩ : ∃ n, zs.length = n := ⟨_, rfl⟩
  rw [hn] at hl ⊢
  have HN := Lib.hid hn; clear hn
  cases a with
  | none =>
    obtain rfl : zs = [] := by
      obtain ⟨_, h | ⟨_, _, e, _⟩⟩ := h
      · exact h
      · cases e
    have q28 : ∀ (w : World) (a : Option Addr) (n c n' c' : Nat), (binOp .eql 22 (.slice a n c) (.slice none n' c')).run Tryz.prog w = .ok (.bool a.isNone) w := fun w a n c n' c' => Lib.run_eql_slice_nil w _ _ a n c n' c' Tryz.underlying22
    have hn0 : n = 0 := by rw [← HN.out]; rfl
    subst hn0
    go_enter Tryz.func27, Tryz.ntmps27
    go_wp2_with fail
    go_ret
    exact ⟨.slice none 0 0, rfl, World.ownsRow_nil _ _ _ _, grown_refl _ _⟩
  | some ad =>
    obtain ⟨i0, hi0, hz0, hz1, hz2⟩ := info_parts info34
    have HC := Lib.hid h.2; have hc := h.1; clear h
    rw [HN.out] at hc
    have q28 : ∀ (w : World) (a : Option Addr) (n c n' c' : Nat), (binOp .eql 22 (.slice a n c) (.slice none n' c')).run Tryz.prog w = .ok (.bool a.isNone) w := fun w a n c n' c' => Lib.run_eql_slice_nil w _ _ a n c n' c' Tryz.underlying22
    go_enter Tryz.func27, Tryz.ntmps27
    go_wp2_with (at_builtin; refine wpList_append_own _ rfl _ _ 22 rfl w.heap.size 34 i0 (.slice none 0 0) 1 24 Tryz.underlying22 hi0 hz0 hz1 hz2 rfl (by decide) _ _ _ rfl (World.ownsRow_made w #[] 0 (Nat.le_refl _) (Nat.zero_le _) rfl) ad n c (zs.map encP) rfl ?qc1 ?qc2 ?qc3 ?qc4 ?qc5 ?qc6 ?_)
    case qc1 => rw [List.length_map, HN.out]; omega
    case qc2 =>
      intro j u hj
      rw [List.getElem?_map] at hj
      cases hq : zs[j]? with
      | none => rw [hq] at hj; simp at hj
      | some z =>
        rw [hq] at hj
        simp only [Option.map_some, Option.some.injEq] at hj
        rcases HC.out with h0 | ⟨b, o, e, hz⟩
        · rw [h0] at hq; simp at hq
        · cases e
          have hadd : (⟨b, o, none⟩ : Addr).add j = ⟨b, o + j, none⟩ := by unfold Addr.add; split <;> simp_all
          rw [hadd, ← hj]
          exact (World.grownBy_alloc w _ none).cell (hz j z hq) (by simp)
    case qc3 => intro u hu; obtain ⟨x, _, rfl⟩ := List.mem_map.1 hu; rfl
    case qc4 => unfold maxLen; omega
    case qc5 => omega
    case qc6 => simp
    intro v' w1 hown hgrow hnil
    have hown' : w1.ownsRow w.heap.size 34 1 v' zs.length (zs.map encP) := by rw [HN.out]; simpa using hown
    obtain ⟨a', c', rfl⟩ := own_shape hown'
    have HR := Lib.hid hown'; clear hown hown' hnil
    have HG : Hid (w.grownBy w1 none) := Lib.hid (grown_own (World.grownBy_alloc w _ none) hgrow (fun k hk => by simp [Value.ownBlock] at hk; omega))
    clear hgrow
    rw [HN.out]
    go_wp2
    go_ret
    refine ⟨_, rfl, ?_, HG.out⟩
    have := HR.out
    rw [HN.out] at this
    exact this

set_option maxHeartbeats 4000000 in
theorem well_calls (v : Int) (x : St) (la : Option Addr) (lc : Nat) (w : World) (hi : IntsW w la lc x.2.1) (hl : x.2.1.length ≤ 100000) :
    Calls Tryz.prog 29 #[.int .i64 v, .agg #[.int .i64 x.1, .slice la x.2.1.length lc, .int .i64 x.2.2]] w fun e w' => e = .returned (.bool (wfS v x)) ∧ w.grownBy w' none := by
  obtain ⟨kd, L, y⟩ := x
  simp only at hi hl ⊢
  obtain ⟨n, hn⟩ : ∃ z, L.length = z := ⟨_, rfl⟩
  obtain ⟨bx, hbx⟩ : ∃ z, w.heap.size = z := ⟨_, rfl⟩
  have hval : ∀ (q : Int) (W : World), w.grownBy W none → Calls Tryz.prog 49 #[.int .i64 v, .slice (some ⟨W.heap.size, 0, none⟩) 1 1] (W.alloc (.cells #[.int .i64 kd, .slice la n lc, .int .i64 q] 46)) fun e w' => e = .returned (.bool (decide (0 ≤ v ∧ v ≤ 20000) && okS v (kd, L, q))) ∧ w.grownBy w' none := fun q W hg => by
    obtain ⟨W', hW'⟩ : ∃ z, W.alloc (.cells #[.int .i64 kd, .slice la n lc, .int .i64 q] 46) = z := ⟨_, rfl⟩
    have hga : W.grownBy W' none := by rw [← hW']; exact World.grownBy_alloc _ _ none
    have hnew : W'.heap[W.heap.size]? = some (.cells #[.int .i64 kd, .slice la n lc, .int .i64 q] 46 (0, 0)) := by rw [← hW']; exact World.alloc_heap_new W _
    rw [hW']
    have hst : StepsW W' (some ⟨W.heap.size, 0, none⟩) 1 [(kd, L, q)] := by
      refine ⟨Nat.le_refl _, fun j x hj => ⟨W.heap.size, 0, rfl, ?_⟩⟩
      have hj0 : j = 0 := by have := (List.getElem?_eq_some_iff.1 hj).1; simp at this; exact this
      subst hj0
      simp at hj
      subst hj
      refine ⟨by simp [World.cell?, hnew], ⟨la, lc, ?_, (hi.grown hg).grown hga⟩, by simp [World.cell?, hnew]⟩
      simp only [hn]; simp [World.cell?, hnew]
    have := validF_calls v [(kd, L, q)] 1 rfl (some ⟨W.heap.size, 0, none⟩) 1 _ hst (by simp) (fun x hx => by simp at hx; subst hx; exact hl)
    rw [valid1] at this
    exact this.mono fun e w' ⟨h1, h2⟩ => ⟨h1, (hg.trans hga).trans h2⟩
  have HV := Lib.hid hval
  rw [hn]
  clear hval hi hl hn
  by_cases hk : kd = 4
  · have e1 : (kd == 4) = true := by simpa using hk
    have HR : Hid (wfS v (kd, L, y) = (decide (0 ≤ v ∧ v ≤ 20000) && okS v (kd, L, 0))) := Lib.hid (by unfold wfS; rw [if_pos hk])
    have HC := Lib.hid (HV.out 0 (w.alloc (.cells #[.int .i64 kd, .slice la n lc, .int .i64 0] 46)) (World.grownBy_alloc _ _ none))
    rw [show (w.alloc (.cells #[.int .i64 kd, .slice la n lc, .int .i64 0] 46)).heap.size = bx + 1 from by simp [hbx]] at HC
    clear hk
    obtain ⟨d, hd⟩ : ∃ z, (decide (0 ≤ v ∧ v ≤ 20000) && okS v (kd, L, 0)) = z := ⟨_, rfl⟩
    rw [hd] at HC HR
    clear hd HV
    go_enter Tryz.func29, Tryz.ntmps29
    go_wp2_with fail
    refine HC.out.mono ?_
    rintro e w' ⟨rfl, hg⟩
    have HG := Lib.hid hg
    clear hg
    go_wp2_with fail
    go_ret
    exact ⟨by rw [HR.out]; rfl, HG.out⟩
  · have e1 : (kd == 4) = false := by simpa using hk
    have HR : Hid (wfS v (kd, L, y) = (decide (0 ≤ v ∧ v ≤ 20000) && okS v (kd, L, y))) := Lib.hid (by unfold wfS; rw [if_neg hk])
    have HC := Lib.hid (HV.out y (w.alloc (.cells #[.int .i64 kd, .slice la n lc, .int .i64 y] 46)) (World.grownBy_alloc _ _ none))
    rw [show (w.alloc (.cells #[.int .i64 kd, .slice la n lc, .int .i64 y] 46)).heap.size = bx + 1 from by simp [hbx]] at HC
    clear hk
    obtain ⟨d, hd⟩ : ∃ z, (decide (0 ≤ v ∧ v ≤ 20000) && okS v (kd, L, y)) = z := ⟨_, rfl⟩
    rw [hd] at HC HR
    clear hd HV
    go_enter Tryz.func29, Tryz.ntmps29
    go_wp2_with fail
    refine HC.out.mono ?_
    rintro e w' ⟨rfl, hg⟩
    have HG := Lib.hid hg
    clear hg
    go_wp2_with fail
    go_ret
    exact ⟨by rw [HR.out]; rfl, HG.out⟩
end Go.Proofs.YtihaheinkpmnnaaGreat

namespace Go.Proofs.YtihaheinkpmnnaaGreat
set_option maxRecDepth 200000
open Go.RowKit Go.Shelf Go.Maps
/-- What a function in a map reads as: its number. -/
def Rf (v : Value) : Option (DataW Unit × List MemPlace) :=
  match v with
  | .func (.func n) f c => if f.size = 0 ∧ c.size = 0 then some (.lit (.int .i64 (n : Int)), []) else none
  | .nilFunc => some (.lit (.int .i64 (-1)), [])
  | _ => none
theorem Rf_inv {v : Value} {z : DataW Unit × List MemPlace} (h : Rf v = some z) : (∃ n : Nat, v = .func (.func n) #[] #[] ∧ z = (.lit (.int .i64 (n : Int)), [])) ∨ (v = .nilFunc ∧ z = (.lit (.int .i64 (-1)), [])) := by
  unfold Rf at h
  split at h
  · rename_i n f c
    split at h
    · rename_i hh
      have e1 : f = #[] := Array.eq_empty_of_size_eq_zero hh.1
      have e2 : c = #[] := Array.eq_empty_of_size_eq_zero hh.2
      subst e1 e2
      exact .inl ⟨_, rfl, (Option.some.inj h).symm⟩
    · cases h
  · exact .inr ⟨rfl, (Option.some.inj h).symm⟩
  · cases h
theorem zero56 (w : World) : (zeroValue 56).run Tryz.prog w = .ok Value.nilFunc w := by kernel_rfl
def putF (D : List (Int × Nat)) : DataW Unit := D.foldl (fun m p => m.put (.int .i64 p.1) (.lit (.int .i64 (p.2 : Int)))) (.map [])
theorem putF_snoc (D : List (Int × Nat)) (p : Int × Nat) : putF (D ++ [p]) = (putF D).put (.int .i64 p.1) (.lit (.int .i64 (p.2 : Int))) := by
  unfold putF; rw [List.foldl_append]; rfl
def RulesM (w : World) (b : Nat) (D : List (Int × Nat)) : Prop := w.ownsMap (H := Unit) Tryz.prog 3 Rf b D.length (putF D)
theorem RulesM.grown {w w' : World} {b : Nat} {D : List (Int × Nat)} (h : RulesM w b D) (hg : w.grownBy w' none) : RulesM w' b D := h.kept hg (by simp)
theorem RulesM.kept {w w' : World} {b : Nat} {D : List (Int × Nat)} {r : Option Nat} (h : RulesM w b D) (hg : w.grownBy w' r) (hr : some b ≠ r) : RulesM w' b D := World.ownsMap.kept h hg hr
theorem RulesM.new (w : World) : RulesM (w.alloc (.map #[] 0)) w.heap.size [] := World.ownsMap_made w _ _ _
theorem wpList_insF {ops : Array Oper} {rest : List Oper} {o : Oper} {a : Act} {Q : Exit → Act → World → Prop} {w : World} (hg : o.guard = none) (m x : Operand) (n : Nat) (hop : o.op = Op.insert 54 m x (.func n))
    (b : Nat) (D : List (Int × Nat)) (hm : a.eval m = .map (some b)) (hown : RulesM w b D) (hl : D.length ≤ 1000000) (k : Int) (hx : a.eval x = .int .i64 k) (hk : (Lit.int .i64 k).wf = true)
    (hK : ∀ w', RulesM w' b (D ++ [(k, n)]) → w.grownBy w' (some b) → wpList Tryz.prog ops Q rest (a.put o.dst undef) w') : wpList Tryz.prog ops Q (o :: rest) a w := by
  refine wpList_plain hg fun K' hK' => ?_
  obtain ⟨w', hr, ho, ht⟩ := World.ownsMap.store hown (Maps.int_keyed Tryz.underlying3) Tryz.underlying54 (by unfold maxLen; omega) (Maps.keyOf_int_mk Tryz.underlying3 hk) (show Rf (.func (.func n) #[] #[]) = some (.lit (.int .i64 (n : Int)), []) from rfl)
  unfold Oper.wp
  have hv : a.eval (.func n) = .func (.func n) #[] #[] := rfl
  simp [execOp, hop, hm, hx, hv, hr, Result.andThen]
  exact hK' _ _ (hK w' (by unfold RulesM; rw [putF_snoc, List.length_append]; exact ho) ht.grown)
def rulesD : List (Int × Nat) := [(1, 45), (2, 46), (3, 47), (4, 48)]
theorem putF_at : ∀ (D : List (Int × Nat)) (k : Int), (putF D).atKey (.int .i64 k) (.lit (.int .i64 (-1))) = (match D.reverse.find? (fun p => p.1 == k) with | some p => .lit (.int .i64 (p.2 : Int)) | none => .lit (.int .i64 (-1))) ∧ Maps.has (putF D) (.int .i64 k) = (D.reverse.find? (fun p => p.1 == k)).isSome ∧ Maps.Tidy (putF D) := by
  refine snoc_ind (fun k => ⟨by simp [putF, DataW.atKey], by simp [putF, Maps.has], Maps.tidy_empty⟩) (fun D p ih k => ?_)
  obtain ⟨h1, h2, h3⟩ := ih k
  rw [putF_snoc, List.reverse_append, List.reverse_singleton, List.singleton_append, List.find?_cons]
  by_cases h : p.1 = k
  · have e : (p.1 == k) = true := by simp [h]
    rw [e]
    subst h
    exact ⟨Maps.atKey_put_same h3.isMap (by trivial : Go.WideAt.IsKeyLit (.int .i64 p.1)) _ _, by rw [Maps.has_put_same h3.isMap (by trivial : Go.WideAt.IsKeyLit (.int .i64 p.1))]; rfl, h3.put (by trivial) _⟩
  · have e : (p.1 == k) = false := by simp [h]
    have hne : (Lit.int .i64 k) ≠ Lit.int .i64 p.1 := by simp; omega
    rw [e]
    exact ⟨by rw [Maps.atKey_put_other hne]; exact h1, by rw [Maps.has_put_other hne]; exact h2, h3.put (by trivial) _⟩
/-- The look-up of a kind: the method, or none. -/
theorem RulesM.look {w : World} {b : Nat} (h : RulesM w b rulesD) {k : Int} (hk : (Lit.int .i64 k).wf = true) :
    (Instr.lookup 54 (.map (some b)) (.int .i64 k) true).run Tryz.prog w = .ok (.tuple #[if k = 1 then .func (.func 45) #[] #[] else if k = 2 then .func (.func 46) #[] #[] else if k = 3 then .func (.func 47) #[] #[] else if k = 4 then .func (.func 48) #[] #[] else .nilFunc, .bool (decide (k = 1 ∨ k = 2 ∨ k = 3 ∨ k = 4))]) w := by
  obtain ⟨v, ps, hr, hv⟩ := World.ownsMap.look_ok h (Maps.int_keyed Tryz.underlying3) Tryz.underlying54 (zero56 w) (show Rf .nilFunc = some (.lit (.int .i64 (-1)), []) from rfl) (Maps.keyOf_int_mk Tryz.underlying3 hk)
  obtain ⟨h1, h2, _⟩ := putF_at rulesD k
  rw [hr]
  rw [h1] at hv
  rw [h2]
  have hval : ∀ n : Nat, (Rf v = some (.lit (.int .i64 (n : Int)), ps)) → v = .func (.func n) #[] #[] := fun n hn => by
    rcases Rf_inv hn with ⟨m, rfl, e⟩ | ⟨rfl, e⟩
    · have e1 := congrArg Prod.fst e
      simp only at e1
      injection e1 with e1
      injection e1 with _ e1
      rw [show n = m by omega]
    · have e1 := congrArg Prod.fst e
      simp only at e1
      injection e1 with e1
      injection e1 with _ e1
      omega
  by_cases k1 : k = 1
  · subst k1; rw [hval 45 hv]; rfl
  by_cases k2 : k = 2
  · subst k2; rw [hval 46 hv]; rfl
  by_cases k3 : k = 3
  · subst k3; rw [hval 47 hv]; rfl
  by_cases k4 : k = 4
  · subst k4; rw [hval 48 hv]; rfl
  have hf : rulesD.reverse.find? (fun p => p.1 == k) = none := by
    rw [List.find?_eq_none]
    intro p hp
    simp [rulesD] at hp
    rcases hp with rfl | rfl | rfl | rfl <;> simp <;> omega
  rw [hf] at hv ⊢
  have : v = .nilFunc := by
    rcases Rf_inv hv with ⟨m, rfl, e⟩ | ⟨rfl, e⟩
    · have e1 := congrArg Prod.fst e
      simp only at e1
      injection e1 with e1
      injection e1 with _ e1
      omega
    · rfl
  rw [this, if_neg k1, if_neg k2, if_neg k3, if_neg k4, decide_eq_false (by omega)]
  rfl
theorem rules_calls (w : World) : Calls Tryz.prog 28 #[] w fun e w' => ∃ b, e = .returned (.map (some b)) ∧ RulesM w' b rulesD ∧ w.heap.size ≤ b ∧ w.grownBy w' none := by
  have hmm := @run_makeMap Tryz.prog
  obtain ⟨bm, hbm⟩ : ∃ z, w.heap.size = z := ⟨_, rfl⟩
  obtain ⟨W1, hW1⟩ : ∃ z, w.alloc (.map #[] 0) = z := ⟨_, rfl⟩
  have hm1 : RulesM W1 bm [] ∧ w.grownBy W1 none := by rw [← hW1, ← hbm]; exact ⟨RulesM.new w, World.grownBy_alloc _ _ none⟩
  have HM := Lib.hid hm1
  have HL : Hid (w.heap.size ≤ bm) := Lib.hid (by omega)
  clear hm1
  go_enter Tryz.func28, Tryz.ntmps28
  go_wp2_with (refine wpList_insF rfl _ _ 45 rfl bm [] rfl HM.out.1 (by decide) 1 rfl (by decide) ?_)
  intro w2 h2 g2
  refine wpList_insF rfl _ _ 46 rfl bm [(1, 45)] rfl h2 (by decide) 2 rfl (by decide) ?_
  intro w3 h3 g3
  refine wpList_insF rfl _ _ 47 rfl bm [(1, 45), (2, 46)] rfl h3 (by decide) 3 rfl (by decide) ?_
  intro w4 h4 g4
  refine wpList_insF rfl _ _ 48 rfl bm [(1, 45), (2, 46), (3, 47)] rfl h4 (by decide) 4 rfl (by decide) ?_
  intro w5 h5 g5
  have HE : Hid (RulesM w5 bm rulesD ∧ w.grownBy w5 none) := Lib.hid (by
    have hlow : ∀ k, some bm = some k → w.heap.size ≤ k := fun k e => by cases e; omega
    exact ⟨h5, grown_own (grown_own (grown_own (grown_own HM.out.2 g2 hlow) g3 hlow) g4 hlow) g5 hlow⟩)
  clear h2 g2 h3 g3 h4 g4 h5 g5 hW1 hbm
  go_wp2_with fail
  go_ret
  exact ⟨bm, rfl, HE.out.1, HL.out, HE.out.2⟩
end Go.Proofs.YtihaheinkpmnnaaGreat

namespace Go.Proofs.YtihaheinkpmnnaaGreat
set_option maxRecDepth 200000
open Go.RowKit Go.Shelf Go.Maps Go.Sort
/-- What a step's method leaves. -/
def Done (w0 : World) (K : Kst) (b : Nat) (s : CkS) (N : Nat) (x : St) (e : Ending) (w' : World) : Prop :=
  e = .returned (.bool (doP K.fs K.Y s x).isSome) ∧ (∀ t, doP K.fs K.Y s x = some t → StM w0 K b t (N + 1) w') ∧ w0.grownBy w' none
theorem do1_calls {w0 : World} {K : Kst} {b : Nat} {s : CkS} {N : Nat} {w : World} (h : StM w0 K b s N w) {x : St} {la : Option Addr} {lc : Nat} (hf : Fine w0 s N x la lc) (hw : wfS s.1 x = true) (hk : x.1 = 1) :
    Calls Tryz.prog 45 #[.pointer (some ⟨b, 0, none⟩), .agg #[.int .i64 x.1, .slice la x.2.1.length lc, .int .i64 x.2.2]] w (Done w0 K b s N x) := by
  refine (learn_calls h hf (wf_known hw (by omega))).mono ?_
  rintro e w' ⟨rfl, h1, h2⟩
  have hd : doP K.fs K.Y s x = if impB s.1 s.2 x.2.1 = true then some (s.1, s.2 ++ [x.2.1]) else none := by unfold doP; rw [if_pos hk]
  unfold Done
  rw [hd]
  cases hi : impB s.1 s.2 x.2.1 with
  | true => exact ⟨rfl, fun t ht => by cases ht; exact h1 hi, h2⟩
  | false => exact ⟨rfl, fun t ht => (by cases ht), h2⟩
theorem do2_calls {w0 : World} {K : Kst} {b : Nat} {s : CkS} {N : Nat} {w : World} (h : StM w0 K b s N w) {x : St} {la : Option Addr} {lc : Nat} (hf : Fine w0 s N x la lc) (hk : x.1 = 2) :
    Calls Tryz.prog 46 #[.pointer (some ⟨b, 0, none⟩), .agg #[.int .i64 x.1, .slice la x.2.1.length lc, .int .i64 x.2.2]] w (Done w0 K b s N x) := by
  refine (remove_calls h hf).mono ?_
  rintro e w' ⟨rfl, h1, h2⟩
  have hd : doP K.fs K.Y s x = (delP s.2 x.2.1).map fun C => (s.1, C) := by unfold doP; rw [if_neg (by omega), if_pos hk]
  unfold Done
  rw [hd]
  refine ⟨by rw [Option.isSome_map], fun t ht => ?_, h2⟩
  rw [Option.map_eq_some_iff] at ht
  obtain ⟨D, e1, rfl⟩ := ht
  exact h1 D e1
theorem do3_calls {w0 : World} {K : Kst} {b : Nat} {s : CkS} {N : Nat} {w : World} (h : StM w0 K b s N w) {x : St} {la : Option Addr} {lc : Nat} (hf : Fine w0 s N x la lc) (hw : wfS s.1 x = true) (hk : x.1 = 3) :
    Calls Tryz.prog 47 #[.pointer (some ⟨b, 0, none⟩), .agg #[.int .i64 x.1, .slice la x.2.1.length lc, .int .i64 x.2.2]] w (Done w0 K b s N x) := by
  obtain ⟨g1, g2, g3, g4, g5⟩ := wf_def hw hk
  refine (define_calls h hf g2 (fun e => by rw [g2, e] at g1; simp at g1) g3).mono ?_
  rintro e w' ⟨rfl, h1⟩
  have hd : doP K.fs K.Y s x = some (s.1 + 1, s.2 ++ defC ((s.1 : Int) + 1) x.2.1.tail) := by unfold doP; rw [if_neg (by omega), if_neg (by omega), if_pos hk]
  unfold Done
  rw [hd]
  exact ⟨rfl, fun t ht => by cases ht; exact h1, h1.grown⟩
theorem do4_calls {w0 : World} {K : Kst} {b : Nat} {s : CkS} {N : Nat} {w : World} (hK0 : KOk w0 K) (h : StM w0 K b s N w) {x : St} {la : Option Addr} {lc : Nat} (hf : Fine w0 s N x la lc) (hk : x.1 = 4) :
    Calls Tryz.prog 48 #[.pointer (some ⟨b, 0, none⟩), .agg #[.int .i64 x.1, .slice la x.2.1.length lc, .int .i64 x.2.2]] w (Done w0 K b s N x) := by
  refine (symmetry_calls hK0 h hf).mono ?_
  rintro e w' ⟨rfl, h1, h2⟩
  have hd : doP K.fs K.Y s x = if syB K.fs K.Y s.2 x = true then some (s.1, s.2 ++ [x.2.1]) else none := by unfold doP; rw [if_neg (by omega), if_neg (by omega), if_neg (by omega)]
  unfold Done
  rw [hd]
  cases hi : syB K.fs K.Y s.2 x with
  | true => exact ⟨rfl, fun t ht => by cases ht; exact h1 hi, h2⟩
  | false => exact ⟨rfl, fun t ht => (by cases ht), h2⟩
theorem RulesM.of_block {w w' : World} {b : Nat} {D : List (Int × Nat)} (h : RulesM w b D) (hb : w'.heap[b]? = w.heap[b]?) : RulesM w' b D := by
  obtain ⟨es, clock, h1, Ft, hs, hD⟩ := h
  exact ⟨es, clock, hb.trans h1, Ft, hs, hD⟩
theorem RulesM.obj {w : World} {b : Nat} {D : List (Int × Nat)} (h : RulesM w b D) : ∃ o : Obj, w.heap[b]? = some o ∧ o.isCells = false := by
  obtain ⟨es, clock, h1, _⟩ := h
  exact ⟨_, h1, rfl⟩
/-- The table of the rules lies where it lay. -/
theorem StM.rules {w0 : World} {K : Kst} {b : Nat} {s : CkS} {N : Nat} {v : Value} {bm : Nat} {ps : List Nr} {w : World} (h : BoxM w0 K b s N v bm ps w) {bt : Nat} (ht : RulesM K.R bt rulesD) (hne : bt ≠ bm) : RulesM w bt rulesD := by
  obtain ⟨o, h1, h2⟩ := ht.obj
  exact ht.of_block ((h.oth bt o h1 h2 hne).trans h1.symm)
end Go.Proofs.YtihaheinkpmnnaaGreat

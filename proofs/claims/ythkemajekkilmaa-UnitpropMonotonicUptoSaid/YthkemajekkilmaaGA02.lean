/- Stage 20, joined: P3, N0, J0, B1. -/
import Derived.Deep.DeepCutAuto
import Derived.Deep.LoopGhost
import Derived.Test.YthkemajekkilmaaGA01
import Derived.Laws.MakeOwn
import Derived.Laws.OwnMore
import Derived.RangeFuncNested
import Derived.RangeFuncLeaves
import Derived.RangeFuncBound
import Derived.Shelf.Abstract
import Derived.Shelf.RegionOpen
import Derived.Sort.LoopGhostIn
import Derived.TacticsInMore
import Derived.LoopNIn
import Derived.LoopIn
import Derived.OwnWalkIn
import Derived.RegionIn
/- The propagator: a literal is assigned. -/
namespace Go.Proofs.Ythkemajekkilmaa
open Go.RowKit
/-- The propagator at a trail. -/
structure PSr (K : PK) (C : List (List Int)) (w : World) (tr : List Int) (rest : List Nat) (ns kf : Int) (R : Nat → Rw) : Prop where
  pw : PW K w (valsP K.V tr) ns kf R
  t : (R 0).l = tr
  s : (R 2).l = satsP C tr
  o : (R 3).l = opnsP C tr
  occ : Occ K.V C (R 4).l (R 5).l
  cl : (R 5).l.length ≤ 100000
  q : QOk C tr rest (R 6).l
  ql : (R 6).l.length ≤ C.length * (1 + tr.length)
  cons : Cons tr
  free : free K.V tr + tr.length ≤ K.V
abbrev PS (K : PK) (C : List (List Int)) (w : World) (tr : List Int) (ns kf : Int) (R : Nat → Rw) : Prop := PSr K C w tr [] ns kf R
theorem PM.upd {K : PK} {R : Nat → Rw} {i : Nat} {x : Rw} {N : Nat} (hi : i < 7) (hb : x.blk = (R i).blk ∨ ∃ b, x.blk = some b ∧ N ≤ b) : ∀ k, PM K (upd R i x) k → PM K R k ∨ N ≤ k := by
  rintro k (rfl | rfl | ⟨j, hj, e⟩)
  · exact .inl (.inl rfl)
  · exact .inl (.inr (.inl rfl))
  · by_cases h : j = i
    · subst h
      rw [upd_same] at e
      rcases hb with h1 | ⟨b, h1, h2⟩
      · exact .inl (.inr (.inr ⟨j, hj, by rw [← h1]; exact e⟩))
      · right; rw [h1] at e; injection e with e; omega
    · rw [upd_other h] at e
      exact .inl (.inr (.inr ⟨j, hj, e⟩))
theorem trail_row {K : PK} {w : World} {vs : List Int} {ns kf : Int} {R : Nat → Rw} (h : PW K w vs ns kf R) {i : Nat} (hi : i < 7) {n : Nat} (hn : (R i).l.length = n) {x : Int} {a' : Option Addr} {c' : Nat} {w7 : World}
    (hown : w7.ownsRow K.B 3 1 (.slice a' (n + 1) c') (n + 1) (intCells (R i).l ++ [Value.int .i64 x])) (hg : w.grownBy w7 (Value.slice (R i).a n (R i).c).ownBlock)
    (hat : (Value.slice a' (n + 1) c').ownBlock = (Value.slice (R i).a n (R i).c).ownBlock ∨ ∃ b, (Value.slice a' (n + 1) c').ownBlock = some b ∧ w.heap.size ≤ b) :
    PW K (w7.setCell ⟨K.p, fld i, none⟩ (.slice a' (n + 1) c')) vs ns kf (upd R i ⟨a', c', (R i).l ++ [x]⟩) ∧ Off (PM K R) w (w7.setCell ⟨K.p, fld i, none⟩ (.slice a' (n + 1) c')) ∧
      ((⟨a', c', (R i).l ++ [x]⟩ : Rw).blk = (R i).blk ∨ ∃ b, (⟨a', c', (R i).l ++ [x]⟩ : Rw).blk = some b ∧ w.heap.size ≤ b) := by
  have hln : ((R i).l ++ [x]).length = n + 1 := by rw [List.length_append, hn]; rfl
  have hbR : (R i).blk = (Value.slice (R i).a n (R i).c).ownBlock := by unfold Rw.blk; rw [Rw.val, hn]
  have hbx : (⟨a', c', (R i).l ++ [x]⟩ : Rw).blk = (Value.slice a' (n + 1) c').ownBlock := by unfold Rw.blk; simp only [Rw.val, hln]
  have hval : (⟨a', c', (R i).l ++ [x]⟩ : Rw).val = .slice a' (n + 1) c' := by simp only [Rw.val, hln]
  have hb : (⟨a', c', (R i).l ++ [x]⟩ : Rw).blk = (R i).blk ∨ ∃ b, (⟨a', c', (R i).l ++ [x]⟩ : Rw).blk = some b ∧ w.heap.size ≤ b := by rw [hbR, hbx]; exact hat
  have hpl : K.p < w.heap.size := (h.below K.p (.inl rfl)).2.1
  have hpn : (Value.slice (R i).a n (R i).c).ownBlock ≠ some K.p := by rw [← hbR]; exact h.offp i hi
  have hpn' : (Value.slice a' (n + 1) c').ownBlock ≠ some K.p := by
    rw [← hbx]
    rcases hb with h1 | ⟨b, h1, h2⟩
    · rw [h1]; exact h.offp i hi
    · rw [h1]; intro e; injection e with e; omega
  have hrow : IRow K.B w7 a' c' ((R i).l ++ [x]) := by
    unfold IRow
    rw [hln, intCells, List.map_append]
    exact hown
  have ho : Off (fun k => k = K.p ∨ (R i).blk = some k) w (w7.setCell ⟨K.p, fld i, none⟩ (.slice a' (n + 1) c')) :=
    (Off.of hg (fun k e => .inr (by rw [hbR]; exact e))).trans (Off.of (grown_set _ _ _ _) (fun k e => .inl (Option.some.inj e).symm)) (fun k _ hk => hk)
  refine ⟨h.turn hi _ ho ?_ ?_ hb, ho.mono (fun k _ hk => hk.elim (fun e => .inl e) (fun e => .inr (.inr ⟨i, hi, e⟩))), hb⟩
  · rw [hval]; exact set_block (hg.block K.p hpl (fun e => hpn e.symm))
  · exact irow_off hrow (grown_set _ _ _ _) hln (fun b hbb e => by cases e; exact hpn' hbb)
theorem upd_self (R : Nat → Rw) (i : Nat) : upd R i ⟨(R i).a, (R i).c, (R i).l⟩ = R := by
  funext j; unfold upd; by_cases e : j = i
  · rw [if_pos e, e]
  · rw [if_neg e]
theorem upd_upd (R : Nat → Rw) (i : Nat) (x y : Rw) : upd (upd R i x) i y = upd R i y := by
  funext j; unfold upd; by_cases e : j = i <;> simp [e]
theorem upd_comm (R : Nat → Rw) {i k : Nat} (h : i ≠ k) (x y : Rw) : upd (upd R i x) k y = upd (upd R k y) i x := by
  funext j; unfold upd
  by_cases e1 : j = k
  · subst e1; rw [if_pos rfl, if_neg (fun e => h e.symm), if_pos rfl]
  · rw [if_neg e1]; by_cases e2 : j = i
    · rw [if_pos e2, if_pos e2]
    · rw [if_neg e2, if_neg e2, if_neg e1]
/-- The counts behind the first k clauses with a literal. -/
def ctR (R : Nat → Rw) (s o : List Int) : Nat → Rw := upd (upd R 2 ⟨(R 2).a, (R 2).c, s⟩) 3 ⟨(R 3).a, (R 3).c, o⟩
theorem ctR2 (R : Nat → Rw) (s o : List Int) : ctR R s o 2 = ⟨(R 2).a, (R 2).c, s⟩ := by unfold ctR; rw [upd_other (by decide), upd_same]
theorem ctR3 (R : Nat → Rw) (s o : List Int) : ctR R s o 3 = ⟨(R 3).a, (R 3).c, o⟩ := upd_same _ _ _
theorem ctRo (R : Nat → Rw) (s o : List Int) {j : Nat} (h2 : j ≠ 2) (h3 : j ≠ 3) : ctR R s o j = R j := by unfold ctR; rw [upd_other h3, upd_other h2]
theorem ctR_set2 (R : Nat → Rw) (s s' o : List Int) : upd (ctR R s o) 2 ⟨(ctR R s o 2).a, (ctR R s o 2).c, s'⟩ = ctR R s' o := by
  rw [ctR2]; unfold ctR
  rw [upd_comm (upd R 2 _) (i := 3) (k := 2) (by decide), upd_upd, upd_comm R (i := 2) (k := 3) (by decide)]
theorem ctR_set3 (R : Nat → Rw) (s o o' : List Int) : upd (ctR R s o) 3 ⟨(ctR R s o 3).a, (ctR R s o 3).c, o'⟩ = ctR R s o' := by
  rw [ctR3]; unfold ctR; rw [upd_upd]
theorem ctR_self (R : Nat → Rw) {s o : List Int} (hs : (R 2).l = s) (ho : (R 3).l = o) : ctR R s o = R := by
  unfold ctR; rw [← hs, ← ho, upd_self, upd_self]
theorem PM.ct {K : PK} {R : Nat → Rw} {s o : List Int} (hs : s.length = (R 2).l.length) (ho : o.length = (R 3).l.length) : ∀ k, PM K (ctR R s o) k → PM K R k := by
  rintro k (rfl | rfl | ⟨j, hj, e⟩)
  · exact .inl rfl
  · exact .inr (.inl rfl)
  · refine .inr (.inr ⟨j, hj, ?_⟩)
    by_cases h2 : j = 2
    · subst h2; rw [ctR2] at e; unfold Rw.blk at e ⊢; simp only [Rw.val, hs] at e; exact e
    · by_cases h3 : j = 3
      · subst h3; rw [ctR3] at e; unfold Rw.blk at e ⊢; simp only [Rw.val, ho] at e; exact e
      · rwa [ctRo _ _ _ h2 h3] at e
theorem bump_next {d : Int} {l : List Int} {is : List Nat} {k i : Nat} (h : is[k]? = some i) : bump d l (is.take (k + 1)) = (bump d l (is.take k)).set i (at_ (bump d l (is.take k)) i + d) := by
  have hk := (List.getElem?_eq_some_iff.1 h).1
  have e : is[k] = i := (List.getElem?_eq_some_iff.1 h).2
  rw [List.take_succ_eq_append_getElem hk, bump_snoc, e]
  rfl
theorem bump_at {d : Int} {l : List Int} {is : List Nat} (hn : is.Nodup) {k i : Nat} (h : is[k]? = some i) (hj : i < l.length) : at_ (bump d l (is.take k)) i = at_ l i := by
  have hk := (List.getElem?_eq_some_iff.1 h).1
  have e : is[k] = i := (List.getElem?_eq_some_iff.1 h).2
  unfold at_
  rw [bump_get (hn.sublist (List.take_sublist _ _)) hj, if_neg, Int.add_zero]
  intro hm
  obtain ⟨a, ha, e2⟩ := List.mem_iff_getElem.1 hm
  rw [List.getElem_take] at e2
  have hak : a < k := by simp at ha; omega
  have := (List.getElem_inj hn (h₀ := by omega) (h₁ := hk)).1 (e2.trans e.symm)
  omega
theorem uq_len (l : List Int) : (uq l).length ≤ l.length := by
  refine snoc_ind (P := fun l => (uq l).length ≤ l.length) (by simp [uq]) (fun l x ih => ?_) l
  rw [uq_snoc]; split <;> simp <;> omega
theorem sat_le (tr c : List Int) : satN tr c ≤ c.length := Nat.le_trans List.countP_le_length (uq_len c)
theorem opn_le (tr c : List Int) : opnN tr c ≤ c.length := Nat.le_trans List.countP_le_length (uq_len c)
set_option maxHeartbeats 16000000 in
set_option maxRecDepth 100000 in
theorem assign_calls {K : PK} {C : List (List Int)} {w : World} {tr : List Int} {ns kf : Int} {R : Nat → Rw} {rest : List Nat} (h : PSr K C w tr rest ns kf R) (hV : K.V ≤ 40) (hC : C.length ≤ 1000) (hL : ∀ c ∈ C, c.length ≤ 1000) (x : Int) (hrest : ∀ r ∈ rest, x ∈ C.getD r []) (hx : InR K.V x) (hu : und tr x = true) :
    Calls Try.prog 46 #[.pointer (some ⟨K.p, 0, none⟩), .int .i64 x] w fun e w' => e = .returned (.tuple #[]) ∧ ∃ R', PS K C w' (tr ++ [x]) ns kf R' ∧ R' 1 = R 1 ∧ Off (PM K R) w w' ∧ ∀ k, PM K R' k → PM K R k ∨ w.heap.size ≤ k := by
  obtain ⟨n, hn⟩ : ∃ n, (R 0).l.length = n := ⟨_, rfl⟩
  have hn40 : n ≤ 40 := by have h1 := h.free; have h2 := h.t; rw [h2] at hn; omega
  have HH := Lib.hid (And.intro h (And.intro hx (And.intro hu hn)))
  have HREST := Lib.hid hrest
  have q2 := h.pw.f2
  rw [Rw.val, hn] at q2
  have f2 := h.pw.fr 2
  obtain ⟨i0, hi0, hz0, hz1, hz2⟩ := info_parts info3
  have HO : Hid (w.ownsRow K.B 3 1 (.slice (R 0).a n (R 0).c) n (intCells (R 0).l)) := Lib.hid (by have := h.pw.rows 0 (by omega); unfold IRow at this; rwa [hn] at this)
  have hf2 : (w.alloc (.cells #[.int .i64 x] 3)).frozen? ⟨K.p, 2, none⟩ = false := by
    have hlt := lies_lt q2
    go_simp
  have HB : Hid (K.B ≤ w.heap.size ∧ (Value.slice (R 0).a n (R 0).c).ownBlock ≠ some K.p ∧ K.p < w.heap.size) := Lib.hid ⟨by have := h.pw.low; have := lies_lt q2; simp only at this; omega, by have := h.pw.offp 0 (by omega); unfold Rw.blk at this; rwa [Rw.val, hn] at this, lies_lt q2⟩
  clear h hu hn hrest
  go_enter Try.func46, Try.ntmps46
  go_wp2_with (at_builtin; refine wpList_append_own_at _ rfl _ _ 25 rfl K.B 3 i0 (.int .i64 0) 1 8 Try.underlying25 hi0 hz0 hz1 hz2 rfl (by decide) _ n (intCells (R 0).l) rfl (HO.out.alloc _) ⟨w.heap.size, 0, none⟩ 1 1 [.int .i64 x] rfl rfl (cell_one_new _ _ _) (fun u hu => by simp at hu; subst hu; rfl) (by unfold maxLen; omega) (by omega) (by have := HB.out.1; simp; omega) ?_)
  intro v' w7 hown' hgrow7 _ hat7
  obtain ⟨a', c', rfl⟩ := own_shape hown'
  have hg8 : w.grownBy w7 (Value.slice (R 0).a n (R 0).c).ownBlock := (World.grownBy_alloc w _ _).trans hgrow7
  have c7 := hg8.cell q2 (fun e => HB.out.2.1 e.symm)
  have f7 : w7.frozen? ⟨K.p, 2, none⟩ = false := (World.frozen?_of_block (a := ⟨K.p, 2, none⟩) (hg8.block K.p HB.out.2.2 (fun e => HB.out.2.1 e.symm))).trans f2
  have hT := trail_row (i := 0) HH.out.1.pw (by omega) HH.out.2.2.2 hown' hg8 (by
    rcases hat7 with h1 | h1
    · exact .inl h1
    · exact .inr ⟨_, h1, by simp⟩)
  obtain ⟨W8, hW8⟩ : ∃ z, w7.setCell ⟨K.p, 2, none⟩ (.slice a' (n + 1) c') = z := ⟨_, rfl⟩
  have HT : Hid (PW K W8 (valsP K.V tr) ns kf (upd R 0 ⟨a', c', (R 0).l ++ [x]⟩) ∧ Off (PM K R) w W8 ∧ ((⟨a', c', (R 0).l ++ [x]⟩ : Rw).blk = (R 0).blk ∨ ∃ b, (⟨a', c', (R 0).l ++ [x]⟩ : Rw).blk = some b ∧ w.heap.size ≤ b)) := Lib.hid (by rw [← hW8]; exact hT)
  clear hT hown' hgrow7 hat7 hg8 hf2 q2 f2
  have HW8 := Lib.hid hW8
  go_upto_if 19 with fail
  clear hW8 c7 f7
  go_cut [] (fun wx => PW K wx (valsP K.V (tr ++ [x])) ns kf (upd R 0 ⟨a', c', (R 0).l ++ [x]⟩) ∧ Off (PM K R) w wx)
  case first =>
    by_cases hneg : x < 0
    · obtain ⟨v, hv⟩ : ∃ v : Nat, -x = (v : Int) := ⟨x.natAbs, by omega⟩
      have hv1 : v ≠ 0 := by have := HH.out.2.1.1; omega
      have q6 := HT.out.1.f6
      have g6 := HT.out.1.vfr v
      have hz := vals_get (V := K.V) (tr := tr) (v := v) (by have := HH.out.2.1.2.2; omega) hv1
      have e6 := HT.out.1.vcell hz
      have i0 : (0 : Int) ≤ (v : Int) := by omega
      have i2 : (v : Int) < (K.V : Int) + 1 := by have := HH.out.2.1.2.2; omega
      have fx : decide (x < 0) = true := decide_eq_true hneg
      have k1 : IntKind.i64.wrap (-x) = (v : Int) := by rw [IntWalk.i64_in _ (by have := HH.out.2.1.1; have := HH.out.2.1.2; omega)]; exact hv
      have HV := Lib.hid (show PW K (W8.setCell ⟨K.vb, v, none⟩ (.int .i8 (-1))) (valsP K.V (tr ++ [x])) ns kf (upd R 0 ⟨a', c', (R 0).l ++ [x]⟩) ∧ Off (PM K R) w (W8.setCell ⟨K.vb, v, none⟩ (.int .i8 (-1))) from by
        have h1 := HT.out.1.setVal v (-1)
        have hxv : x = -(v : Int) := by omega
        rw [vals_neg hv1 (by rw [← hxv]; exact HH.out.2.2.1), ← hxv] at h1
        exact ⟨h1, HT.out.2.1.trans (Off.of (grown_set _ _ _ _) (fun k e => .inr (.inl (Option.some.inj e).symm))) (fun k _ hk => hk)⟩)
      clear hz hv
      go_wp2_with fail
      go_meet
      exact HV.out
    · obtain ⟨v, hv⟩ : ∃ v : Nat, x = (v : Int) := ⟨x.natAbs, by omega⟩
      have hv1 : v ≠ 0 := by have := HH.out.2.1.1; omega
      have q6 := HT.out.1.f6
      have g6 := HT.out.1.vfr v
      have hz := vals_get (V := K.V) (tr := tr) (v := v) (by have := HH.out.2.1.2.1; omega) hv1
      have e6 := HT.out.1.vcell hz
      have i0 : 0 ≤ x := by omega
      have i2 : x < (K.V : Int) + 1 := by have := HH.out.2.1.2.1; omega
      have i3 : x.toNat = v := by omega
      have fx : decide (x < 0) = false := decide_eq_false (by omega)
      have HV := Lib.hid (show PW K (W8.setCell ⟨K.vb, v, none⟩ (.int .i8 1)) (valsP K.V (tr ++ [x])) ns kf (upd R 0 ⟨a', c', (R 0).l ++ [x]⟩) ∧ Off (PM K R) w (W8.setCell ⟨K.vb, v, none⟩ (.int .i8 1)) from by
        have h1 := HT.out.1.setVal v 1
        rw [vals_pos hv1 (by rw [← hv]; exact HH.out.2.2.1), ← hv] at h1
        exact ⟨h1, HT.out.2.1.trans (Off.of (grown_set _ _ _ _) (fun k e => .inr (.inl (Option.some.inj e).symm))) (fun k _ hk => hk)⟩)
      clear hz hv
      go_wp2_with fail
      go_meet
      exact HV.out
  case rest =>
    obtain ⟨hpw, hoff⟩ := hcut
    have HPM := Lib.hid (PM.upd (K := K) (R := R) (i := 0) (N := w.heap.size) (by omega) HT.out.2.2)
    obtain ⟨R1, hR1⟩ : ∃ z, upd R 0 ⟨a', c', (R 0).l ++ [x]⟩ = z := ⟨_, rfl⟩
    have HR1 : Hid ((R1 0).l = tr ++ [x] ∧ ∀ j, j ≠ 0 → R1 j = R j) := Lib.hid ⟨by rw [← hR1, upd_same]; simp only; rw [HH.out.1.t], fun j hj => by rw [← hR1, upd_other hj]⟩
    rw [hR1] at hpw HPM
    have HP := Lib.hid (And.intro hpw hoff)
    have HOC : Hid (Occ K.V C (R1 4).l (R1 5).l ∧ (R1 5).l.length ≤ 100000) := Lib.hid (by rw [HR1.out.2 4 (by omega), HR1.out.2 5 (by omega)]; exact ⟨HH.out.1.occ, HH.out.1.cl⟩)
    have HSO : Hid ((R1 2).l = satsP C tr ∧ (R1 3).l = opnsP C tr) := Lib.hid (by rw [HR1.out.2 2 (by omega), HR1.out.2 3 (by omega)]; exact ⟨HH.out.1.s, HH.out.1.o⟩)
    clear hpw hoff hR1 HT HO HB HW8
    obtain ⟨n1, hn1⟩ : ∃ n, (with_ C x).length = n := ⟨_, rfl⟩
    have HN1 := Lib.hid hn1
    have HC1 := Lib.hid (containing_calls HP.out.1 HOC.out.1 (by omega) HOC.out.2 hx n1 hn1)
    clear hn1
    go_wp2_with fail
    refine HC1.out.mono ?_
    rintro e w2 ⟨⟨sa, sc, rfl, lo, hlo⟩, m0, rfl⟩
    have HLO := Lib.hid hlo
    clear hlo HC1
    have hW1C : n1 ≤ 1000 := by
      have h1 := (with_ C x).length
      have h2 : (with_ C x).length ≤ C.length := by unfold with_; exact Nat.le_trans (List.length_filter_le _ _) (by simp)
      have := HN1.out; omega
    go_wp2_with fail
    go_loopg [5, 37] n1 (fun gk _s5 s37 wr => ∃ k : Nat, s37 = .int .i64 (k : Int) ∧ gk = n1 - k ∧ k ≤ n1 ∧ PW K wr (valsP K.V (tr ++ [x])) ns kf (ctR R1 (bump 1 (satsP C tr) ((with_ C x).take k)) (bump (-1) (opnsP C tr) ((with_ C x).take k))) ∧ Off (PM K R) w wr)
    case atStart => exact ⟨0, rfl, rfl, Nat.zero_le _, by rw [List.take_zero]; show PW K _ _ _ _ (ctR R1 (satsP C tr) (opnsP C tr)); rw [ctR_self R1 HSO.out.1 HSO.out.2]; exact HP.out.1.drewN _, HP.out.2.trans (Off.of (grown_drewN _ _ none) (fun _ e => by cases e)) (fun _ _ e => e)⟩
    case round =>
      obtain ⟨k, rfl, hgk, hk, hpw, hoff⟩ := hrel
      obtain ⟨wo, hwo⟩ : ∃ z, z = wr := ⟨_, rfl⟩
      rw [← hwo] at hpw hoff ⊢
      clear hwo
      by_cases hkn : k < n1
      · have f1 : decide (k < n1) = true := decide_eq_true hkn
        have f2 : decide ((k : Int) < (n1 : Int)) = true := decide_eq_true (by omega)
        have f3 : (k : Int) < (n1 : Int) := by omega
        obtain ⟨g5, e5, rfl, hcl5⟩ := HLO.out (by omega)
        obtain ⟨i, hi⟩ : ∃ i, (with_ C x)[k]? = some i := ⟨_, List.getElem?_eq_getElem (by rw [HN1.out]; exact hkn)⟩
        have hiC : i < C.length := (mem_with.1 (List.mem_of_getElem? hi)).1
        obtain ⟨S, hS⟩ : ∃ z, bump 1 (satsP C tr) ((with_ C x).take k) = z := ⟨_, rfl⟩
        obtain ⟨O, hO⟩ : ∃ z, bump (-1) (opnsP C tr) ((with_ C x).take k) = z := ⟨_, rfl⟩
        rw [hS, hO] at hpw
        have hSl : S.length = C.length := by rw [← hS, bump_len]; simp [satsP]
        have hOl : O.length = C.length := by rw [← hO, bump_len]; simp [opnsP]
        have c5 := irow_cell (show IRow K.B wo (some ⟨g5, 0, none⟩) (R1 5).c (R1 5).l from by have h := hpw.rows 5 (by omega); rw [ctRo _ _ _ (by decide) (by decide), e5] at h; exact h) (i := lo + k) ((List.getElem?_eq_some_iff.1 (hcl5 k i hi)).1)
        have e5v : at_ (R1 5).l (lo + k) = (i : Int) := by have h := hcl5 k i hi; unfold at_; rw [List.getD_eq_getElem?_getD, h]; rfl
        rw [e5v] at c5
        obtain ⟨cn, hcn⟩ : ∃ z, C.length = z := ⟨_, rfl⟩
        obtain ⟨g2, a2, v2, hc2, r2⟩ := hpw.row (i := 2) (by omega) (n := cn) (by rw [ctR2]; simp only; omega) (by omega)
        obtain ⟨g3, a3, v3, hc3, r3⟩ := hpw.row (i := 3) (by omega) (n := cn) (by rw [ctR3]; simp only; omega) (by omega)
        have q7 := hpw.f7
        have q8 := hpw.f8
        rw [v2] at q7
        rw [v3] at q8
        rw [ctR2] at a2 r2 q7
        rw [ctR3] at a3 r3 q8
        simp only at a2 r2 a3 r3 q7 q8
        have c2 := irow_cell r2 (i := i) (by omega)
        have c3 := irow_cell r3 (i := i) (by omega)
        have z2 := World.ownsRow.frozenAt r2 i
        have z3 := World.ownsRow.frozenAt r3 i
        have hb2 : (ctR R1 S O 2).blk = some g2 := by rw [ctR2]; unfold Rw.blk; simp only [Rw.val, a2]; rfl
        have hb3 : (ctR R1 S O 3).blk = some g3 := by rw [ctR3]; unfold Rw.blk; simp only [Rw.val, a3]; rfl
        have n23 : g2 ≠ g3 := fun e => hpw.apart 2 3 (by omega) (by omega) (by decide) g2 hb2 (by rw [hb3, e])
        have n32 : g3 ≠ g2 := fun e => n23 e.symm
        have np2 : K.p ≠ g2 := fun e => hpw.offp 2 (by omega) (by rw [hb2, e])
        have n2p : g2 ≠ K.p := fun e => np2 e.symm
        have hs2 : at_ S i = at_ (satsP C tr) i := by rw [← hS]; exact bump_at (nodup_with C x) hi (by simp [satsP]; omega)
        have hs3 : at_ O i = at_ (opnsP C tr) i := by rw [← hO]; exact bump_at (nodup_with C x) hi (by simp [opnsP]; omega)
        have hCm : C.getD i [] ∈ C := by rw [List.getD_eq_getElem?_getD, List.getElem?_eq_getElem hiC]; exact List.getElem_mem hiC
        obtain ⟨s, hs⟩ : ∃ z, at_ S i = z := ⟨_, rfl⟩
        obtain ⟨o, ho⟩ : ∃ z, at_ O i = z := ⟨_, rfl⟩
        have bs : 0 ≤ s ∧ s ≤ 1000 := by
          rw [← hs, hs2]; unfold at_ satsP; rw [getD_map hiC]
          have := sat_le tr (C.getD i []); have := hL _ hCm; omega
        have bo : 0 ≤ o ∧ o ≤ 1000 := by
          rw [← ho, hs3]; unfold at_ opnsP; rw [getD_map hiC]
          have := opn_le tr (C.getD i []); have := hL _ hCm; omega
        rw [hs] at c2
        rw [ho] at c3
        have k1 : IntKind.i64.wrap (s + 1) = s + 1 := IntWalk.i64_in _ (by omega)
        have k2 : IntKind.i64.wrap (o - 1) = o - 1 := IntWalk.i64_in _ (by omega)
        have i1 : (i : Int) < (cn : Int) := by omega
        have HNX := Lib.hid (show PW K ((wo.setCell ⟨g2, i, none⟩ (.int .i64 (s + 1))).setCell ⟨g3, i, none⟩ (.int .i64 (o - 1))) (valsP K.V (tr ++ [x])) ns kf (ctR R1 (bump 1 (satsP C tr) ((with_ C x).take (k + 1))) (bump (-1) (opnsP C tr) ((with_ C x).take (k + 1)))) ∧ Off (PM K R) w ((wo.setCell ⟨g2, i, none⟩ (.int .i64 (s + 1))).setCell ⟨g3, i, none⟩ (.int .i64 (o - 1))) from by
          have h1 := hpw.store (i := 2) (by omega) (by rw [ctR2]; exact a2) i (s + 1)
          rw [ctR_set2, ctR2] at h1
          have h2 := h1.store (i := 3) (by omega) (by rw [ctR3]; exact a3) i (o - 1)
          rw [ctR_set3, ctR3] at h2
          rw [bump_next hi, bump_next hi, hS, hO, hs, ho]
          refine ⟨h2, ?_⟩
          have hM : ∀ g, (ctR R1 S O 2).blk = some g ∨ (ctR R1 S O 3).blk = some g → g < w.heap.size → PM K R g := fun g hg hlt => by
            have h9 : PM K (ctR R1 S O) g := hg.elim (fun e => .inr (.inr ⟨2, by omega, e⟩)) (fun e => .inr (.inr ⟨3, by omega, e⟩))
            rcases HPM.out g (PM.ct (by rw [hSl, HSO.out.1]; simp [satsP]) (by rw [hOl, HSO.out.2]; simp [opnsP]) g h9) with h10 | h10
            · exact h10
            · omega
          exact (hoff.trans (Off.of (grown_set _ _ _ _) (fun k e => e)) (fun j hj e => hM j (.inl (hb2.trans e)) hj)).trans (Off.of (grown_set _ _ _ _) (fun k e => e)) (fun j hj e => hM j (.inr (hb3.trans e)) hj))
        have HGK := Lib.hid hgk
        clear hgk hpw hoff hS hO hSl hOl e5v r2 r3 v2 v3 hb2 hb3 hs2 hs3 hCm hs ho bs bo hcl5 a2 a3 hi hiC hcn e5
        go_wp2_with fail
        go_roundg (n1 - (k + 1))
        case measure => rw [HGK.out]; omega
        case rel => exact ⟨k + 1, rfl, rfl, by omega, HNX.out.1, HNX.out.2⟩
      · have hke : k = n1 := by omega
        subst hke
        have f1 : decide (k < k) = false := by simp
        rw [← HN1.out, List.take_length, sats_step HH.out.2.2.1] at hpw
        obtain ⟨R2, hR2⟩ : ∃ z, ctR R1 (satsP C (tr ++ [x])) (bump (-1) (opnsP C tr) (with_ C x)) = z := ⟨_, rfl⟩
        rw [hR2] at hpw
        have HR2 : Hid ((R2 2).l = satsP C (tr ++ [x]) ∧ (R2 3).l = bump (-1) (opnsP C tr) (with_ C x) ∧ ∀ j, j ≠ 2 → j ≠ 3 → R2 j = R1 j) := Lib.hid ⟨by rw [← hR2, ctR2], by rw [← hR2, ctR3], fun j h2 h3 => by rw [← hR2, ctRo _ _ _ h2 h3]⟩
        have HPM2 : Hid (∀ k, PM K R2 k → PM K R k ∨ w.heap.size ≤ k) := Lib.hid (fun k hk => HPM.out k (by rw [← hR2] at hk; exact PM.ct (by rw [HSO.out.1]; simp [satsP]) (by rw [bump_len, HSO.out.2]) k hk))
        have HQ := Lib.hid (And.intro hpw hoff)
        have HOC2 : Hid (Occ K.V C (R2 4).l (R2 5).l ∧ (R2 5).l.length ≤ 100000) := Lib.hid (by rw [HR2.out.2.2 4 (by omega) (by omega), HR2.out.2.2 5 (by omega) (by omega)]; exact HOC.out)
        have HQ6 : Hid ((R2 6).l = (R 6).l) := Lib.hid (by rw [HR2.out.2.2 6 (by omega) (by omega), HR1.out.2 6 (by omega)])
        clear hpw hoff hR2 hgk
        obtain ⟨n2, hn2⟩ : ∃ n, (with_ C (-x)).length = n := ⟨_, rfl⟩
        have HN2 := Lib.hid hn2
        have kx : IntKind.i64.wrap (-x) = -x := IntWalk.i64_in _ (by have := HH.out.2.1.2; omega)
        have hx' : InR K.V (-x) := by have h0 := HH.out.2.1.1; have h1 := HH.out.2.1.2; exact ⟨by omega, by omega, by omega⟩
        have HC2 := Lib.hid (containing_calls HQ.out.1 HOC2.out.1 (by omega) HOC2.out.2 hx' n2 hn2)
        clear hn2
        go_wp2_with fail
        refine HC2.out.mono ?_
        rintro e w3 ⟨⟨sb, sd, rfl, lb, hlb⟩, m1, rfl⟩
        have HLB := Lib.hid hlb
        clear hlb HC2 kx f1
        have hW2C : n2 ≤ C.length := by
          have h2 : (with_ C (-x)).length ≤ C.length := by unfold with_; exact Nat.le_trans (List.length_filter_le _ _) (by simp)
          have := HN2.out; omega
        have HL0 : Hid ((R 6).l.length ≤ 42000) := Lib.hid (by
          have h1 := HH.out.1.ql; have h2 := HH.out.1.free
          have h3 : C.length * (1 + tr.length) ≤ 1000 * 42 := Nat.mul_le_mul hC (by omega)
          omega)
        go_wp2_with fail
        go_loopg [7, 65] n2 (fun gk _s7 s65 wr => ∃ (k : Nat) (R3 : Nat → Rw), s65 = .int .i64 (k : Int) ∧ gk = n2 - k ∧ k ≤ n2 ∧ PW K wr (valsP K.V (tr ++ [x])) ns kf R3 ∧ (∀ j, j ≠ 3 → j ≠ 6 → R3 j = R2 j) ∧ (R3 3).l = bump (-1) (R2 3).l ((with_ C (-x)).take k) ∧ QOk C (tr ++ [x]) ((with_ C (-x)).drop k) (R3 6).l ∧ (R3 6).l.length ≤ (R 6).l.length + k ∧ Off (PM K R) w wr ∧ ∀ b, PM K R3 b → PM K R b ∨ w.heap.size ≤ b)
        case atStart => exact ⟨0, R2, rfl, rfl, Nat.zero_le _, HQ.out.1.drewN _, fun _ _ _ => rfl, rfl, by rw [List.drop_zero, HQ6.out]; exact HH.out.1.q.step HREST.out HH.out.2.1.1 HH.out.2.2.1, by rw [HQ6.out]; omega, HQ.out.2.trans (Off.of (grown_drewN _ _ none) (fun _ e => by cases e)) (fun _ _ e => e), HPM2.out⟩
        case round =>
          obtain ⟨k, R3, rfl, hgk, hk, hpw, hsame, hO3, hq3, hlen3, hoff, hpm3⟩ := hrel
          obtain ⟨wo, hwo⟩ : ∃ z, z = wr := ⟨_, rfl⟩
          rw [← hwo] at hpw hoff ⊢
          clear hwo
          have HG := Lib.hid (And.intro hgk (And.intro hpw (And.intro hsame (And.intro hO3 (And.intro hq3 (And.intro hlen3 (And.intro hoff hpm3)))))))
          clear hgk hsame hO3 hq3 hlen3 hoff hpm3
          by_cases hkn : k < n2
          · have f1 : decide (k < n2) = true := decide_eq_true hkn
            have f2 : decide ((k : Int) < (n2 : Int)) = true := decide_eq_true (by omega)
            have f3 : (k : Int) < (n2 : Int) := by omega
            obtain ⟨g5, e5, rfl, hcl5⟩ := HLB.out (by omega)
            obtain ⟨i, hi⟩ : ∃ i, (with_ C (-x))[k]? = some i := ⟨_, List.getElem?_eq_getElem (by rw [HN2.out]; exact hkn)⟩
            have hiC : i < C.length := (mem_with.1 (List.mem_of_getElem? hi)).1
            have hS : (R3 2).l = satsP C (tr ++ [x]) := by rw [HG.out.2.2.1 2 (by omega) (by omega)]; exact HR2.out.1
            have hOl : (R3 3).l.length = C.length := by rw [HG.out.2.2.2.1, bump_len, HR2.out.2.1, bump_len]; simp [opnsP]
            have c5 := irow_cell (show IRow K.B wo (some ⟨g5, 0, none⟩) (R2 5).c (R2 5).l from by have h := hpw.rows 5 (by omega); rw [HG.out.2.2.1 5 (by decide) (by decide), e5] at h; exact h) (i := lb + k) ((List.getElem?_eq_some_iff.1 (hcl5 k i hi)).1)
            have e5v : at_ (R2 5).l (lb + k) = (i : Int) := by have h := hcl5 k i hi; unfold at_; rw [List.getD_eq_getElem?_getD, h]; rfl
            rw [e5v] at c5
            obtain ⟨cn, hcn⟩ : ∃ z, C.length = z := ⟨_, rfl⟩
            obtain ⟨g2, a2, v2, hc2, r2⟩ := hpw.row (i := 2) (by omega) (n := cn) (by rw [hS]; simp [satsP]; omega) (by omega)
            obtain ⟨g3, a3, v3, hc3, r3⟩ := hpw.row (i := 3) (by omega) (n := cn) (by omega) (by omega)
            have q7 := hpw.f7
            have q8 := hpw.f8
            rw [v2] at q7
            rw [v3] at q8
            have c2 := irow_cell r2 (i := i) (by rw [hS]; simp [satsP]; omega)
            have c3 := irow_cell r3 (i := i) (by omega)
            have z3 := World.ownsRow.frozenAt r3 i
            have hb2 : (R3 2).blk = some g2 := by unfold Rw.blk; simp only [Rw.val, a2]; rfl
            have hb3 : (R3 3).blk = some g3 := by unfold Rw.blk; simp only [Rw.val, a3]; rfl
            have n23 : g2 ≠ g3 := fun e => hpw.apart 2 3 (by omega) (by omega) (by decide) g2 hb2 (by rw [hb3, e])
            have n32 : g3 ≠ g2 := fun e => n23 e.symm
            have np3 : K.p ≠ g3 := fun e => hpw.offp 3 (by omega) (by rw [hb3, e])
            have n3p : g3 ≠ K.p := fun e => np3 e.symm
            have hCm : C.getD i [] ∈ C := by rw [List.getD_eq_getElem?_getD, List.getElem?_eq_getElem hiC]; exact List.getElem_mem hiC
            -- what the cells hold
            have hs2 : at_ (R3 2).l i = (satN (tr ++ [x]) (C.getD i []) : Int) := by rw [hS]; unfold at_ satsP; rw [getD_map hiC]
            have hs3 : at_ (R3 3).l i - 1 = (opnN (tr ++ [x]) (C.getD i []) : Int) := by
              rw [HG.out.2.2.2.1, bump_at (nodup_with C (-x)) hi (by rw [HR2.out.2.1, bump_len]; simp [opnsP]; omega)]
              have h1 : at_ (bump (-1) (bump (-1) (opnsP C tr) (with_ C x)) (with_ C (-x))) i = at_ (opnsP C (tr ++ [x])) i := by rw [opns_step (C := C) HH.out.2.1.1 HH.out.2.2.1]
              unfold at_ at h1
              rw [bump_get (nodup_with C (-x)) (by rw [bump_len]; simp [opnsP]; omega), if_pos (List.mem_of_getElem? hi)] at h1
              unfold opnsP at h1
              rw [getD_map (C := C) hiC] at h1
              rw [HR2.out.2.1]; unfold at_ opnsP; omega
            obtain ⟨s, hs⟩ : ∃ z : Nat, satN (tr ++ [x]) (C.getD i []) = z := ⟨_, rfl⟩
            obtain ⟨o, ho⟩ : ∃ z : Nat, opnN (tr ++ [x]) (C.getD i []) = z := ⟨_, rfl⟩
            have bo : o ≤ 1000 := by rw [← ho]; have := opn_le (tr ++ [x]) (C.getD i []); have := hL _ hCm; omega
            rw [hs] at hs2
            rw [ho] at hs3
            rw [hs2] at c2
            obtain ⟨o1, ho1⟩ : ∃ z, at_ (R3 3).l i = z := ⟨_, rfl⟩
            rw [ho1] at c3 hs3
            have k2 : IntKind.i64.wrap (o1 - 1) = (o : Int) := by rw [hs3]; exact IntWalk.i64_in _ (by omega)
            have i1 : (i : Int) < (cn : Int) := by omega
            obtain ⟨W4, hW4⟩ : ∃ z, wo.setCell ⟨g3, i, none⟩ (.int .i64 (o : Int)) = z := ⟨_, rfl⟩
            have hp4 := hpw.store (i := 3) (by omega) a3 i (o : Int)
            obtain ⟨R4, hR4⟩ : ∃ z, upd R3 3 ⟨(R3 3).a, (R3 3).c, (R3 3).l.set i (o : Int)⟩ = z := ⟨_, rfl⟩
            rw [hR4, hW4] at hp4
            have hO4 : (R4 3).l = bump (-1) (R2 3).l ((with_ C (-x)).take (k + 1)) := by
              rw [← hR4, upd_same]; simp only; rw [bump_next hi, ← HG.out.2.2.2.1, ho1, ← hs3]; rfl
            have HR4 : Hid ((∀ j, j ≠ 3 → j ≠ 6 → R4 j = R2 j) ∧ (R4 3).l = bump (-1) (R2 3).l ((with_ C (-x)).take (k + 1)) ∧ R4 6 = R3 6 ∧ R4 2 = R3 2) := Lib.hid ⟨fun j h3 h6 => by rw [← hR4, upd_other h3]; exact HG.out.2.2.1 j h3 h6, hO4, by rw [← hR4, upd_other (by decide)], by rw [← hR4, upd_other (by decide)]⟩
            have hpm4 : ∀ b, PM K R4 b → PM K R3 b := by
              rw [← hR4]; intro b hb
              rcases PM.upd (K := K) (R := R3) (i := 3) (N := b + 1) (by omega) (.inl (by unfold Rw.blk; simp only [Rw.val, List.length_set])) b hb with h | h
              · exact h
              · omega
            have hoff4 : Off (PM K R) w W4 := by
              rw [← hW4]
              exact HG.out.2.2.2.2.2.2.1.trans (Off.of (grown_set _ _ _ _) (fun k e => e)) (fun j hj e => (HG.out.2.2.2.2.2.2.2 g3 (.inr (.inr ⟨3, by omega, hb3⟩))).elim (fun h => (Option.some.inj e) ▸ h) (fun h => by have := Option.some.inj e; omega))
            have hdrop : (with_ C (-x)).drop k = i :: (with_ C (-x)).drop (k + 1) := by
              have h1 := (List.getElem?_eq_some_iff.1 hi)
              rw [List.drop_eq_getElem_cons h1.1, h1.2]
            have HQ4 : Hid (QOk C (tr ++ [x]) (i :: (with_ C (-x)).drop (k + 1)) (R4 6).l ∧ (R4 6).l.length ≤ (R 6).l.length + k) := Lib.hid (by rw [HR4.out.2.2.1, ← hdrop]; exact ⟨HG.out.2.2.2.2.1, HG.out.2.2.2.2.2.1⟩)
            have q7' := hp4.f7
            have q8' := hp4.f8
            rw [HR4.out.2.2.2, v2] at q7'
            have v3' : (R4 3).val = .slice (some ⟨g3, 0, none⟩) cn (R3 3).c := by rw [← hR4, upd_same]; simp only [Rw.val, a3, List.length_set]; congr 1; omega
            rw [v3'] at q8'
            have c2' : W4.cell? ⟨g2, i, none⟩ = some (.int .i64 (s : Int)) := by rw [← hW4, World.cell?_setCell_other _ _ _ _ (by intro e; injection e with e; exact n32 e)]; exact c2
            have c3' : W4.cell? ⟨g3, i, none⟩ = some (.int .i64 (o : Int)) := by rw [← hW4]; exact World.cell?_setCell_same _ _ _ c3
            have HP4 := Lib.hid (And.intro hp4 (And.intro hpm4 (And.intro hoff4 (And.intro hiC (And.intro ho hs)))))
            clear hp4 hpm4 hoff4 hdrop hO4 hR4 hpw r2 r3 v2 v3 v3' a2 a3 hb2 hb3 hs2 hs3 hcl5 e5 e5v hi hCm hS hOl ho1 ho hs
            by_cases hs0 : s = 0
            · by_cases ho2 : o < 2
              · have t1 : ((s : Int) == 0) = true := by rw [hs0]; rfl
                have t2 : decide (o < 2) = true := decide_eq_true ho2
                have t3 : decide ((o : Int) < 2) = true := decide_eq_true (by omega)
                obtain ⟨L6, hL6⟩ : ∃ z, (R4 6).l.length = z := ⟨_, rfl⟩
                have q11 := HP4.out.1.f11
                rw [Rw.val, hL6] at q11
                have HPU := Lib.hid (hpush_calls K.B K.p 11 (R4 6).a (R4 6).c L6 (R4 6).l (i : Int) W4 hL6 q11 (HP4.out.1.fr 11) (HP4.out.1.rows 6 (by omega)) (by have := (HP4.out.1.below K.p (.inl rfl)); have := HP4.out.1.low; omega) (by have := HQ4.out.2; have := HL0.out; omega) (by have := HP4.out.1.offp 6 (by omega); unfold Rw.blk at this; rwa [Rw.val, hL6] at this) (by have := HQ4.out.1.heap; rwa [hL6] at this))
                clear q11
                go_wp2_with fail
                refine HPU.out.mono ?_
                rintro e w6 ⟨rfl, a6, c6, l6, hper, hhp, hrow6, hqf, hbk⟩
                have hl6 : l6.length = L6 + 1 := by rw [hper.length_eq, List.length_cons, hL6]
                have hval6 : (⟨a6, c6, l6⟩ : Rw).val = .slice a6 (L6 + 1) c6 := by simp only [Rw.val, hl6]
                have hR6b : (R4 6).blk = (Value.slice (R4 6).a L6 (R4 6).c).ownBlock := by unfold Rw.blk; rw [Rw.val, hL6]
                have hb6 : (⟨a6, c6, l6⟩ : Rw).blk = (R4 6).blk ∨ ∃ b, (⟨a6, c6, l6⟩ : Rw).blk = some b ∧ W4.heap.size ≤ b := by rw [hR6b]; unfold Rw.blk; rw [hval6]; exact hbk
                have hp6 := HP4.out.1.turn (i := 6) (by omega) ⟨a6, c6, l6⟩ (by rw [hR6b]; exact hqf.off) (by rw [hval6]; exact hqf.blk) hrow6 hb6
                have HN := Lib.hid (show (∀ j, j ≠ 3 → j ≠ 6 → upd R4 6 ⟨a6, c6, l6⟩ j = R2 j) ∧ (upd R4 6 ⟨a6, c6, l6⟩ 3).l = bump (-1) (R2 3).l ((with_ C (-x)).take (k + 1)) ∧ QOk C (tr ++ [x]) ((with_ C (-x)).drop (k + 1)) (upd R4 6 ⟨a6, c6, l6⟩ 6).l ∧ (upd R4 6 ⟨a6, c6, l6⟩ 6).l.length ≤ (R 6).l.length + (k + 1) ∧ Off (PM K R) w w6 ∧ ∀ b, PM K (upd R4 6 ⟨a6, c6, l6⟩) b → PM K R b ∨ w.heap.size ≤ b from by
                  refine ⟨fun j h3 h6 => by rw [upd_other h6]; exact HR4.out.1 j h3 h6, by rw [upd_other (by decide)]; exact HR4.out.2.1, ?_, ?_, ?_, ?_⟩
                  · rw [upd_same]
                    exact HQ4.out.1.push HP4.out.2.2.2.1 (by rw [HP4.out.2.2.2.2.1]; exact ho2) hper (by rw [hl6]; exact hhp)
                  · rw [upd_same]; simp only; have := HQ4.out.2; omega
                  · refine HP4.out.2.2.1.trans hqf.off (fun b hb e => ?_)
                    have hm : PM K R4 b := by
                      rcases e with rfl | e
                      · exact .inl rfl
                      · exact .inr (.inr ⟨6, by omega, by rw [hR6b]; exact e⟩)
                    rcases HG.out.2.2.2.2.2.2.2 b (HP4.out.2.1 b hm) with h | h
                    · exact h
                    · omega
                  · intro b hb
                    rcases PM.upd (K := K) (R := R4) (i := 6) (N := W4.heap.size) (by omega) hb6 b hb with h | h
                    · exact HG.out.2.2.2.2.2.2.2 b (HP4.out.2.1 b h)
                    · right; have := HP4.out.2.2.1.size; omega)
                have HP6 := Lib.hid hp6
                clear hp6 hper hhp hrow6 hqf hbk hl6 hval6 hR6b hb6 HPU
                go_wp2_with fail
                go_roundg (n2 - (k + 1))
                case measure => rw [HG.out.1]; omega
                case rel => exact ⟨k + 1, _, rfl, rfl, by omega, HP6.out, HN.out.1, HN.out.2.1, HN.out.2.2.1, HN.out.2.2.2.1, HN.out.2.2.2.2.1, HN.out.2.2.2.2.2⟩
              · have t1 : ((s : Int) == 0) = true := by rw [hs0]; rfl
                have t2 : decide (o < 2) = false := decide_eq_false ho2
                have t3 : decide ((o : Int) < 2) = false := decide_eq_false (by omega)
                have HNH : Hid (hot (tr ++ [x]) (C.getD i []) = false) := Lib.hid (by unfold hot; rw [HP4.out.2.2.2.2.1, t2, Bool.and_false])
                go_wp2_with fail
                go_roundg (n2 - (k + 1))
                case measure => rw [HG.out.1]; omega
                case rel => exact ⟨k + 1, R4, rfl, rfl, by omega, HP4.out.1, HR4.out.1, HR4.out.2.1, HQ4.out.1.pass HNH.out, by have := HQ4.out.2; omega, HP4.out.2.2.1, fun b hb => HG.out.2.2.2.2.2.2.2 b (HP4.out.2.1 b hb)⟩
            · have t1 : ((s : Int) == 0) = false := by rw [beq_eq_false_iff_ne]; omega
              have t4 : (s == 0) = false := by rw [beq_eq_false_iff_ne]; exact hs0
              have HNH : Hid (hot (tr ++ [x]) (C.getD i []) = false) := Lib.hid (by unfold hot; rw [HP4.out.2.2.2.2.2, t4, Bool.false_and])
              go_wp2_with fail
              go_roundg (n2 - (k + 1))
              case measure => rw [HG.out.1]; omega
              case rel => exact ⟨k + 1, R4, rfl, rfl, by omega, HP4.out.1, HR4.out.1, HR4.out.2.1, HQ4.out.1.pass HNH.out, by have := HQ4.out.2; omega, HP4.out.2.2.1, fun b hb => HG.out.2.2.2.2.2.2.2 b (HP4.out.2.1 b hb)⟩
          · have hke : k = n2 := by omega
            subst hke
            have f1 : decide (k < k) = false := by simp
            go_wp2_with fail
            go_end0
            refine ⟨rfl, R3, ⟨HG.out.2.1, ?_, ?_, ?_, ?_, ?_, ?_, ?_, HH.out.1.cons.snoc HH.out.2.1.1 HH.out.2.2.1, ?_⟩, ?_, HG.out.2.2.2.2.2.2.1, HG.out.2.2.2.2.2.2.2⟩
            · rw [HG.out.2.2.1 0 (by decide) (by decide), HR2.out.2.2 0 (by decide) (by decide)]; exact HR1.out.1
            · rw [HG.out.2.2.1 2 (by decide) (by decide)]; exact HR2.out.1
            · rw [HG.out.2.2.2.1, ← HN2.out, List.take_length, HR2.out.2.1]; exact opns_step HH.out.2.1.1 HH.out.2.2.1
            · rw [HG.out.2.2.1 4 (by decide) (by decide), HG.out.2.2.1 5 (by decide) (by decide)]; exact HOC2.out.1
            · rw [HG.out.2.2.1 5 (by decide) (by decide)]; exact HOC2.out.2
            · have := HG.out.2.2.2.2.1; rwa [← HN2.out, List.drop_length] at this
            · have h1 := HG.out.2.2.2.2.2.1; have h2 := HH.out.1.ql
              rw [List.length_append, List.length_singleton]
              have h3 : C.length * (1 + (tr.length + 1)) = C.length * (1 + tr.length) + C.length := by rw [← Nat.add_assoc, Nat.mul_succ]
              omega
            · have h1 := free_snoc HH.out.2.1 HH.out.2.2.1; have h2 := HH.out.1.free
              rw [List.length_append, List.length_singleton]; omega
            · rw [HG.out.2.2.1 1 (by decide) (by decide), HR2.out.2.2 1 (by decide) (by decide)]; exact HR1.out.2 1 (by decide)
end Go.Proofs.Ythkemajekkilmaa
/- Rows that are made. -/
namespace Go.Proofs.Ythkemajekkilmaa
open Go.RowKit
theorem info67 : (Try.prog.info? 67).map (fun i => (i.zero, i.size, i.bytes)) = some (some (.int .i8 0), 1, 1) := by kernel_rfl
theorem mk25 (w : World) (n : Nat) (hn : n ≤ 1000000) : (Instr.makeSlice 25 (.int .i64 (n : Int)) (.int .i64 (n : Int))).run Try.prog w = .ok (.slice (some ⟨w.heap.size, 0, none⟩) n n) (w.alloc (.cells (madeCells #[.int .i64 0] n) 3)) := by
  obtain ⟨i0, hi0, hz0, hz1, hz2⟩ := info_parts info3
  have hr := run_make (P := Try.prog) w 25 3 i0 (.int .i64 0) Try.underlying25 hi0 hz0 .i64 .i64 n n (by omega) (Int.le_refl _) (by rw [hz2]; omega) (by omega)
  simp only [Int.toNat_natCast, hz1, Nat.mul_one] at hr
  exact hr
theorem mk52 (w : World) (n : Nat) (hn : n ≤ 1000000) : (Instr.makeSlice 52 (.int .i64 (n : Int)) (.int .i64 (n : Int))).run Try.prog w = .ok (.slice (some ⟨w.heap.size, 0, none⟩) n n) (w.alloc (.cells (madeCells #[.int .i8 0] n) 67)) := by
  obtain ⟨i0, hi0, hz0, hz1, hz2⟩ := info_parts info67
  have hr := run_make (P := Try.prog) w 52 67 i0 (.int .i8 0) Try.underlying52 hi0 hz0 .i64 .i64 n n (by omega) (Int.le_refl _) (by rw [hz2]; omega) (by omega)
  simp only [Int.toNat_natCast, hz1, Nat.mul_one] at hr
  exact hr
theorem made_zero (v : Value) (n : Nat) : madeCells #[v] n = (List.replicate n v).toArray := by
  apply Array.ext'
  rw [toList_madeCells_one]
theorem made_own (w : World) (B n : Nat) (v : Value) (e : TypeId) (hB : B ≤ w.heap.size) (hn : n ≤ 1000000) : (w.alloc (.cells (madeCells #[v] n) e)).ownsRow B e 1 (.slice (some ⟨w.heap.size, 0, none⟩) n n) n (List.replicate n v) := by
  have := World.ownsRow_lit w (e := e) (base := B) (size := 1) (madeCells #[v] n) n hB (by unfold maxLen; omega) (by rw [made_zero]; simp)
  rw [toList_madeCells_one] at this
  exact this
def nilRw : Rw := ⟨none, 0, []⟩
theorem pw_init {K : PK} {w : World} (hp : w.heap[K.p]? = some (.cells (pcells K.V K.ca K.cn K.cc (some ⟨K.vb, 0, none⟩) (K.V + 1) 0 (-1) (fun _ => nilRw)) 55 (0, 0)))
    (hv : w.heap[K.vb]? = some (.cells (madeCells #[.int .i8 0] (K.V + 1)) 67 (0, 0))) (h1 : K.B ≤ K.p) (h2 : K.B ≤ K.vb) (h3 : K.vb ≠ K.p) (h4 : K.V ≤ 1000) : PW K w (List.replicate (K.V + 1) 0) 0 (-1) (fun _ => nilRw) := by
  refine ⟨hp, h1, fun i _ => ⟨rfl, .inl ⟨rfl, rfl⟩⟩, fun i j _ _ _ b hb => (by cases hb), fun i _ => (by intro e; cases e), fun i _ => (by intro e; cases e), h2, h3, ?_, by simp⟩
  refine ⟨by simp, .inr ⟨K.vb, K.V + 1, _, rfl, h2, hv, Nat.le_refl _, by unfold maxLen; omega, by rw [made_zero]; simp, ?_⟩⟩
  rw [made_zero, Nat.mul_one]
  simp
/-- The propagator in the making: its box, and that of its address. -/
structure NS (W1 : World) (DS : List Nat) (K : PK) (tb : Nat) (vs : List Int) (R : Nat → Rw) (w : World) : Prop where
  pw : PW K w vs 0 (-1) R
  tb0 : w.cell? ⟨tb, 0, none⟩ = some (.pointer (some ⟨K.p, 0, none⟩))
  tbm : ¬ PM K R tb
  tbl : W1.heap.size ≤ tb
  B : K.B = W1.heap.size
  grown : W1.grownBy w none
  ds : ∀ D ∈ DS, w.heap[D]? = some (.deferred (some []))
theorem NS.keep {W1 : World} {DS : List Nat} {K : PK} {tb : Nat} {vs : List Int} {R : Nat → Rw} {w w' : World} (h : NS W1 DS K tb vs R w) (hg : w.grownBy w' none) : NS W1 DS K tb vs R w' :=
  ⟨h.pw.grown hg, hg.cell h.tb0 (by simp), h.tbm, h.tbl, h.B, h.grown.trans hg, fun D hD => (hg.block D (Array.getElem?_eq_some_iff.1 (h.ds D hD)).1 (by simp)).trans (h.ds D hD)⟩
/-- A row of it is laid anew. -/
theorem NS.lay {W1 : World} {DS : List Nat} {K : PK} {tb : Nat} {vs : List Int} {R : Nat → Rw} {w : World} (h : NS W1 DS K tb vs R w) {i : Nat} (hi : i < 7) (hn : (R i).blk = none) {g n : Nat} (hg : w.heap[g]? = some (.cells (madeCells #[.int .i64 0] n) 3 (0, 0)))
    (hgB : K.B ≤ g) (hm : ¬ PM K R g) (hgt : g ≠ tb) (hn1 : n ≤ 100000) : NS W1 DS K tb vs (upd R i ⟨some ⟨g, 0, none⟩, n, List.replicate n 0⟩) (w.setCell ⟨K.p, fld i, none⟩ (.slice (some ⟨g, 0, none⟩) n n)) := by
  have hgl := (Array.getElem?_eq_some_iff.1 hg).1
  have hgp : g ≠ K.p := fun e => hm (.inl e)
  have hv : (⟨some ⟨g, 0, none⟩, n, List.replicate n 0⟩ : Rw).val = .slice (some ⟨g, 0, none⟩) n n := by simp [Rw.val]
  have hrow : ∀ w' : World, w'.heap[g]? = w.heap[g]? → IRow K.B w' (some ⟨g, 0, none⟩) n (List.replicate n 0) := fun w' hw => by
    refine ⟨by simp, .inr ⟨g, n, _, by simp, hgB, hw.trans hg, by simp, by unfold maxLen; omega, by rw [made_zero]; simp, ?_⟩⟩
    rw [made_zero]; simp [intCells]
  have hoff : Off (fun k => k = K.p) w (w.setCell ⟨K.p, fld i, none⟩ (.slice (some ⟨g, 0, none⟩) n n)) := Off.of (grown_set _ _ _ _) (fun k e => (Option.some.inj e).symm)
  have hpm : ∀ k, PM K (upd R i ⟨some ⟨g, 0, none⟩, n, List.replicate n 0⟩) k → PM K R k ∨ k = g := by
    rintro k (rfl | rfl | ⟨j, hj, e⟩)
    · exact .inl (.inl rfl)
    · exact .inl (.inr (.inl rfl))
    · by_cases hji : j = i
      · subst hji; rw [upd_same] at e; unfold Rw.blk at e; rw [hv] at e; right; exact (Option.some.inj e).symm
      · rw [upd_other hji] at e; exact .inl (.inr (.inr ⟨j, hj, e⟩))
  have hfar : ∀ b, PM K R b → (⟨some ⟨g, 0, none⟩, n, List.replicate n 0⟩ : Rw).blk ≠ some b := fun b hb e => by
    unfold Rw.blk at e; rw [hv] at e; have e2 := Option.some.inj e; simp only at e2; subst e2; exact hm hb
  have h := h
  refine ⟨⟨?_, h.pw.low, fun k hk => ?_, fun a b ha hb hab c hc => ?_, fun k hk => ?_, fun k hk => ?_, h.pw.vlow, h.pw.vne, ?_, h.pw.vlen⟩, ?_, fun hh => ?_, h.tbl, h.B, ?_, fun D hD => (Below.heap_setCell _ _ _ _ (fun e => by have h1 := h.ds D hD; have h2 := h.pw.blk; simp only at e; rw [e, h2] at h1; cases h1)).trans (h.ds D hD)⟩
  · rw [set_blk h.pw.blk, ← hv, pcells_upd hi]
  · by_cases e : k = i
    · subst e; rw [upd_same]; simp only; exact hrow _ (Below.heap_setCell _ _ _ _ hgp)
    · rw [upd_other e]; exact irow_off (h.pw.rows k hk) (grown_set _ _ _ _) rfl (fun b hb e2 => by cases e2; exact h.pw.offp k hk hb)
  · by_cases e1 : a = i
    · subst e1; rw [upd_same] at hc; rw [upd_other (fun e => hab e.symm)]
      intro hc2
      exact hfar c (.inr (.inr ⟨b, hb, hc2⟩)) hc
    · rw [upd_other e1] at hc
      by_cases e2 : b = i
      · subst e2; rw [upd_same]; exact hfar c (.inr (.inr ⟨a, ha, hc⟩))
      · rw [upd_other e2]; exact h.pw.apart a b ha hb hab c hc
  · by_cases e : k = i
    · subst e; rw [upd_same]; exact hfar _ (.inl rfl)
    · rw [upd_other e]; exact h.pw.offp k hk
  · by_cases e : k = i
    · subst e; rw [upd_same]; exact hfar _ (.inr (.inl rfl))
    · rw [upd_other e]; exact h.pw.offv k hk
  · refine World.ownsRow.kept h.pw.vrow (grown_set _ _ _ _) (.inr ?_)
    simp only [Value.ownBlock]; intro e; exact h.pw.vne (Option.some.inj e)
  · exact hoff.cell h.tb0 (fun e => h.tbm (.inl e))
  · rcases hpm _ hh with h1 | h1
    · exact h.tbm h1
    · exact hgt h1.symm
  · exact hoff.grown h.grown (fun k e => by rw [e]; have := h.pw.low; have := h.B; omega)
theorem alloc3 (W : World) (o1 o2 o3 : Obj) : (((W.alloc o1).alloc o2).alloc o3).drew.heap[W.heap.size]? = some o1 ∧ (((W.alloc o1).alloc o2).alloc o3).drew.heap[W.heap.size + 1]? = some o2 ∧ (((W.alloc o1).alloc o2).alloc o3).drew.heap[W.heap.size + 1 + 1]? = some o3 ∧ W.grownBy (((W.alloc o1).alloc o2).alloc o3).drew none := by
  refine ⟨?_, ?_, ?_, (((World.grownBy_alloc W o1 none).trans (World.grownBy_alloc _ o2 none)).trans (World.grownBy_alloc _ o3 none)).trans (grown_drew _ _)⟩
  · show (((W.alloc o1).alloc o2).alloc o3).heap[W.heap.size]? = _
    rw [Below.heap_alloc _ _ _ (by simp; omega), Below.heap_alloc _ _ _ (by simp)]; exact World.alloc_heap_new W o1
  · show (((W.alloc o1).alloc o2).alloc o3).heap[W.heap.size + 1]? = _
    rw [Below.heap_alloc _ _ _ (by simp)]
    have := World.alloc_heap_new (W.alloc o1) o2; rwa [World.size_alloc] at this
  · show (((W.alloc o1).alloc o2).alloc o3).heap[W.heap.size + 1 + 1]? = _
    have := World.alloc_heap_new ((W.alloc o1).alloc o2) o3; rwa [World.size_alloc, World.size_alloc] at this
theorem ns_init {W1 w : World} {V n cc p vb tb : Nat} {ca : Option Addr} (hV : V ≤ 1000) (hg : W1.grownBy w none)
    (hp : w.heap[p]? = some (.cells #[.int .i64 (V : Int), .slice ca n cc, .slice none 0 0, .int .i64 0, .slice none 0 0, .int .i64 (-1), .slice (some ⟨vb, 0, none⟩) (V + 1) (V + 1), .slice none 0 0, .slice none 0 0, .slice none 0 0, .slice none 0 0, .slice none 0 0] 55 (0, 0)))
    (hv : w.heap[vb]? = some (.cells (madeCells #[.int .i8 0] (V + 1)) 67 (0, 0))) (ht : w.heap[tb]? = some (.cells #[.pointer (some ⟨p, 0, none⟩)] 49 (0, 0)))
    (h1 : W1.heap.size ≤ p) (h2 : W1.heap.size ≤ vb) (h3 : W1.heap.size ≤ tb) (n1 : vb ≠ p) (n2 : tb ≠ p) (n3 : tb ≠ vb) :
    ∃ (K : PK) (tb' : Nat), Value.pointer (some ⟨tb, 0, none⟩) = .pointer (some ⟨tb', 0, none⟩) ∧ NS W1 [] K tb' (List.replicate (V + 1) 0) (fun _ => nilRw) w ∧ K.V = V ∧ K.ca = ca ∧ K.cn = n ∧ K.cc = cc := by
  refine ⟨⟨W1.heap.size, p, V, ca, n, cc, vb⟩, tb, rfl, ⟨pw_init (K := ⟨W1.heap.size, p, V, ca, n, cc, vb⟩) hp hv h1 h2 n1 hV, cell_blk ht rfl, ?_, h3, rfl, hg, fun D hD => (by cases hD)⟩, rfl, rfl, rfl, rfl⟩
  rintro (h | h | ⟨i, _, h⟩)
  · exact n2 h
  · exact n3 h
  · cases h
/-- A row that has been made and is no field's yet. -/
structure FR (K : PK) (tb : Nat) (R : Nat → Rw) (g n : Nat) (w : World) : Prop where
  at_ : w.heap[g]? = some (.cells (madeCells #[.int .i64 0] n) 3 (0, 0))
  low : K.B ≤ g
  pm : ¬ PM K R g
  ne : g ≠ tb
theorem FR.new {W1 : World} {DS : List Nat} {K : PK} {tb : Nat} {vs : List Int} {R : Nat → Rw} {w : World} (h : NS W1 DS K tb vs R w) (n : Nat) : FR K tb R w.heap.size n (w.alloc (.cells (madeCells #[.int .i64 0] n) 3)) :=
  ⟨World.alloc_heap_new _ _, by have := (h.pw.below K.p (.inl rfl)); have := h.pw.low; omega, fun hh => by have := (h.pw.below _ hh).2.1; omega, fun e => by have := lies_lt h.tb0; simp only at this; omega⟩
theorem FR.keep {K : PK} {tb : Nat} {R : Nat → Rw} {g n : Nat} {w w' : World} (h : FR K tb R g n w) (hg : w.grownBy w' none) : FR K tb R g n w' :=
  ⟨(hg.block g (Array.getElem?_eq_some_iff.1 h.at_).1 (by simp)).trans h.at_, h.low, h.pm, h.ne⟩
theorem FR.lt {K : PK} {tb : Nat} {R : Nat → Rw} {g n : Nat} {w : World} (h : FR K tb R g n w) : g < w.heap.size := (Array.getElem?_eq_some_iff.1 h.at_).1
theorem FR.lay {K : PK} {tb : Nat} {R : Nat → Rw} {g n g' n' i : Nat} {w : World} (h : FR K tb R g n w) (hne : g ≠ g') (hi : i < 7) (v : Value) : FR K tb (upd R i ⟨some ⟨g', 0, none⟩, n', List.replicate n' 0⟩) g n (w.setCell ⟨K.p, fld i, none⟩ v) := by
  refine ⟨(Below.heap_setCell _ _ _ _ (fun e => h.pm (.inl e))).trans h.at_, h.low, ?_, h.ne⟩
  rintro (e | e | ⟨j, hj, e⟩)
  · exact h.pm (.inl e)
  · exact h.pm (.inr (.inl e))
  · by_cases hji : j = i
    · subst hji; rw [upd_same] at e; unfold Rw.blk at e; simp only [Value.ownBlock, Option.some.injEq] at e; exact hne e.symm
    · rw [upd_other hji] at e; exact h.pm (.inr (.inr ⟨j, hj, e⟩))
theorem NS.put {W1 : World} {DS : List Nat} {K : PK} {tb : Nat} {vs : List Int} {R : Nat → Rw} {w : World} {g n i : Nat} (h : NS W1 DS K tb vs R w) (f : FR K tb R g n w) (hi : i < 7) (hn : (R i).blk = none) (hn1 : n ≤ 100000) :
    NS W1 DS K tb vs (upd R i ⟨some ⟨g, 0, none⟩, n, List.replicate n 0⟩) (w.setCell ⟨K.p, fld i, none⟩ (.slice (some ⟨g, 0, none⟩) n n)) := h.lay hi hn f.at_ f.low f.pm f.ne hn1
/-- A post that lets nothing by but the normal end. -/
def onlyN (Q : Exit → Act → World → Prop) : Exit → Act → World → Prop
  | .normal, a, w => Q .normal a w
  | _, _, _ => False
theorem wp_onlyN {P : Program} {c : Code} {Q : Exit → Act → World → Prop} {a : Act} {w : World} (h : c.wp P (onlyN Q) a w) : c.wp P Q a w :=
  wp_mono h fun e a w hq => by
    cases e with
    | normal => exact hq
    | _ => exact hq.elim
end Go.Proofs.Ythkemajekkilmaa
/- A loop over an iterator. -/
namespace Go.Proofs.Ythkemajekkilmaa
open Go.RowKit Go.Shelf

/-- A step that lays blocks and turns at most one block, from B on. -/
def Quiet (B : Nat) (A A' : World) : Prop := ∃ row, A.grownBy A' row ∧ ∀ r, row = some r → B ≤ r
theorem Quiet.less {B B' : Nat} {A A' : World} (h : Quiet B A A') (hB : B' ≤ B) : Quiet B' A A' := by
  obtain ⟨row, hg, hr⟩ := h
  exact ⟨row, hg, fun r e => Nat.le_trans hB (hr r e)⟩
theorem Quiet.of_none {B : Nat} {A A' : World} (h : A.grownBy A' none) : Quiet B A A' := ⟨none, h, fun _ e => by cases e⟩
theorem Quiet.put {B : Nat} {A : World} {r : Nat} {o : Obj} (o' : Obj) (hB : B ≤ r) (_h : A.heap[r]? = some o) (_ho : o.isCells = false) : Quiet B A (A.putObj r o') :=
  ⟨some r, grownBy_putObj' A r o', fun k e => by cases e; exact hB⟩
/-- The blocks that a round leaves alone lie as they lay, and are left alone on. -/
def Saved (Safe : World → Nat → Prop) (W W' : World) : Prop := ∀ b, Safe W b → W'.heap[b]? = W.heap[b]? ∧ Safe W' b

theorem Quiet.size {B : Nat} {W W' : World} (h : Quiet B W W') : W.heap.size ≤ W'.heap.size := by
  obtain ⟨row, hg, _⟩ := h
  exact hg.size

/-- What a loop says of the world between two rounds, and the blocks that its rounds leave alone. -/
structure AbideG {α : Type} (B : Nat) (J : List α → World → Prop) (Safe : World → Nat → Prop) : Prop where
  keep : ∀ s A A', J s A → Quiet B A A' → J s A'
  safe : ∀ s A A' b, J s A → Quiet B A A' → Safe A b → Safe A' b
  fresh : ∀ s A A' b, J s A → Quiet B A A' → A.heap.size ≤ b → b < A'.heap.size → Safe A' b
theorem AbideG.less {α : Type} {B B' : Nat} {J : List α → World → Prop} {Safe : World → Nat → Prop} (h : AbideG B J Safe) (hB : B ≤ B') : AbideG B' J Safe :=
  ⟨fun s A A' hs hq => h.keep s A A' hs (hq.less hB), fun s A A' b hs hq => h.safe s A A' b hs (hq.less hB), fun s A A' b hs hq => h.fresh s A A' b hs (hq.less hB)⟩
/-- Every round says yes. -/
def YesG {α : Type} (vals : α → Array Value) (F : Fence) (m : Nat) (P : Program) (l : Nat) (xs : List α) (J : List α → World → Prop) (Safe : World → Nat → Prop) : Prop :=
  ∀ pre x W, J pre W → pre ++ [x] <+: xs → YieldAt F m P l (vals x) W fun e W' => e = .returned (.bool true) ∧ J (pre ++ [x]) W' ∧ Saved Safe W W'
/-- An iterator that gives xs to a loop whose rounds all say yes, where the blocks caps are left alone. -/
def GivesG {α : Type} (vals : α → Array Value) (F : Fence) (P : Program) (gf : Nat) (la lb : Array Value) (caps : Nat → Prop) (xs : List α) (w : World) : Prop :=
  ∀ (n l : Nat) (J : List α → World → Prop) (Safe : World → Nat → Prop), (∀ b, caps b → Safe w b) → AbideG w.heap.size J Safe → YesG vals F (n - 1) P l xs J Safe → J [] w →
    CallsIn F n P gf (la ++ #[.func (.yield l) #[] #[]] ++ lb) w fun e W' => (∃ v, e = .returned v) ∧ J xs W'
/-- How the body of a round is left: off its end. -/
def yesPostG {α : Type} (J : List α → World → Prop) (Safe : World → Nat → Prop) (s : List α) (W : World) : Exit → Act → World → Prop
  | .normal, _, W' => J s W' ∧ Saved Safe W W'
  | _, _, _ => False
variable {F : Fence} {n : Nat} {P : Program}
theorem rangeYesG {α : Type} {vals : α → Array Value} {g : Operand} {ps : Array Tmp} {assign body : Code} {Q : Exit → Act → World → Prop} {a : Act} {w : World} (hro : F.round = none) (hd : F.depth = none)
    {gf : Nat} {la lb : Array Value} (hg : a.eval g = .func (.func gf) la lb) (hFg : F.fn gf) (eg : ∀ args w, (callFunc gf args).run P w = .ok (.enter gf args) w)
    (hps : ∀ x, (vals x).size = ps.size) {caps : Nat → Prop} {xs : List α} (hseq : ∀ W, w.grownBy W none → GivesG vals F P gf la lb caps xs W)
    (I : List α → World → Prop) (Safe : World → Nat → Prop) (hI : AbideG w.heap.size I Safe) (hcap : ∀ b, caps b → Safe w b) (h0 : I [] w)
    (hround : ∀ (l : Nat) (pre : List α) (x : α) (W : World), I pre W → pre ++ [x] <+: xs → assign.wpIn (F.inRound l) (n - 1 - 1) P
      (Exit.then (fun a' W' => W' = W ∧ ∀ W2, I pre W2 → body.wpIn (F.inRound l) (n - 1 - 1) P (yesPostG I Safe (pre ++ [x]) W2) a' W2) (fun _ _ _ => False)) { tmps := (ps.zip (vals x)).foldl (fun t (p, v) => t.setIfInBounds p v) a.tmps, defers := [] } W)
    (hdone : ∀ (D : Nat) (W : World), w.heap.size ≤ D → I xs W → Safe W D → W.heap[D]? = some (.deferred (some [])) → Q .normal { a with defers := { target := .collected D, args := #[] } :: a.defers } W) :
    (Code.rangeFunc g ps assign body).wpIn F n P Q a w := by
  refine wpIn_rangeFunc fun fn hfn => ?_
  rw [hro]
  let R : LoopState → Loop := fun st => { state := st, pending := none, fn, tmps := a.tmps, params := ps, assign, body, defers := w.heap.size }
  obtain ⟨W1, hW1⟩ : ∃ W1, (w.alloc (.deferred (some []))).alloc (.loop (R .ready)) = W1 := ⟨_, rfl⟩
  have hz1 : W1.heap.size = w.heap.size + 2 := by rw [← hW1]; simp
  have hg1 : w.grownBy W1 none := by rw [← hW1]; exact (World.grownBy_alloc w _ none).trans (World.grownBy_alloc _ _ none)
  have hl1 : W1.heap[w.heap.size + 1]? = some (.loop (R .ready)) := by
    rw [← hW1]; have := World.alloc_heap_new (w.alloc (.deferred (some []))) (.loop (R .ready)); rwa [World.size_alloc] at this
  have hd1 : W1.heap[w.heap.size]? = some (.deferred (some [])) := by
    rw [← hW1]; exact (Below.heap_alloc _ _ _ (by simp)).trans (World.alloc_heap_new w _)
  refine ⟨w.heap.size + 1, [{ target := .collected w.heap.size, args := #[] }], W1, { target := .fn (.func gf) lb, args := la ++ #[.func (.yield (w.heap.size + 1)) #[] #[]] }, W1, gf,
    la ++ #[.func (.yield (w.heap.size + 1)) #[] #[]] ++ lb, W1, ?_, ?_, ?_, ?_, (fun h => by rw [hd] at h; cases h), ?_⟩
  · rw [← hW1]; exact run_enterLoop_outer _ _ _ _ _
  · simp only [resolve, hg]
    simp [go_sem]
  · intro f' hf'; simp [Target.leads] at hf'; subst hf'; exact hFg
  · simp [invoke, go_sem, eg]
  have hq1 : Quiet w.heap.size w W1 := .of_none hg1
  refine (hseq W1 hg1 (n - 1) (w.heap.size + 1) (fun pre W => I pre W ∧ W.heap[w.heap.size + 1]? = some (.loop (R .ready)) ∧ W.heap[w.heap.size]? = some (.deferred (some [])) ∧ Safe W (w.heap.size + 1) ∧ Safe W w.heap.size) Safe
    (fun b hb => hI.safe _ _ _ b h0 hq1 (hcap b hb)) ⟨?_, ?_, ?_⟩ ?_
    ⟨hI.keep _ _ _ h0 hq1, hl1, hd1, hI.fresh _ _ _ _ h0 hq1 (by omega) (by omega), hI.fresh _ _ _ _ h0 hq1 (by omega) (by omega)⟩).mono ?_
  · rintro s A A' ⟨hi, hl, hk, hsl, hsk⟩ hq
    have hq' := hq.less (B' := w.heap.size) (by omega)
    obtain ⟨row, hgr, hr⟩ := hq
    exact ⟨hI.keep _ _ _ hi hq', (hgr.block _ (Array.getElem?_eq_some_iff.1 hl).1 (fun e => by have := hr _ e.symm; omega)).trans hl,
      (hgr.block _ (Array.getElem?_eq_some_iff.1 hk).1 (fun e => by have := hr _ e.symm; omega)).trans hk, hI.safe _ _ _ _ hi hq' hsl, hI.safe _ _ _ _ hi hq' hsk⟩
  · rintro s A A' b ⟨hi, _⟩ hq hs
    exact hI.safe _ _ _ b hi (hq.less (by omega)) hs
  · rintro s A A' b ⟨hi, _⟩ hq h1 h2
    exact hI.fresh _ _ _ b hi (hq.less (by omega)) h1 h2
  · rintro pre x W ⟨hi, hl, hk, hsl, hsk⟩ hpre
    have hlt : w.heap.size + 1 < W.heap.size := (Array.getElem?_eq_some_iff.1 hl).1
    refine ⟨fn, _, assign, body, run_yield hl (hps x), roundIn_of_wpIn hfn ?_⟩
    refine wpIn_mono (hround _ pre x W hi hpre) ?_
    rintro e a1 W1' h1
    cases e with
    | normal => ?_
    | _ => exact h1.elim
    obtain ⟨rfl, hb⟩ := h1
    refine ⟨_, run_beginRound hl rfl, ?_⟩
    have hqb : Quiet w.heap.size W1' (W1'.putObj (w.heap.size + 1) (.loop (R .busy))) := .put _ (by omega) hl rfl
    refine wpIn_mono (hb _ (hI.keep _ _ _ hi hqb)) ?_
    rintro e a3 W3 hp
    cases e with
    | normal =>
      obtain ⟨hi3, hs3⟩ := hp
      have h3 := hs3 (w.heap.size + 1) (hI.safe _ _ _ _ hi hqb hsl)
      have k3 := hs3 w.heap.size (hI.safe _ _ _ _ hi hqb hsk)
      have hl3 : W3.heap[w.heap.size + 1]? = some (.loop (R .busy)) := h3.1.trans (World.putObj_heap_same hlt)
      have hk3 : W3.heap[w.heap.size]? = some (.deferred (some [])) := (k3.1.trans (World.putObj_heap_other (by omega))).trans hk
      have hq4 : Quiet w.heap.size W3 (W3.putObj (w.heap.size + 1) (.loop (R .ready))) := .put _ (by omega) hl3 rfl
      have hlt3 : w.heap.size + 1 < W3.heap.size := (Array.getElem?_eq_some_iff.1 hl3).1
      refine ⟨_, _, run_endRound (P := P) none hl3, rfl, ⟨hI.keep _ _ _ hi3 hq4, World.putObj_heap_same hlt3, (World.putObj_heap_other (by omega)).trans hk3, hI.safe _ _ _ _ hi3 hq4 h3.2, hI.safe _ _ _ _ hi3 hq4 k3.2⟩, ?_⟩
      intro b hb
      have hb2 := hI.safe _ _ _ b hi hqb hb
      have hb3 := hs3 b hb2
      refine ⟨?_, hI.safe _ _ _ b hi3 hq4 hb3.2⟩
      by_cases hbl : b = w.heap.size + 1
      · subst hbl
        exact (World.putObj_heap_same hlt3).trans hl.symm
      · exact ((World.putObj_heap_other hbl).trans hb3.1).trans (World.putObj_heap_other hbl)
    | _ => exact hp.elim
  · rintro e W2 ⟨⟨v, rfl⟩, hi, hl, hk, _, hsk⟩
    exact ⟨none, _, run_endLoop hl (by simp [R]), hdone _ _ (Nat.le_refl _) (hI.keep _ _ _ hi (.put _ (by omega) hl rfl)) (hI.safe _ _ _ _ hi (.put _ (by omega) hl rfl) hsk) ((World.putObj_heap_other (by omega)).trans hk)⟩

/-- What lies low stays. -/
def Low (B0 : Nat) (Safe : World → Nat → Prop) (w W : World) : Prop := ∀ b, b < B0 → W.heap[b]? = w.heap[b]? ∧ Safe W b
theorem Low.saved {B0 : Nat} {Safe : World → Nat → Prop} {w W W' : World} (h : Low B0 Safe w W) (hs : Saved Safe W W') : Low B0 Safe w W' := fun b hb => by
  obtain ⟨h1, h2⟩ := h b hb
  obtain ⟨h3, h4⟩ := hs b h2
  exact ⟨h3.trans h1, h4⟩
theorem Low.grown {α : Type} {B0 Bq : Nat} {J : List α → World → Prop} {Safe : World → Nat → Prop} {w W W' : World} {s : List α} (h : Low B0 Safe w W) (hJ : AbideG Bq J Safe) (hj : J s W) (hg : W.grownBy W' none) (hB : B0 ≤ W.heap.size) : Low B0 Safe w W' := fun b hb => by
  obtain ⟨h1, h2⟩ := h b hb
  exact ⟨(hg.block b (Nat.lt_of_lt_of_le hb hB) (by simp)).trans h1, hJ.safe s W W' b hj (.of_none hg) h2⟩
theorem Low.size {B0 : Nat} {Safe : World → Nat → Prop} {w W : World} (h : Low B0 Safe w W) (hB : B0 ≤ w.heap.size) : B0 ≤ W.heap.size := by
  rcases Nat.eq_zero_or_pos B0 with h0 | h0
  · omega
  · have h1 := (h (B0 - 1) (by omega)).1
    rw [Array.getElem?_eq_getElem (show B0 - 1 < w.heap.size by omega)] at h1
    have := (Array.getElem?_eq_some_iff.1 h1).1
    omega

end Go.Proofs.Ythkemajekkilmaa
/- The occurrences of a formula's literals, plain. -/
namespace Go.Proofs.Ythkemajekkilmaa
def occC (_C : List (List Int)) (i : Nat) (l : List Int) : List (Int × Nat) := (uq l).map fun x => (x, i)
def occsTo (C : List (List Int)) (k : Nat) : List (Int × Nat) := (List.range k).flatMap fun i => occC C i (C.getD i [])
def occs (C : List (List Int)) : List (Int × Nat) := occsTo C C.length
theorem occsTo_succ (C : List (List Int)) (k : Nat) : occsTo C (k + 1) = occsTo C k ++ occC C k (C.getD k []) := by
  unfold occsTo; rw [List.range_succ, List.flatMap_append]; simp
theorem occC_nil (C : List (List Int)) (i : Nat) : occC C i [] = [] := rfl
theorem occC_old {C : List (List Int)} {i : Nat} {l : List Int} {x : Int} (h : x ∈ l) : occC C i (l ++ [x]) = occC C i l := by
  unfold occC; rw [uq_snoc, if_pos ((mem_uq l x).2 h)]
theorem occC_new {C : List (List Int)} {i : Nat} {l : List Int} {x : Int} (h : x ∉ l) : occC C i (l ++ [x]) = occC C i l ++ [(x, i)] := by
  unfold occC; rw [uq_snoc, if_neg (fun hh => h ((mem_uq l x).1 hh)), List.map_append]; rfl
theorem occC_pre {C : List (List Int)} {i : Nat} (l m : List Int) : occC C i l <+: occC C i (l ++ m) := by
  refine snoc_ind (P := fun m => occC C i l <+: occC C i (l ++ m)) (by simp) (fun m x ih => ?_) m
  rw [← List.append_assoc]
  by_cases h : x ∈ l ++ m
  · rw [occC_old h]; exact ih
  · rw [occC_new h]; exact ih.trans (List.prefix_append _ _)
theorem occsTo_pre {C : List (List Int)} {k n : Nat} (h : k ≤ n) : occsTo C k <+: occsTo C n := by
  induction n with
  | zero => have : k = 0 := by omega
            subst this; exact List.prefix_refl _
  | succ n ih =>
    by_cases e : k = n + 1
    · subst e; exact List.prefix_refl _
    · rw [occsTo_succ]; exact (ih (by omega)).trans (List.prefix_append _ _)
theorem occs_pre {C : List (List Int)} {k : Nat} (hk : k < C.length) {l m : List Int} (e : C.getD k [] = l ++ m) : occsTo C k ++ occC C k l <+: occs C := by
  have h1 : occsTo C k ++ occC C k l <+: occsTo C (k + 1) := by
    rw [occsTo_succ, e]
    exact (List.prefix_append_right_inj _).2 (occC_pre l m)
  exact h1.trans (occsTo_pre (by omega))
def ixL' (x : Int) : Nat := (if x < 0 then -2 * x + 1 else 2 * x).toNat
theorem ix_inj {x y : Int} (h : ixL' x = ixL' y) : x = y := by
  unfold ixL' at h
  split at h <;> split at h <;> omega
theorem ix_lt {V : Nat} {x : Int} (h : InR V x) : ixL' x < 2 * V + 2 := by
  obtain ⟨h0, h1, h2⟩ := h
  unfold ixL'; split <;> omega
/-- For each literal the last clause with it, counted from 1. -/
structure LastOk (V : Nat) (k : Nat) (seen : List Int) (l : List Int) : Prop where
  len : l.length = 2 * V + 2
  iff : ∀ x, InR V x → (at_ l (ixL' x) = (k : Int) + 1 ↔ x ∈ seen)
  le : ∀ m, at_ l m ≤ (k : Int) + 1
  ge : ∀ m, 0 ≤ at_ l m
theorem LastOk.start (V : Nat) : LastOk V 0 [] (List.replicate (2 * V + 2) 0) := by
  have e : ∀ m, at_ (List.replicate (2 * V + 2) 0) m = 0 := fun m => by unfold at_; rw [List.getD_eq_getElem?_getD, List.getElem?_replicate]; split <;> rfl
  exact ⟨by simp, fun x _ => by rw [e]; simp, fun m => by rw [e]; omega, fun m => by rw [e]; omega⟩
theorem LastOk.next {V k : Nat} {seen l : List Int} (h : LastOk V k seen l) : LastOk V (k + 1) [] l := by
  refine ⟨h.len, fun x _ => ?_, fun m => by have := h.le m; omega, h.ge⟩
  have := h.le (ixL' x)
  simp; omega
theorem LastOk.old {V k : Nat} {seen l : List Int} {x : Int} (h : LastOk V k seen l) (hx : x ∈ seen) : LastOk V k (seen ++ [x]) l := by
  refine ⟨h.len, fun y hy => ?_, h.le, h.ge⟩
  rw [h.iff y hy]; simp only [List.mem_append, List.mem_singleton]
  constructor
  · exact .inl
  · rintro (h | rfl)
    · exact h
    · exact hx
theorem LastOk.put {V k : Nat} {seen l : List Int} {x : Int} (h : LastOk V k seen l) (hx : InR V x) : LastOk V k (seen ++ [x]) (l.set (ixL' x) ((k : Int) + 1)) := by
  have hl : ixL' x < l.length := by rw [h.len]; exact ix_lt hx
  refine ⟨by rw [List.length_set]; exact h.len, fun y hy => ?_, fun m => ?_, fun m => ?_⟩
  · rw [at_set hl]
    by_cases e : ixL' y = ixL' x
    · rw [if_pos e]; have := ix_inj e; subst this; simp
    · rw [if_neg e, h.iff y hy]
      simp only [List.mem_append, List.mem_singleton]
      constructor
      · exact .inl
      · rintro (h | rfl)
        · exact h
        · exact absurd rfl e
  · rw [at_set hl]; split
    · omega
    · exact h.le m
  · rw [at_set hl]; split
    · omega
    · exact h.ge m
end Go.Proofs.Ythkemajekkilmaa

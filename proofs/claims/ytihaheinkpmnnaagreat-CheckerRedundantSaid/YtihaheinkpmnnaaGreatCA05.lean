/- Texts of the proof: P3. -/
import Derived.Test.YtihaheinkpmnnaaGreatCA04
import Derived.Deep.DeepCutAuto
import Derived.Deep.LoopGhost
namespace Go.Proofs.YtihaheinkpmnnaaGreat
set_option maxRecDepth 200000
open Go.RowKit
/-- The propagator at a trail. -/
structure PSr (K : PK) (C : List (List Int)) (w : World) (tr : List Int) (rest : List Nat) (ns kf : Int) (R : Nat → Rw) : Prop where
  pw : PW K w (valsP K.V tr) ns kf R
  t : (R 0).l = tr
  s : (R 2).l = satsP C tr
  o : (R 3).l = opnsP C tr
  occ : Occ K.V C (R 4).l (R 5).l
  cl : (R 5).l.length ≤ 100000
  q : QOk C tr rest (R 6).l
  ql : (R 6).l.length ≤ C.length * (1 + tr.length)
  cons : Cons tr
  free : free K.V tr + tr.length ≤ K.V
abbrev PS (K : PK) (C : List (List Int)) (w : World) (tr : List Int) (ns kf : Int) (R : Nat → Rw) : Prop := PSr K C w tr [] ns kf R
theorem PM.upd {K : PK} {R : Nat → Rw} {i : Nat} {x : Rw} {N : Nat} (hi : i < 7) (hb : x.blk = (R i).blk ∨ ∃ b, x.blk = some b ∧ N ≤ b) : ∀ k, PM K (upd R i x) k → PM K R k ∨ N ≤ k := by
  rintro k (rfl | rfl | ⟨j, hj, e⟩)
  · exact .inl (.inl rfl)
  · exact .inl (.inr (.inl rfl))
  · by_cases h : j = i
    · subst h
      rw [upd_same] at e
      rcases hb with h1 | ⟨b, h1, h2⟩
      · exact .inl (.inr (.inr ⟨j, hj, by rw [← h1]; exact e⟩))
      · right; rw [h1] at e; injection e with e; omega
    · rw [upd_other h] at e
      exact .inl (.inr (.inr ⟨j, hj, e⟩))
theorem trail_row {K : PK} {w : World} {vs : List Int} {ns kf : Int} {R : Nat → Rw} (h : PW K w vs ns kf R) {i : Nat} (hi : i < 7) {n : Nat} (hn : (R i).l.length = n) {x : Int} {a' : Option Addr} {c' : Nat} {w7 : World}
    (hown : w7.ownsRow K.B 3 1 (.slice a' (n + 1) c') (n + 1) (intCells (R i).l ++ [Value.int .i64 x])) (hg : w.grownBy w7 (Value.slice (R i).a n (R i).c).ownBlock)
    (hat : (Value.slice a' (n + 1) c').ownBlock = (Value.slice (R i).a n (R i).c).ownBlock ∨ ∃ b, (Value.slice a' (n + 1) c').ownBlock = some b ∧ w.heap.size ≤ b) :
    PW K (w7.setCell ⟨K.p, fld i, none⟩ (.slice a' (n + 1) c')) vs ns kf (upd R i ⟨a', c', (R i).l ++ [x]⟩) ∧ Off (PM K R) w (w7.setCell ⟨K.p, fld i, none⟩ (.slice a' (n + 1) c')) ∧
      ((⟨a', c', (R i).l ++ [x]⟩ : Rw).blk = (R i).blk ∨ ∃ b, (⟨a', c', (R i).l ++ [x]⟩ : Rw).blk = some b ∧ w.heap.size ≤ b) := by
  have hln : ((R i).l ++ [x]).length = n + 1 := by rw [List.length_append, hn]; rfl
  have hbR : (R i).blk = (Value.slice (R i).a n (R i).c).ownBlock := by unfold Rw.blk; rw [Rw.val, hn]
  have hbx : (⟨a', c', (R i).l ++ [x]⟩ : Rw).blk = (Value.slice a' (n + 1) c').ownBlock := by unfold Rw.blk; simp only [Rw.val, hln]
  have hval : (⟨a', c', (R i).l ++ [x]⟩ : Rw).val = .slice a' (n + 1) c' := by simp only [Rw.val, hln]
  have hb : (⟨a', c', (R i).l ++ [x]⟩ : Rw).blk = (R i).blk ∨ ∃ b, (⟨a', c', (R i).l ++ [x]⟩ : Rw).blk = some b ∧ w.heap.size ≤ b := by rw [hbR, hbx]; exact hat
  have hpl : K.p < w.heap.size := (h.below K.p (.inl rfl)).2.1
  have hpn : (Value.slice (R i).a n (R i).c).ownBlock ≠ some K.p := by rw [← hbR]; exact h.offp i hi
  have hpn' : (Value.slice a' (n + 1) c').ownBlock ≠ some K.p := by
    rw [← hbx]
    rcases hb with h1 | ⟨b, h1, h2⟩
    · rw [h1]; exact h.offp i hi
    · rw [h1]; intro e; injection e with e; omega
  have hrow : IRow K.B w7 a' c' ((R i).l ++ [x]) := by
    unfold IRow
    rw [hln, intCells, List.map_append]
    exact hown
  have ho : Off (fun k => k = K.p ∨ (R i).blk = some k) w (w7.setCell ⟨K.p, fld i, none⟩ (.slice a' (n + 1) c')) :=
    (Off.of hg (fun k e => .inr (by rw [hbR]; exact e))).trans (Off.of (grown_set _ _ _ _) (fun k e => .inl (Option.some.inj e).symm)) (fun k _ hk => hk)
  refine ⟨h.turn hi _ ho ?_ ?_ hb, ho.mono (fun k _ hk => hk.elim (fun e => .inl e) (fun e => .inr (.inr ⟨i, hi, e⟩))), hb⟩
  · rw [hval]; exact set_block (hg.block K.p hpl (fun e => hpn e.symm))
  · exact irow_off hrow (grown_set _ _ _ _) hln (fun b hbb e => by cases e; exact hpn' hbb)
theorem upd_self (R : Nat → Rw) (i : Nat) : upd R i ⟨(R i).a, (R i).c, (R i).l⟩ = R := by
  funext j; unfold upd; by_cases e : j = i
  · rw [if_pos e, e]
  · rw [if_neg e]
theorem upd_upd (R : Nat → Rw) (i : Nat) (x y : Rw) : upd (upd R i x) i y = upd R i y := by
  funext j; unfold upd; by_cases e : j = i <;> simp [e]
theorem upd_comm (R : Nat → Rw) {i k : Nat} (h : i ≠ k) (x y : Rw) : upd (upd R i x) k y = upd (upd R k y) i x := by
  funext j; unfold upd
  by_cases e1 : j = k
  · subst e1; rw [if_pos rfl, if_neg (fun e => h e.symm), if_pos rfl]
  · rw [if_neg e1]; by_cases e2 : j = i
    · rw [if_pos e2, if_pos e2]
    · rw [if_neg e2, if_neg e2, if_neg e1]
/-- The counts behind the first k clauses with a literal. -/
def ctR (R : Nat → Rw) (s o : List Int) : Nat → Rw := upd (upd R 2 ⟨(R 2).a, (R 2).c, s⟩) 3 ⟨(R 3).a, (R 3).c, o⟩
theorem ctR2 (R : Nat → Rw) (s o : List Int) : ctR R s o 2 = ⟨(R 2).a, (R 2).c, s⟩ := by unfold ctR; rw [upd_other (by decide), upd_same]
theorem ctR3 (R : Nat → Rw) (s o : List Int) : ctR R s o 3 = ⟨(R 3).a, (R 3).c, o⟩ := upd_same _ _ _
theorem ctRo (R : Nat → Rw) (s o : List Int) {j : Nat} (h2 : j ≠ 2) (h3 : j ≠ 3) : ctR R s o j = R j := by unfold ctR; rw [upd_other h3, upd_other h2]
theorem ctR_set2 (R : Nat → Rw) (s s' o : List Int) : upd (ctR R s o) 2 ⟨(ctR R s o 2).a, (ctR R s o 2).c, s'⟩ = ctR R s' o := by
  rw [ctR2]; unfold ctR
  rw [upd_comm (upd R 2 _) (i := 3) (k := 2) (by decide), upd_upd, upd_comm R (i := 2) (k := 3) (by decide)]
theorem ctR_set3 (R : Nat → Rw) (s o o' : List Int) : upd (ctR R s o) 3 ⟨(ctR R s o 3).a, (ctR R s o 3).c, o'⟩ = ctR R s o' := by
  rw [ctR3]; unfold ctR; rw [upd_upd]
theorem ctR_self (R : Nat → Rw) {s o : List Int} (hs : (R 2).l = s) (ho : (R 3).l = o) : ctR R s o = R := by
  unfold ctR; rw [← hs, ← ho, upd_self, upd_self]
theorem PM.ct {K : PK} {R : Nat → Rw} {s o : List Int} (hs : s.length = (R 2).l.length) (ho : o.length = (R 3).l.length) : ∀ k, PM K (ctR R s o) k → PM K R k := by
  rintro k (rfl | rfl | ⟨j, hj, e⟩)
  · exact .inl rfl
  · exact .inr (.inl rfl)
  · refine .inr (.inr ⟨j, hj, ?_⟩)
    by_cases h2 : j = 2
    · subst h2; rw [ctR2] at e; unfold Rw.blk at e ⊢; simp only [Rw.val, hs] at e; exact e
    · by_cases h3 : j = 3
      · subst h3; rw [ctR3] at e; unfold Rw.blk at e ⊢; simp only [Rw.val, ho] at e; exact e
      · rwa [ctRo _ _ _ h2 h3] at e
theorem bump_next {d : Int} {l : List Int} {is : List Nat} {k i : Nat} (h : is[k]? = some i) : bump d l (is.take (k + 1)) = (bump d l (is.take k)).set i (at_ (bump d l (is.take k)) i + d) := by
  have hk := (List.getElem?_eq_some_iff.1 h).1
  have e : is[k] = i := (List.getElem?_eq_some_iff.1 h).2
  rw [List.take_succ_eq_append_getElem hk, bump_snoc, e]
  rfl
theorem bump_at {d : Int} {l : List Int} {is : List Nat} (hn : is.Nodup) {k i : Nat} (h : is[k]? = some i) (hj : i < l.length) : at_ (bump d l (is.take k)) i = at_ l i := by
  have hk := (List.getElem?_eq_some_iff.1 h).1
  have e : is[k] = i := (List.getElem?_eq_some_iff.1 h).2
  unfold at_
  rw [bump_get (hn.sublist (List.take_sublist _ _)) hj, if_neg, Int.add_zero]
  intro hm
  obtain ⟨a, ha, e2⟩ := List.mem_iff_getElem.1 hm
  rw [List.getElem_take] at e2
  have hak : a < k := by simp at ha; omega
  have := (List.getElem_inj hn (h₀ := by omega) (h₁ := hk)).1 (e2.trans e.symm)
  omega
theorem uq_len (l : List Int) : (uq l).length ≤ l.length := by
  refine snoc_ind (P := fun l => (uq l).length ≤ l.length) (by simp [uq]) (fun l x ih => ?_) l
  rw [uq_snoc]; split <;> simp <;> omega
theorem sat_le (tr c : List Int) : satN tr c ≤ c.length := Nat.le_trans List.countP_le_length (uq_len c)
theorem opn_le (tr c : List Int) : opnN tr c ≤ c.length := Nat.le_trans List.countP_le_length (uq_len c)
set_option maxHeartbeats 16000000 in
set_option maxRecDepth 100000 in
theorem assign_calls {K : PK} {C : List (List Int)} {w : World} {tr : List Int} {ns kf : Int} {R : Nat → Rw} {rest : List Nat} (h : PSr K C w tr rest ns kf R) (hV : K.V ≤ 400) (hC : C.length ≤ 1000) (hL : ∀ c ∈ C, c.length ≤ 1000) (x : Int) (hrest : ∀ r ∈ rest, x ∈ C.getD r []) (hx : InR K.V x) (hu : und tr x = true) :
    Calls Tryz.prog 107 #[.pointer (some ⟨K.p, 0, none⟩), .int .i64 x] w fun e w' => e = .returned (.tuple #[]) ∧ ∃ R', PS K C w' (tr ++ [x]) ns kf R' ∧ R' 1 = R 1 ∧ Off (PM K R) w w' ∧ ∀ k, PM K R' k → PM K R k ∨ w.heap.size ≤ k := by
  obtain ⟨n, hn⟩ : ∃ n, (R 0).l.length = n := ⟨_, rfl⟩
  have hn40 : n ≤ 400 := by have h1 := h.free; have h2 := h.t; rw [h2] at hn; omega
  have HH := Lib.hid (And.intro h (And.intro hx (And.intro hu hn)))
  have HREST := Lib.hid hrest
  have q2 := h.pw.f2
  rw [Rw.val, hn] at q2
  have f2 := h.pw.fr 2
  obtain ⟨i0, hi0, hz0, hz1, hz2⟩ := info_parts info3
  have HO : Hid (w.ownsRow K.B 3 1 (.slice (R 0).a n (R 0).c) n (intCells (R 0).l)) := Lib.hid (by have := h.pw.rows 0 (by omega); unfold IRow at this; rwa [hn] at this)
  have hf2 : (w.alloc (.cells #[.int .i64 x] 3)).frozen? ⟨K.p, 2, none⟩ = false := by
    have hlt := lies_lt q2
    go_simp
  have HB : Hid (K.B ≤ w.heap.size ∧ (Value.slice (R 0).a n (R 0).c).ownBlock ≠ some K.p ∧ K.p < w.heap.size) := Lib.hid ⟨by have := h.pw.low; have := lies_lt q2; simp only at this; omega, by have := h.pw.offp 0 (by omega); unfold Rw.blk at this; rwa [Rw.val, hn] at this, lies_lt q2⟩
  clear h hu hn hrest
  go_enter Tryz.func107, Tryz.ntmps107
  go_wp2_with (at_builtin; refine wpList_append_own_at _ rfl _ _ 34 rfl K.B 3 i0 (.int .i64 0) 1 8 Tryz.underlying34 hi0 hz0 hz1 hz2 rfl (by decide) _ n (intCells (R 0).l) rfl (HO.out.alloc _) ⟨w.heap.size, 0, none⟩ 1 1 [.int .i64 x] rfl rfl (cell_one_new _ _ _) (fun u hu => by simp at hu; subst hu; rfl) (by unfold maxLen; omega) (by omega) (by have := HB.out.1; simp; omega) ?_)
  intro v' w7 hown' hgrow7 _ hat7
  obtain ⟨a', c', rfl⟩ := own_shape hown'
  have hg8 : w.grownBy w7 (Value.slice (R 0).a n (R 0).c).ownBlock := (World.grownBy_alloc w _ _).trans hgrow7
  have c7 := hg8.cell q2 (fun e => HB.out.2.1 e.symm)
  have f7 : w7.frozen? ⟨K.p, 2, none⟩ = false := (World.frozen?_of_block (a := ⟨K.p, 2, none⟩) (hg8.block K.p HB.out.2.2 (fun e => HB.out.2.1 e.symm))).trans f2
  have hT := trail_row (i := 0) HH.out.1.pw (by omega) HH.out.2.2.2 hown' hg8 (by
    rcases hat7 with h1 | h1
    · exact .inl h1
    · exact .inr ⟨_, h1, by simp⟩)
  obtain ⟨W8, hW8⟩ : ∃ z, w7.setCell ⟨K.p, 2, none⟩ (.slice a' (n + 1) c') = z := ⟨_, rfl⟩
  have HT : Hid (PW K W8 (valsP K.V tr) ns kf (upd R 0 ⟨a', c', (R 0).l ++ [x]⟩) ∧ Off (PM K R) w W8 ∧ ((⟨a', c', (R 0).l ++ [x]⟩ : Rw).blk = (R 0).blk ∨ ∃ b, (⟨a', c', (R 0).l ++ [x]⟩ : Rw).blk = some b ∧ w.heap.size ≤ b)) := Lib.hid (by rw [← hW8]; exact hT)
  clear hT hown' hgrow7 hat7 hg8 hf2 q2 f2
  have HW8 := Lib.hid hW8
  go_upto_if 19 with fail
  clear hW8 c7 f7
  go_cut [] (fun wx => PW K wx (valsP K.V (tr ++ [x])) ns kf (upd R 0 ⟨a', c', (R 0).l ++ [x]⟩) ∧ Off (PM K R) w wx)
  case first =>
    by_cases hneg : x < 0
    · obtain ⟨v, hv⟩ : ∃ v : Nat, -x = (v : Int) := ⟨x.natAbs, by omega⟩
      have hv1 : v ≠ 0 := by have := HH.out.2.1.1; omega
      have q6 := HT.out.1.f6
      have g6 := HT.out.1.vfr v
      have hz := vals_get (V := K.V) (tr := tr) (v := v) (by have := HH.out.2.1.2.2; omega) hv1
      have e6 := HT.out.1.vcell hz
      have i0 : (0 : Int) ≤ (v : Int) := by omega
      have i2 : (v : Int) < (K.V : Int) + 1 := by have := HH.out.2.1.2.2; omega
      have fx : decide (x < 0) = true := decide_eq_true hneg
      have k1 : IntKind.i64.wrap (-x) = (v : Int) := by rw [IntWalk.i64_in _ (by have := HH.out.2.1.1; have := HH.out.2.1.2; omega)]; exact hv
      have HV := Lib.hid (show PW K (W8.setCell ⟨K.vb, v, none⟩ (.int .i8 (-1))) (valsP K.V (tr ++ [x])) ns kf (upd R 0 ⟨a', c', (R 0).l ++ [x]⟩) ∧ Off (PM K R) w (W8.setCell ⟨K.vb, v, none⟩ (.int .i8 (-1))) from by
        have h1 := HT.out.1.setVal v (-1)
        have hxv : x = -(v : Int) := by omega
        rw [vals_neg hv1 (by rw [← hxv]; exact HH.out.2.2.1), ← hxv] at h1
        exact ⟨h1, HT.out.2.1.trans (Off.of (grown_set _ _ _ _) (fun k e => .inr (.inl (Option.some.inj e).symm))) (fun k _ hk => hk)⟩)
      clear hz hv
      go_wp2_with fail
      go_meet
      exact HV.out
    · obtain ⟨v, hv⟩ : ∃ v : Nat, x = (v : Int) := ⟨x.natAbs, by omega⟩
      have hv1 : v ≠ 0 := by have := HH.out.2.1.1; omega
      have q6 := HT.out.1.f6
      have g6 := HT.out.1.vfr v
      have hz := vals_get (V := K.V) (tr := tr) (v := v) (by have := HH.out.2.1.2.1; omega) hv1
      have e6 := HT.out.1.vcell hz
      have i0 : 0 ≤ x := by omega
      have i2 : x < (K.V : Int) + 1 := by have := HH.out.2.1.2.1; omega
      have i3 : x.toNat = v := by omega
      have fx : decide (x < 0) = false := decide_eq_false (by omega)
      have HV := Lib.hid (show PW K (W8.setCell ⟨K.vb, v, none⟩ (.int .i8 1)) (valsP K.V (tr ++ [x])) ns kf (upd R 0 ⟨a', c', (R 0).l ++ [x]⟩) ∧ Off (PM K R) w (W8.setCell ⟨K.vb, v, none⟩ (.int .i8 1)) from by
        have h1 := HT.out.1.setVal v 1
        rw [vals_pos hv1 (by rw [← hv]; exact HH.out.2.2.1), ← hv] at h1
        exact ⟨h1, HT.out.2.1.trans (Off.of (grown_set _ _ _ _) (fun k e => .inr (.inl (Option.some.inj e).symm))) (fun k _ hk => hk)⟩)
      clear hz hv
      go_wp2_with fail
      go_meet
      exact HV.out
  case rest =>
    obtain ⟨hpw, hoff⟩ := hcut
    have HPM := Lib.hid (PM.upd (K := K) (R := R) (i := 0) (N := w.heap.size) (by omega) HT.out.2.2)
    obtain ⟨R1, hR1⟩ : ∃ z, upd R 0 ⟨a', c', (R 0).l ++ [x]⟩ = z := ⟨_, rfl⟩
    have HR1 : Hid ((R1 0).l = tr ++ [x] ∧ ∀ j, j ≠ 0 → R1 j = R j) := Lib.hid ⟨by rw [← hR1, upd_same]; simp only; rw [HH.out.1.t], fun j hj => by rw [← hR1, upd_other hj]⟩
    rw [hR1] at hpw HPM
    have HP := Lib.hid (And.intro hpw hoff)
    have HOC : Hid (Occ K.V C (R1 4).l (R1 5).l ∧ (R1 5).l.length ≤ 100000) := Lib.hid (by rw [HR1.out.2 4 (by omega), HR1.out.2 5 (by omega)]; exact ⟨HH.out.1.occ, HH.out.1.cl⟩)
    have HSO : Hid ((R1 2).l = satsP C tr ∧ (R1 3).l = opnsP C tr) := Lib.hid (by rw [HR1.out.2 2 (by omega), HR1.out.2 3 (by omega)]; exact ⟨HH.out.1.s, HH.out.1.o⟩)
    clear hpw hoff hR1 HT HO HB HW8
    obtain ⟨n1, hn1⟩ : ∃ n, (with_ C x).length = n := ⟨_, rfl⟩
    have HN1 := Lib.hid hn1
    have HC1 := Lib.hid (containing_calls HP.out.1 HOC.out.1 (by omega) HOC.out.2 hx n1 hn1)
    clear hn1
    go_wp2_with fail
    refine HC1.out.mono ?_
    rintro e w2 ⟨⟨sa, sc, rfl, lo, hlo⟩, m0, rfl⟩
    have HLO := Lib.hid hlo
    clear hlo HC1
    have hW1C : n1 ≤ 1000 := by
      have h1 := (with_ C x).length
      have h2 : (with_ C x).length ≤ C.length := by unfold with_; exact Nat.le_trans (List.length_filter_le _ _) (by simp)
      have := HN1.out; omega
    go_wp2_with fail
    go_loopg [5, 37] n1 (fun gk _s5 s37 wr => ∃ k : Nat, s37 = .int .i64 (k : Int) ∧ gk = n1 - k ∧ k ≤ n1 ∧ PW K wr (valsP K.V (tr ++ [x])) ns kf (ctR R1 (bump 1 (satsP C tr) ((with_ C x).take k)) (bump (-1) (opnsP C tr) ((with_ C x).take k))) ∧ Off (PM K R) w wr)
    case atStart => exact ⟨0, rfl, rfl, Nat.zero_le _, by rw [List.take_zero]; show PW K _ _ _ _ (ctR R1 (satsP C tr) (opnsP C tr)); rw [ctR_self R1 HSO.out.1 HSO.out.2]; exact HP.out.1.drewN _, HP.out.2.trans (Off.of (grown_drewN _ _ none) (fun _ e => by cases e)) (fun _ _ e => e)⟩
    case round =>
      obtain ⟨k, rfl, hgk, hk, hpw, hoff⟩ := hrel
      obtain ⟨wo, hwo⟩ : ∃ z, z = wr := ⟨_, rfl⟩
      rw [← hwo] at hpw hoff ⊢
      clear hwo
      by_cases hkn : k < n1
      · have f1 : decide (k < n1) = true := decide_eq_true hkn
        have f2 : decide ((k : Int) < (n1 : Int)) = true := decide_eq_true (by omega)
        have f3 : (k : Int) < (n1 : Int) := by omega
        obtain ⟨g5, e5, rfl, hcl5⟩ := HLO.out (by omega)
        obtain ⟨i, hi⟩ : ∃ i, (with_ C x)[k]? = some i := ⟨_, List.getElem?_eq_getElem (by rw [HN1.out]; exact hkn)⟩
        have hiC : i < C.length := (mem_with.1 (List.mem_of_getElem? hi)).1
        obtain ⟨S, hS⟩ : ∃ z, bump 1 (satsP C tr) ((with_ C x).take k) = z := ⟨_, rfl⟩
        obtain ⟨O, hO⟩ : ∃ z, bump (-1) (opnsP C tr) ((with_ C x).take k) = z := ⟨_, rfl⟩
        rw [hS, hO] at hpw
        have hSl : S.length = C.length := by rw [← hS, bump_len]; simp [satsP]
        have hOl : O.length = C.length := by rw [← hO, bump_len]; simp [opnsP]
        have c5 := irow_cell (show IRow K.B wo (some ⟨g5, 0, none⟩) (R1 5).c (R1 5).l from by have h := hpw.rows 5 (by omega); rw [ctRo _ _ _ (by decide) (by decide), e5] at h; exact h) (i := lo + k) ((List.getElem?_eq_some_iff.1 (hcl5 k i hi)).1)
        have e5v : at_ (R1 5).l (lo + k) = (i : Int) := by have h := hcl5 k i hi; unfold at_; rw [List.getD_eq_getElem?_getD, h]; rfl
        rw [e5v] at c5
        obtain ⟨cn, hcn⟩ : ∃ z, C.length = z := ⟨_, rfl⟩
        obtain ⟨g2, a2, v2, hc2, r2⟩ := hpw.row (i := 2) (by omega) (n := cn) (by rw [ctR2]; simp only; omega) (by omega)
        obtain ⟨g3, a3, v3, hc3, r3⟩ := hpw.row (i := 3) (by omega) (n := cn) (by rw [ctR3]; simp only; omega) (by omega)
        have q7 := hpw.f7
        have q8 := hpw.f8
        rw [v2] at q7
        rw [v3] at q8
        rw [ctR2] at a2 r2 q7
        rw [ctR3] at a3 r3 q8
        simp only at a2 r2 a3 r3 q7 q8
        have c2 := irow_cell r2 (i := i) (by omega)
        have c3 := irow_cell r3 (i := i) (by omega)
        have z2 := World.ownsRow.frozenAt r2 i
        have z3 := World.ownsRow.frozenAt r3 i
        have hb2 : (ctR R1 S O 2).blk = some g2 := by rw [ctR2]; unfold Rw.blk; simp only [Rw.val, a2]; rfl
        have hb3 : (ctR R1 S O 3).blk = some g3 := by rw [ctR3]; unfold Rw.blk; simp only [Rw.val, a3]; rfl
        have n23 : g2 ≠ g3 := fun e => hpw.apart 2 3 (by omega) (by omega) (by decide) g2 hb2 (by rw [hb3, e])
        have n32 : g3 ≠ g2 := fun e => n23 e.symm
        have np2 : K.p ≠ g2 := fun e => hpw.offp 2 (by omega) (by rw [hb2, e])
        have n2p : g2 ≠ K.p := fun e => np2 e.symm
        have hs2 : at_ S i = at_ (satsP C tr) i := by rw [← hS]; exact bump_at (nodup_with C x) hi (by simp [satsP]; omega)
        have hs3 : at_ O i = at_ (opnsP C tr) i := by rw [← hO]; exact bump_at (nodup_with C x) hi (by simp [opnsP]; omega)
        have hCm : C.getD i [] ∈ C := by rw [List.getD_eq_getElem?_getD, List.getElem?_eq_getElem hiC]; exact List.getElem_mem hiC
        obtain ⟨s, hs⟩ : ∃ z, at_ S i = z := ⟨_, rfl⟩
        obtain ⟨o, ho⟩ : ∃ z, at_ O i = z := ⟨_, rfl⟩
        have bs : 0 ≤ s ∧ s ≤ 1000 := by
          rw [← hs, hs2]; unfold at_ satsP; rw [getD_map hiC]
          have := sat_le tr (C.getD i []); have := hL _ hCm; omega
        have bo : 0 ≤ o ∧ o ≤ 1000 := by
          rw [← ho, hs3]; unfold at_ opnsP; rw [getD_map hiC]
          have := opn_le tr (C.getD i []); have := hL _ hCm; omega
        rw [hs] at c2
        rw [ho] at c3
        have k1 : IntKind.i64.wrap (s + 1) = s + 1 := IntWalk.i64_in _ (by omega)
        have k2 : IntKind.i64.wrap (o - 1) = o - 1 := IntWalk.i64_in _ (by omega)
        have i1 : (i : Int) < (cn : Int) := by omega
        have HNX := Lib.hid (show PW K ((wo.setCell ⟨g2, i, none⟩ (.int .i64 (s + 1))).setCell ⟨g3, i, none⟩ (.int .i64 (o - 1))) (valsP K.V (tr ++ [x])) ns kf (ctR R1 (bump 1 (satsP C tr) ((with_ C x).take (k + 1))) (bump (-1) (opnsP C tr) ((with_ C x).take (k + 1)))) ∧ Off (PM K R) w ((wo.setCell ⟨g2, i, none⟩ (.int .i64 (s + 1))).setCell ⟨g3, i, none⟩ (.int .i64 (o - 1))) from by
          have h1 := hpw.store (i := 2) (by omega) (by rw [ctR2]; exact a2) i (s + 1)
          rw [ctR_set2, ctR2] at h1
          have h2 := h1.store (i := 3) (by omega) (by rw [ctR3]; exact a3) i (o - 1)
          rw [ctR_set3, ctR3] at h2
          rw [bump_next hi, bump_next hi, hS, hO, hs, ho]
          refine ⟨h2, ?_⟩
          have hM : ∀ g, (ctR R1 S O 2).blk = some g ∨ (ctR R1 S O 3).blk = some g → g < w.heap.size → PM K R g := fun g hg hlt => by
            have h9 : PM K (ctR R1 S O) g := hg.elim (fun e => .inr (.inr ⟨2, by omega, e⟩)) (fun e => .inr (.inr ⟨3, by omega, e⟩))
            rcases HPM.out g (PM.ct (by rw [hSl, HSO.out.1]; simp [satsP]) (by rw [hOl, HSO.out.2]; simp [opnsP]) g h9) with h10 | h10
            · exact h10
            · omega
          exact (hoff.trans (Off.of (grown_set _ _ _ _) (fun k e => e)) (fun j hj e => hM j (.inl (hb2.trans e)) hj)).trans (Off.of (grown_set _ _ _ _) (fun k e => e)) (fun j hj e => hM j (.inr (hb3.trans e)) hj))
        have HGK := Lib.hid hgk
        clear hgk hpw hoff hS hO hSl hOl e5v r2 r3 v2 v3 hb2 hb3 hs2 hs3 hCm hs ho bs bo hcl5 a2 a3 hi hiC hcn e5
        go_wp2_with fail
        go_roundg (n1 - (k + 1))
        case measure => rw [HGK.out]; omega
        case rel => exact ⟨k + 1, rfl, rfl, by omega, HNX.out.1, HNX.out.2⟩
      · have hke : k = n1 := by omega
        subst hke
        have f1 : decide (k < k) = false := by simp
        rw [← HN1.out, List.take_length, sats_step HH.out.2.2.1] at hpw
        obtain ⟨R2, hR2⟩ : ∃ z, ctR R1 (satsP C (tr ++ [x])) (bump (-1) (opnsP C tr) (with_ C x)) = z := ⟨_, rfl⟩
        rw [hR2] at hpw
        have HR2 : Hid ((R2 2).l = satsP C (tr ++ [x]) ∧ (R2 3).l = bump (-1) (opnsP C tr) (with_ C x) ∧ ∀ j, j ≠ 2 → j ≠ 3 → R2 j = R1 j) := Lib.hid ⟨by rw [← hR2, ctR2], by rw [← hR2, ctR3], fun j h2 h3 => by rw [← hR2, ctRo _ _ _ h2 h3]⟩
        have HPM2 : Hid (∀ k, PM K R2 k → PM K R k ∨ w.heap.size ≤ k) := Lib.hid (fun k hk => HPM.out k (by rw [← hR2] at hk; exact PM.ct (by rw [HSO.out.1]; simp [satsP]) (by rw [bump_len, HSO.out.2]) k hk))
        have HQ := Lib.hid (And.intro hpw hoff)
        have HOC2 : Hid (Occ K.V C (R2 4).l (R2 5).l ∧ (R2 5).l.length ≤ 100000) := Lib.hid (by rw [HR2.out.2.2 4 (by omega) (by omega), HR2.out.2.2 5 (by omega) (by omega)]; exact HOC.out)
        have HQ6 : Hid ((R2 6).l = (R 6).l) := Lib.hid (by rw [HR2.out.2.2 6 (by omega) (by omega), HR1.out.2 6 (by omega)])
        clear hpw hoff hR2 hgk
        obtain ⟨n2, hn2⟩ : ∃ n, (with_ C (-x)).length = n := ⟨_, rfl⟩
        have HN2 := Lib.hid hn2
        have kx : IntKind.i64.wrap (-x) = -x := IntWalk.i64_in _ (by have := HH.out.2.1.2; omega)
        have hx' : InR K.V (-x) := by have h0 := HH.out.2.1.1; have h1 := HH.out.2.1.2; exact ⟨by omega, by omega, by omega⟩
        have HC2 := Lib.hid (containing_calls HQ.out.1 HOC2.out.1 (by omega) HOC2.out.2 hx' n2 hn2)
        clear hn2
        go_wp2_with fail
        refine HC2.out.mono ?_
        rintro e w3 ⟨⟨sb, sd, rfl, lb, hlb⟩, m1, rfl⟩
        have HLB := Lib.hid hlb
        clear hlb HC2 kx f1
        have hW2C : n2 ≤ C.length := by
          have h2 : (with_ C (-x)).length ≤ C.length := by unfold with_; exact Nat.le_trans (List.length_filter_le _ _) (by simp)
          have := HN2.out; omega
        have HL0 : Hid ((R 6).l.length ≤ 402000) := Lib.hid (by
          have h1 := HH.out.1.ql; have h2 := HH.out.1.free
          have h3 : C.length * (1 + tr.length) ≤ 1000 * 402 := Nat.mul_le_mul hC (by omega)
          omega)
        go_wp2_with fail
        go_loopg [7, 65] n2 (fun gk _s7 s65 wr => ∃ (k : Nat) (R3 : Nat → Rw), s65 = .int .i64 (k : Int) ∧ gk = n2 - k ∧ k ≤ n2 ∧ PW K wr (valsP K.V (tr ++ [x])) ns kf R3 ∧ (∀ j, j ≠ 3 → j ≠ 6 → R3 j = R2 j) ∧ (R3 3).l = bump (-1) (R2 3).l ((with_ C (-x)).take k) ∧ QOk C (tr ++ [x]) ((with_ C (-x)).drop k) (R3 6).l ∧ (R3 6).l.length ≤ (R 6).l.length + k ∧ Off (PM K R) w wr ∧ ∀ b, PM K R3 b → PM K R b ∨ w.heap.size ≤ b)
        case atStart => exact ⟨0, R2, rfl, rfl, Nat.zero_le _, HQ.out.1.drewN _, fun _ _ _ => rfl, rfl, by rw [List.drop_zero, HQ6.out]; exact HH.out.1.q.step HREST.out HH.out.2.1.1 HH.out.2.2.1, by rw [HQ6.out]; omega, HQ.out.2.trans (Off.of (grown_drewN _ _ none) (fun _ e => by cases e)) (fun _ _ e => e), HPM2.out⟩
        case round =>
          obtain ⟨k, R3, rfl, hgk, hk, hpw, hsame, hO3, hq3, hlen3, hoff, hpm3⟩ := hrel
          obtain ⟨wo, hwo⟩ : ∃ z, z = wr := ⟨_, rfl⟩
          rw [← hwo] at hpw hoff ⊢
          clear hwo
          have HG := Lib.hid (And.intro hgk (And.intro hpw (And.intro hsame (And.intro hO3 (And.intro hq3 (And.intro hlen3 (And.intro hoff hpm3)))))))
          clear hgk hsame hO3 hq3 hlen3 hoff hpm3
          by_cases hkn : k < n2
          · have f1 : decide (k < n2) = true := decide_eq_true hkn
            have f2 : decide ((k : Int) < (n2 : Int)) = true := decide_eq_true (by omega)
            have f3 : (k : Int) < (n2 : Int) := by omega
            obtain ⟨g5, e5, rfl, hcl5⟩ := HLB.out (by omega)
            obtain ⟨i, hi⟩ : ∃ i, (with_ C (-x))[k]? = some i := ⟨_, List.getElem?_eq_getElem (by rw [HN2.out]; exact hkn)⟩
            have hiC : i < C.length := (mem_with.1 (List.mem_of_getElem? hi)).1
            have hS : (R3 2).l = satsP C (tr ++ [x]) := by rw [HG.out.2.2.1 2 (by omega) (by omega)]; exact HR2.out.1
            have hOl : (R3 3).l.length = C.length := by rw [HG.out.2.2.2.1, bump_len, HR2.out.2.1, bump_len]; simp [opnsP]
            have c5 := irow_cell (show IRow K.B wo (some ⟨g5, 0, none⟩) (R2 5).c (R2 5).l from by have h := hpw.rows 5 (by omega); rw [HG.out.2.2.1 5 (by decide) (by decide), e5] at h; exact h) (i := lb + k) ((List.getElem?_eq_some_iff.1 (hcl5 k i hi)).1)
            have e5v : at_ (R2 5).l (lb + k) = (i : Int) := by have h := hcl5 k i hi; unfold at_; rw [List.getD_eq_getElem?_getD, h]; rfl
            rw [e5v] at c5
            obtain ⟨cn, hcn⟩ : ∃ z, C.length = z := ⟨_, rfl⟩
            obtain ⟨g2, a2, v2, hc2, r2⟩ := hpw.row (i := 2) (by omega) (n := cn) (by rw [hS]; simp [satsP]; omega) (by omega)
            obtain ⟨g3, a3, v3, hc3, r3⟩ := hpw.row (i := 3) (by omega) (n := cn) (by omega) (by omega)
            have q7 := hpw.f7
            have q8 := hpw.f8
            rw [v2] at q7
            rw [v3] at q8
            have c2 := irow_cell r2 (i := i) (by rw [hS]; simp [satsP]; omega)
            have c3 := irow_cell r3 (i := i) (by omega)
            have z3 := World.ownsRow.frozenAt r3 i
            have hb2 : (R3 2).blk = some g2 := by unfold Rw.blk; simp only [Rw.val, a2]; rfl
            have hb3 : (R3 3).blk = some g3 := by unfold Rw.blk; simp only [Rw.val, a3]; rfl
            have n23 : g2 ≠ g3 := fun e => hpw.apart 2 3 (by omega) (by omega) (by decide) g2 hb2 (by rw [hb3, e])
            have n32 : g3 ≠ g2 := fun e => n23 e.symm
            have np3 : K.p ≠ g3 := fun e => hpw.offp 3 (by omega) (by rw [hb3, e])
            have n3p : g3 ≠ K.p := fun e => np3 e.symm
            have hCm : C.getD i [] ∈ C := by rw [List.getD_eq_getElem?_getD, List.getElem?_eq_getElem hiC]; exact List.getElem_mem hiC
            -- what the cells hold
            have hs2 : at_ (R3 2).l i = (satN (tr ++ [x]) (C.getD i []) : Int) := by rw [hS]; unfold at_ satsP; rw [getD_map hiC]
            have hs3 : at_ (R3 3).l i - 1 = (opnN (tr ++ [x]) (C.getD i []) : Int) := by
              rw [HG.out.2.2.2.1, bump_at (nodup_with C (-x)) hi (by rw [HR2.out.2.1, bump_len]; simp [opnsP]; omega)]
              have h1 : at_ (bump (-1) (bump (-1) (opnsP C tr) (with_ C x)) (with_ C (-x))) i = at_ (opnsP C (tr ++ [x])) i := by rw [opns_step (C := C) HH.out.2.1.1 HH.out.2.2.1]
              unfold at_ at h1
              rw [bump_get (nodup_with C (-x)) (by rw [bump_len]; simp [opnsP]; omega), if_pos (List.mem_of_getElem? hi)] at h1
              unfold opnsP at h1
              rw [getD_map (C := C) hiC] at h1
              rw [HR2.out.2.1]; unfold at_ opnsP; omega
            obtain ⟨s, hs⟩ : ∃ z : Nat, satN (tr ++ [x]) (C.getD i []) = z := ⟨_, rfl⟩
            obtain ⟨o, ho⟩ : ∃ z : Nat, opnN (tr ++ [x]) (C.getD i []) = z := ⟨_, rfl⟩
            have bo : o ≤ 1000 := by rw [← ho]; have := opn_le (tr ++ [x]) (C.getD i []); have := hL _ hCm; omega
            rw [hs] at hs2
            rw [ho] at hs3
            rw [hs2] at c2
            obtain ⟨o1, ho1⟩ : ∃ z, at_ (R3 3).l i = z := ⟨_, rfl⟩
            rw [ho1] at c3 hs3
            have k2 : IntKind.i64.wrap (o1 - 1) = (o : Int) := by rw [hs3]; exact IntWalk.i64_in _ (by omega)
            have i1 : (i : Int) < (cn : Int) := by omega
            obtain ⟨W4, hW4⟩ : ∃ z, wo.setCell ⟨g3, i, none⟩ (.int .i64 (o : Int)) = z := ⟨_, rfl⟩
            have hp4 := hpw.store (i := 3) (by omega) a3 i (o : Int)
            obtain ⟨R4, hR4⟩ : ∃ z, upd R3 3 ⟨(R3 3).a, (R3 3).c, (R3 3).l.set i (o : Int)⟩ = z := ⟨_, rfl⟩
            rw [hR4, hW4] at hp4
            have hO4 : (R4 3).l = bump (-1) (R2 3).l ((with_ C (-x)).take (k + 1)) := by
              rw [← hR4, upd_same]; simp only; rw [bump_next hi, ← HG.out.2.2.2.1, ho1, ← hs3]; rfl
            have HR4 : Hid ((∀ j, j ≠ 3 → j ≠ 6 → R4 j = R2 j) ∧ (R4 3).l = bump (-1) (R2 3).l ((with_ C (-x)).take (k + 1)) ∧ R4 6 = R3 6 ∧ R4 2 = R3 2) := Lib.hid ⟨fun j h3 h6 => by rw [← hR4, upd_other h3]; exact HG.out.2.2.1 j h3 h6, hO4, by rw [← hR4, upd_other (by decide)], by rw [← hR4, upd_other (by decide)]⟩
            have hpm4 : ∀ b, PM K R4 b → PM K R3 b := by
              rw [← hR4]; intro b hb
              rcases PM.upd (K := K) (R := R3) (i := 3) (N := b + 1) (by omega) (.inl (by unfold Rw.blk; simp only [Rw.val, List.length_set])) b hb with h | h
              · exact h
              · omega
            have hoff4 : Off (PM K R) w W4 := by
              rw [← hW4]
              exact HG.out.2.2.2.2.2.2.1.trans (Off.of (grown_set _ _ _ _) (fun k e => e)) (fun j hj e => (HG.out.2.2.2.2.2.2.2 g3 (.inr (.inr ⟨3, by omega, hb3⟩))).elim (fun h => (Option.some.inj e) ▸ h) (fun h => by have := Option.some.inj e; omega))
            have hdrop : (with_ C (-x)).drop k = i :: (with_ C (-x)).drop (k + 1) := by
              have h1 := (List.getElem?_eq_some_iff.1 hi)
              rw [List.drop_eq_getElem_cons h1.1, h1.2]
            have HQ4 : Hid (QOk C (tr ++ [x]) (i :: (with_ C (-x)).drop (k + 1)) (R4 6).l ∧ (R4 6).l.length ≤ (R 6).l.length + k) := Lib.hid (by rw [HR4.out.2.2.1, ← hdrop]; exact ⟨HG.out.2.2.2.2.1, HG.out.2.2.2.2.2.1⟩)
            have q7' := hp4.f7
            have q8' := hp4.f8
            rw [HR4.out.2.2.2, v2] at q7'
            have v3' : (R4 3).val = .slice (some ⟨g3, 0, none⟩) cn (R3 3).c := by rw [← hR4, upd_same]; simp only [Rw.val, a3, List.length_set]; congr 1; omega
            rw [v3'] at q8'
            have c2' : W4.cell? ⟨g2, i, none⟩ = some (.int .i64 (s : Int)) := by rw [← hW4, World.cell?_setCell_other _ _ _ _ (by intro e; injection e with e; exact n32 e)]; exact c2
            have c3' : W4.cell? ⟨g3, i, none⟩ = some (.int .i64 (o : Int)) := by rw [← hW4]; exact World.cell?_setCell_same _ _ _ c3
            have HP4 := Lib.hid (And.intro hp4 (And.intro hpm4 (And.intro hoff4 (And.intro hiC (And.intro ho hs)))))
            clear hp4 hpm4 hoff4 hdrop hO4 hR4 hpw r2 r3 v2 v3 v3' a2 a3 hb2 hb3 hs2 hs3 hcl5 e5 e5v hi hCm hS hOl ho1 ho hs
            by_cases hs0 : s = 0
            · by_cases ho2 : o < 2
              · have t1 : ((s : Int) == 0) = true := by rw [hs0]; rfl
                have t2 : decide (o < 2) = true := decide_eq_true ho2
                have t3 : decide ((o : Int) < 2) = true := decide_eq_true (by omega)
                obtain ⟨L6, hL6⟩ : ∃ z, (R4 6).l.length = z := ⟨_, rfl⟩
                have q11 := HP4.out.1.f11
                rw [Rw.val, hL6] at q11
                have HPU := Lib.hid (hpush_calls K.B K.p 11 (R4 6).a (R4 6).c L6 (R4 6).l (i : Int) W4 hL6 q11 (HP4.out.1.fr 11) (HP4.out.1.rows 6 (by omega)) (by have := (HP4.out.1.below K.p (.inl rfl)); have := HP4.out.1.low; omega) (by have := HQ4.out.2; have := HL0.out; omega) (by have := HP4.out.1.offp 6 (by omega); unfold Rw.blk at this; rwa [Rw.val, hL6] at this) (by have := HQ4.out.1.heap; rwa [hL6] at this))
                clear q11
                go_wp2_with fail
                refine HPU.out.mono ?_
                rintro e w6 ⟨rfl, a6, c6, l6, hper, hhp, hrow6, hqf, hbk⟩
                have hl6 : l6.length = L6 + 1 := by rw [hper.length_eq, List.length_cons, hL6]
                have hval6 : (⟨a6, c6, l6⟩ : Rw).val = .slice a6 (L6 + 1) c6 := by simp only [Rw.val, hl6]
                have hR6b : (R4 6).blk = (Value.slice (R4 6).a L6 (R4 6).c).ownBlock := by unfold Rw.blk; rw [Rw.val, hL6]
                have hb6 : (⟨a6, c6, l6⟩ : Rw).blk = (R4 6).blk ∨ ∃ b, (⟨a6, c6, l6⟩ : Rw).blk = some b ∧ W4.heap.size ≤ b := by rw [hR6b]; unfold Rw.blk; rw [hval6]; exact hbk
                have hp6 := HP4.out.1.turn (i := 6) (by omega) ⟨a6, c6, l6⟩ (by rw [hR6b]; exact hqf.off) (by rw [hval6]; exact hqf.blk) hrow6 hb6
                have HN := Lib.hid (show (∀ j, j ≠ 3 → j ≠ 6 → upd R4 6 ⟨a6, c6, l6⟩ j = R2 j) ∧ (upd R4 6 ⟨a6, c6, l6⟩ 3).l = bump (-1) (R2 3).l ((with_ C (-x)).take (k + 1)) ∧ QOk C (tr ++ [x]) ((with_ C (-x)).drop (k + 1)) (upd R4 6 ⟨a6, c6, l6⟩ 6).l ∧ (upd R4 6 ⟨a6, c6, l6⟩ 6).l.length ≤ (R 6).l.length + (k + 1) ∧ Off (PM K R) w w6 ∧ ∀ b, PM K (upd R4 6 ⟨a6, c6, l6⟩) b → PM K R b ∨ w.heap.size ≤ b from by
                  refine ⟨fun j h3 h6 => by rw [upd_other h6]; exact HR4.out.1 j h3 h6, by rw [upd_other (by decide)]; exact HR4.out.2.1, ?_, ?_, ?_, ?_⟩
                  · rw [upd_same]
                    exact HQ4.out.1.push HP4.out.2.2.2.1 (by rw [HP4.out.2.2.2.2.1]; exact ho2) hper (by rw [hl6]; exact hhp)
                  · rw [upd_same]; simp only; have := HQ4.out.2; omega
                  · refine HP4.out.2.2.1.trans hqf.off (fun b hb e => ?_)
                    have hm : PM K R4 b := by
                      rcases e with rfl | e
                      · exact .inl rfl
                      · exact .inr (.inr ⟨6, by omega, by rw [hR6b]; exact e⟩)
                    rcases HG.out.2.2.2.2.2.2.2 b (HP4.out.2.1 b hm) with h | h
                    · exact h
                    · omega
                  · intro b hb
                    rcases PM.upd (K := K) (R := R4) (i := 6) (N := W4.heap.size) (by omega) hb6 b hb with h | h
                    · exact HG.out.2.2.2.2.2.2.2 b (HP4.out.2.1 b h)
                    · right; have := HP4.out.2.2.1.size; omega)
                have HP6 := Lib.hid hp6
                clear hp6 hper hhp hrow6 hqf hbk hl6 hval6 hR6b hb6 HPU
                go_wp2_with fail
                go_roundg (n2 - (k + 1))
                case measure => rw [HG.out.1]; omega
                case rel => exact ⟨k + 1, _, rfl, rfl, by omega, HP6.out, HN.out.1, HN.out.2.1, HN.out.2.2.1, HN.out.2.2.2.1, HN.out.2.2.2.2.1, HN.out.2.2.2.2.2⟩
              · have t1 : ((s : Int) == 0) = true := by rw [hs0]; rfl
                have t2 : decide (o < 2) = false := decide_eq_false ho2
                have t3 : decide ((o : Int) < 2) = false := decide_eq_false (by omega)
                have HNH : Hid (hot (tr ++ [x]) (C.getD i []) = false) := Lib.hid (by unfold hot; rw [HP4.out.2.2.2.2.1, t2, Bool.and_false])
                go_wp2_with fail
                go_roundg (n2 - (k + 1))
                case measure => rw [HG.out.1]; omega
                case rel => exact ⟨k + 1, R4, rfl, rfl, by omega, HP4.out.1, HR4.out.1, HR4.out.2.1, HQ4.out.1.pass HNH.out, by have := HQ4.out.2; omega, HP4.out.2.2.1, fun b hb => HG.out.2.2.2.2.2.2.2 b (HP4.out.2.1 b hb)⟩
            · have t1 : ((s : Int) == 0) = false := by rw [beq_eq_false_iff_ne]; omega
              have t4 : (s == 0) = false := by rw [beq_eq_false_iff_ne]; exact hs0
              have HNH : Hid (hot (tr ++ [x]) (C.getD i []) = false) := Lib.hid (by unfold hot; rw [HP4.out.2.2.2.2.2, t4, Bool.false_and])
              go_wp2_with fail
              go_roundg (n2 - (k + 1))
              case measure => rw [HG.out.1]; omega
              case rel => exact ⟨k + 1, R4, rfl, rfl, by omega, HP4.out.1, HR4.out.1, HR4.out.2.1, HQ4.out.1.pass HNH.out, by have := HQ4.out.2; omega, HP4.out.2.2.1, fun b hb => HG.out.2.2.2.2.2.2.2 b (HP4.out.2.1 b hb)⟩
          · have hke : k = n2 := by omega
            subst hke
            have f1 : decide (k < k) = false := by simp
            go_wp2_with fail
            go_end0
            refine ⟨rfl, R3, ⟨HG.out.2.1, ?_, ?_, ?_, ?_, ?_, ?_, ?_, HH.out.1.cons.snoc HH.out.2.1.1 HH.out.2.2.1, ?_⟩, ?_, HG.out.2.2.2.2.2.2.1, HG.out.2.2.2.2.2.2.2⟩
            · rw [HG.out.2.2.1 0 (by decide) (by decide), HR2.out.2.2 0 (by decide) (by decide)]; exact HR1.out.1
            · rw [HG.out.2.2.1 2 (by decide) (by decide)]; exact HR2.out.1
            · rw [HG.out.2.2.2.1, ← HN2.out, List.take_length, HR2.out.2.1]; exact opns_step HH.out.2.1.1 HH.out.2.2.1
            · rw [HG.out.2.2.1 4 (by decide) (by decide), HG.out.2.2.1 5 (by decide) (by decide)]; exact HOC2.out.1
            · rw [HG.out.2.2.1 5 (by decide) (by decide)]; exact HOC2.out.2
            · have := HG.out.2.2.2.2.1; rwa [← HN2.out, List.drop_length] at this
            · have h1 := HG.out.2.2.2.2.2.1; have h2 := HH.out.1.ql
              rw [List.length_append, List.length_singleton]
              have h3 : C.length * (1 + (tr.length + 1)) = C.length * (1 + tr.length) + C.length := by rw [← Nat.add_assoc, Nat.mul_succ]
              omega
            · have h1 := free_snoc HH.out.2.1 HH.out.2.2.1; have h2 := HH.out.1.free
              rw [List.length_append, List.length_singleton]; omega
            · rw [HG.out.2.2.1 1 (by decide) (by decide), HR2.out.2.2 1 (by decide) (by decide)]; exact HR1.out.2 1 (by decide)
end Go.Proofs.YtihaheinkpmnnaaGreat

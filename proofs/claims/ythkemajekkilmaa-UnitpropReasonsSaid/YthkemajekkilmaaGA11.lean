/- Stage 20, joined: R2, R3, R4. -/
import Derived.Test.YthkemajekkilmaaGA10
import Derived.Test.YthkemajekkilmaaGA03
/- The reference's find and Negatives. -/
namespace Go.Proofs.Ythkemajekkilmaa
open Go.RowKit
/-- Where a literal stands first; -1 if nowhere. -/
def fnd (L : List Int) (x : Int) : Int := match L.findIdx? (fun y => y == x) with | some i => (i : Int) | none => -1
theorem fnd_none {L : List Int} {x : Int} (h : x ∉ L) : fnd L x = -1 := by
  unfold fnd
  have : L.findIdx? (fun y => y == x) = none := by
    rw [List.findIdx?_eq_none_iff]
    intro y hy
    exact beq_eq_false_iff_ne.2 (fun e => h (e ▸ hy))
  rw [this]
theorem fnd_some {L : List Int} {x : Int} {k : Nat} (h : L[k]? = some x) (hb : x ∉ L.take k) : fnd L x = (k : Int) := by
  unfold fnd
  have hk := (List.getElem?_eq_some_iff.1 h).1
  have : L.findIdx? (fun y => y == x) = some k := by
    rw [List.findIdx?_eq_some_iff_getElem]
    refine ⟨hk, ?_, fun j hj => ?_⟩
    · have := (List.getElem?_eq_some_iff.1 h).2
      simp [this]
    · simp only [beq_iff_eq]
      intro e
      refine hb ?_
      have hjl : j < L.length := by omega
      have : (L.take k)[j]? = some x := by rw [List.getElem?_take, if_pos hj, List.getElem?_eq_getElem hjl, e]
      exact List.mem_of_getElem? this
  rw [this]
set_option maxHeartbeats 4000000 in
theorem find_calls (L : List Int) (a : Option Addr) (c : Nat) (x : Int) (w : World) (h : IntsW w a c L) (hl : L.length ≤ 100000) :
    Calls Try.prog 51 #[.slice a L.length c, .int .i64 x] w fun e w' => e = .returned (.int .i64 (fnd L x)) ∧ w' = w := by
  obtain ⟨n, hn⟩ : ∃ n, L.length = n := ⟨_, rfl⟩
  have HH := Lib.hid (And.intro h hn)
  rw [hn] at hl ⊢
  clear h hn
  obtain ⟨d, hd⟩ : ∃ d, fnd L x = d := ⟨_, rfl⟩
  rw [hd]
  have HD := Lib.hid hd
  clear hd
  go_enter Try.func51, Try.ntmps51
  go_wp2_with fail
  go_loopg [5] n (fun gk s5 w' => ∃ k : Nat, s5 = .int .i64 (k : Int) ∧ gk = n - k ∧ k ≤ n ∧ w' = w ∧ x ∉ L.take k)
  case atStart => exact ⟨0, rfl, rfl, by omega, rfl, by simp⟩
  case round =>
    obtain ⟨k, rfl, hgk, hk, rfl, hbef⟩ := hrel
    have HI := Lib.hid (And.intro hgk hbef)
    clear hgk hbef
    by_cases hkn : k < n
    · have f1 : decide ((k : Int) < (n : Int)) = true := decide_eq_true (by omega)
      have f1' : decide (k < n) = true := decide_eq_true hkn
      have i0 : (0 : Int) ≤ (k : Int) := by omega
      have i1 : (k : Int) < (n : Int) := by omega
      have k1 : IntKind.i64.wrap ((k : Int) + 1) = (k : Int) + 1 := IntWalk.i64_in _ (by omega)
      obtain ⟨z, hz⟩ : ∃ z, L[k]? = some z := ⟨_, List.getElem?_eq_getElem (by rw [HH.out.2]; exact hkn)⟩
      obtain ⟨b, o, rfl, hcell⟩ := HH.out.1.at hz
      have HZ := Lib.hid hz
      clear hz
      by_cases hzx : z = x
      · subst hzx
        have HR : Hid (d = (k : Int)) := Lib.hid (by rw [← HD.out]; exact fnd_some HZ.out HI.out.2)
        go_wp2_with fail
        go_ret
        exact ⟨by rw [HR.out]; rfl, rfl⟩
      · have e1 : decide (z = x) = false := decide_eq_false hzx
        have e2 : (z == x) = false := by simpa using hzx
        have HN : Hid (x ∉ L.take (k + 1)) := Lib.hid (by rw [take_snoc HZ.out]; simp only [List.mem_append, List.mem_singleton, not_or]; exact ⟨HI.out.2, fun e => hzx e.symm⟩)
        clear hzx
        go_wp2_with fail
        go_roundg (n - (k + 1))
        case measure => rw [HI.out.1]; omega
        case rel => exact ⟨k + 1, rfl, rfl, by omega, rfl, HN.out⟩
    · have hke : k = n := by omega
      subst hke
      have f1 : decide (k < k) = false := by simp
      have HR : Hid (d = -1) := Lib.hid (by rw [← HD.out]; refine fnd_none ?_; have := HI.out.2; rwa [← HH.out.2, List.take_length] at this)
      go_wp2_with fail
      go_ret
      exact ⟨by rw [HR.out]; rfl, rfl⟩
set_option maxHeartbeats 4000000 in
theorem negatives_calls (A : List Int) (aa : Option Addr) (ac : Nat) (w : World) (hA : IntsW w aa ac A) (hl : A.length ≤ 10000) (hb : ∀ x ∈ A, -1000000 ≤ x ∧ x ≤ 1000000) :
    Calls Try.prog 42 #[.slice aa A.length ac] w fun e w' => ∃ a c, e = .returned (.slice a A.length c) ∧ IntsW w' a c (negL A) ∧ w.grownBy w' none := by
  obtain ⟨an, han⟩ : ∃ n, A.length = n := ⟨_, rfl⟩
  have HA := Lib.hid (And.intro hA (And.intro hb han))
  rw [han] at hl ⊢
  obtain ⟨i0, hi0, hz0, hz1, hz2⟩ := info_parts info3
  clear hA hb han
  go_enter Try.func42, Try.ntmps42
  go_wp2_with fail
  go_loopg [3, 4] an (fun gk s3 s4 wr => ∃ (k : Nat) (a : Option Addr) (c : Nat), s3 = .slice a k c ∧ s4 = .int .i64 (k : Int) ∧ gk = an - k ∧ k ≤ an ∧ w.grownBy wr none ∧ wr.ownsRow w.heap.size 3 1 (.slice a k c) k (intCells (negL (A.take k))))
  case atStart => exact ⟨0, none, 0, rfl, rfl, rfl, by omega, grown_refl _ _, by simp [negL], .inl ⟨rfl, rfl⟩⟩
  case round =>
    obtain ⟨k, a, c, rfl, rfl, hgk, hk, hg, hown⟩ := hrel
    have HI := Lib.hid (And.intro hgk (And.intro hg hown))
    clear hgk hg hown
    by_cases hkn : k < an
    · have f1 : decide ((k : Int) < (an : Int)) = true := decide_eq_true (by omega)
      have f1' : decide (k < an) = true := decide_eq_true hkn
      have j0 : (0 : Int) ≤ (k : Int) := by omega
      have j1 : (k : Int) < (an : Int) := by omega
      have k1 : IntKind.i64.wrap ((k : Int) + 1) = (k : Int) + 1 := IntWalk.i64_in _ (by omega)
      obtain ⟨x, hx⟩ : ∃ x, A[k]? = some x := ⟨_, List.getElem?_eq_getElem (by rw [HA.out.2.2]; exact hkn)⟩
      obtain ⟨b, o, hb0, hcell⟩ := (HA.out.1.grown HI.out.2.1).at hx
      subst hb0
      obtain ⟨hx1, hx2⟩ := HA.out.2.1 x (List.mem_of_getElem? hx)
      have kx : IntKind.i64.wrap (-x) = -x := IntWalk.i64_in _ (by omega)
      have kx0 : IntKind.i64.wrap (0 - x) = -x := by rw [show (0 : Int) - x = -x from by omega]; exact kx
      obtain ⟨L, hL⟩ : ∃ L, negL (A.take k) = L := ⟨_, rfl⟩
      have HX : Hid (negL (A.take (k + 1)) = L ++ [-x]) := Lib.hid (by rw [← hL]; unfold negL; rw [take_snoc hx, List.map_append]; rfl)
      rw [hL] at HI
      have hsz : w.heap.size ≤ wr.heap.size := HI.out.2.1.size
      clear hx hx1 hx2 hL
      go_wp2_with (at_builtin; refine wpList_append_own_at _ rfl _ _ 25 rfl w.heap.size 3 i0 (.int .i64 0) 1 8 Try.underlying25 hi0 hz0 hz1 hz2 rfl (by decide) _ k (intCells L) rfl (HI.out.2.2.alloc _) ⟨wr.heap.size, 0, none⟩ 1 1 [.int .i64 (-x)] rfl rfl (cell_one_new _ _ _) (fun u hu => by simp at hu; subst hu; rfl) (by unfold maxLen; omega) (by omega) (by simp; omega) ?_)
      intro v' w7 hown' hgrow7 _ _
      obtain ⟨a', c', rfl⟩ := own_shape hown'
      have hg8 : wr.grownBy w7 (Value.slice a k c).ownBlock := (World.grownBy_alloc wr _ _).trans hgrow7
      have HN := Lib.hid (And.intro (grown_own HI.out.2.1 hg8 (own_low HI.out.2.2)) hown')
      clear hown' hgrow7 hg8 hcell
      go_wp2_with fail
      go_roundg (an - (k + 1))
      case measure => rw [HI.out.1]; omega
      case rel => exact ⟨k + 1, a', c', rfl, rfl, rfl, by omega, HN.out.1, by rw [HX.out, intCells, List.map_append]; exact HN.out.2⟩
    · have hke : k = an := by omega
      subst hke
      have f1 : decide (k < k) = false := by simp
      have hown := HI.out.2.2
      rw [List.take_of_length_le (by rw [HA.out.2.2]; exact Nat.le_refl _)] at hown
      have HOWN := Lib.hid hown
      clear hown
      go_wp2_with fail
      go_ret
      exact ⟨a, c, rfl, (own_ints HOWN.out).2, HI.out.2.1⟩
end Go.Proofs.Ythkemajekkilmaa
/- The reference's step. -/
namespace Go.Proofs.Ythkemajekkilmaa
open Go.RowKit
theorem cell_three_new (w : World) (a b c : Value) (t : TypeId) {W : World} (hW : w.alloc (.cells #[a, b, c] t) = W) :
    W.cell? ⟨w.heap.size, 0, none⟩ = some a ∧ W.cell? ⟨w.heap.size, 1, none⟩ = some b ∧ W.cell? ⟨w.heap.size, 2, none⟩ = some c ∧ (∀ o, W.frozen? ⟨w.heap.size, o, none⟩ = false) ∧ w.grownBy W none := by
  subst hW
  exact ⟨by go_simp, by go_simp, by go_simp, fun o => by go_simp, World.grownBy_alloc w _ none⟩
theorem idx_first {C : List (List Int)} {p : List Int → Bool} {k : Nat} {z : List Int} (hz : C[k]? = some z) (hb : (C.take k).all (fun c => !p c) = true) (hp : p z = true) : C.findIdx? p = some k := by
  rw [List.findIdx?_eq_some_iff_getElem]
  obtain ⟨hk, e⟩ := List.getElem?_eq_some_iff.1 hz
  refine ⟨hk, by rw [e]; exact hp, fun j hj => ?_⟩
  have hjl : j < C.length := by omega
  have h1 : (C.take k)[j]? = some C[j] := by rw [List.getElem?_take, if_pos hj, List.getElem?_eq_getElem hjl]
  have := List.all_eq_true.1 hb _ (List.mem_of_getElem? h1)
  simpa using this
theorem idx_none {C : List (List Int)} {p : List Int → Bool} (hb : C.all (fun c => !p c) = true) : C.findIdx? p = none := by
  rw [List.findIdx?_eq_none_iff]
  intro c hc
  simpa using List.all_eq_true.1 hb c hc
theorem getD_of {C : List (List Int)} {k : Nat} {z : List Int} (hz : C[k]? = some z) : C.getD k [] = z := by rw [List.getD_eq_getElem?_getD, hz]; rfl
theorem set_three {X : World} {rb : Nat} {u0 u1 u2 : Value} (a b c : Value) (h0 : X.cell? ⟨rb, 0, none⟩ = some u0) (h1 : X.cell? ⟨rb, 1, none⟩ = some u1) (h2 : X.cell? ⟨rb, 2, none⟩ = some u2) {Z : World} (hZ : ((X.setCell ⟨rb, 0, none⟩ a).setCell ⟨rb, 1, none⟩ b).setCell ⟨rb, 2, none⟩ c = Z) :
    Z.cell? ⟨rb, 0, none⟩ = some a ∧ Z.cell? ⟨rb, 1, none⟩ = some b ∧ Z.cell? ⟨rb, 2, none⟩ = some c ∧ X.grownBy Z (some rb) := by
  subst hZ
  have o : ∀ {i j : Nat}, i ≠ j → (⟨rb, i, none⟩ : Addr) ≠ ⟨rb, j, none⟩ := fun h e => h (by injection e)
  have e1 : (X.setCell ⟨rb, 0, none⟩ a).cell? ⟨rb, 1, none⟩ = some u1 := (World.cell?_setCell_other _ _ _ _ (o (by decide))).trans h1
  have e2 : ((X.setCell ⟨rb, 0, none⟩ a).setCell ⟨rb, 1, none⟩ b).cell? ⟨rb, 2, none⟩ = some u2 := (World.cell?_setCell_other _ _ _ _ (o (by decide))).trans ((World.cell?_setCell_other _ _ _ _ (o (by decide))).trans h2)
  refine ⟨?_, ?_, World.cell?_setCell_same _ _ _ e2, World.grownBy.trans (grown_set _ _ _ _) (World.grownBy.trans (grown_set _ _ _ _) (grown_set _ _ _ _))⟩
  · exact (World.cell?_setCell_other _ _ _ _ (o (by decide))).trans ((World.cell?_setCell_other _ _ _ _ (o (by decide))).trans (World.cell?_setCell_same _ _ _ h0))
  · exact (World.cell?_setCell_other _ _ _ _ (o (by decide))).trans (World.cell?_setCell_same _ _ _ e1)
theorem res50 (tmps : Array Value) (w : World) (b : Nat) (v0 v1 v2 v3 : Value) (ht : tmps.getD 4 undef = .pointer (some ⟨b, 0, none⟩)) (h5 : tmps.getD 5 undef = v3) (h0 : w.cell? ⟨b, 0, none⟩ = some v0) (h1 : w.cell? ⟨b, 1, none⟩ = some v1) (h2 : w.cell? ⟨b, 2, none⟩ = some v2) :
    (results Try.f50 tmps).run Try.prog w = .ok (.tuple #[.agg #[v0, v1, v2], v3]) w := by
  have ht' : tmps[4]?.getD undef = .pointer (some ⟨b, 0, none⟩) := by simpa using ht
  have h5' : tmps[5]?.getD undef = v3 := by simpa using h5
  simp [results, Try.results50, ht', h5', go_sem, h0, h1, h2]
/-- What step answers. -/
def StepR (C : List (List Int)) (tr rs : List Int) (ta : Option Addr) (tc : Nat) (ra : Option Addr) (rc : Nat) (kf : Int) (e : Ending) (w w' : World) : Prop := w.grownBy w' none ∧
  ((C.findIdx? (hot tr) = none ∧ e = .returned (.tuple #[.agg #[.slice ta tr.length tc, .slice ra rs.length rc, .int .i64 kf], .bool false])) ∨
   (∃ i : Nat, C.findIdx? (hot tr) = some i ∧ (C.getD i []).find? (und tr) = none ∧ e = .returned (.tuple #[.agg #[.slice ta tr.length tc, .slice ra rs.length rc, .int .i64 (i : Int)], .bool false])) ∨
   (∃ (i : Nat) (x : Int) (a : Option Addr) (c : Nat) (a' : Option Addr) (c' : Nat), C.findIdx? (hot tr) = some i ∧ (C.getD i []).find? (und tr) = some x ∧ e = .returned (.tuple #[.agg #[.slice a (tr.length + 1) c, .slice a' (rs.length + 1) c', .int .i64 kf], .bool true]) ∧
      w'.ownsRow w.heap.size 3 1 (.slice a (tr.length + 1) c) (tr.length + 1) (intCells (tr ++ [x])) ∧ w'.ownsRow w.heap.size 3 1 (.slice a' (rs.length + 1) c') (rs.length + 1) (intCells (rs ++ [(i : Int)]))))
set_option maxHeartbeats 16000000 in
set_option maxRecDepth 100000 in
theorem step_calls (V : Nat) (C : List (List Int)) (ca : Option Addr) (cc : Nat) (tr rs : List Int) (ta : Option Addr) (tc : Nat) (ra : Option Addr) (rc : Nat) (kf : Int) (w : World) (h : ClsW w ca cc C) (ht : IntsW w ta tc tr) (hr : IntsW w ra rc rs) (hV : V ≤ 40)
    (hC : C.length ≤ 1000) (hL : ∀ c ∈ C, c.length ≤ 100) (hR : Ran V C) (htl : tr.length ≤ 1000) (hrl : rs.length ≤ 1000) :
    Calls Try.prog 50 #[.agg #[.int .i64 (V : Int), .slice ca C.length cc], .agg #[.slice ta tr.length tc, .slice ra rs.length rc, .int .i64 kf]] w fun e w' => StepR C tr rs ta tc ra rc kf e w w' := by
  obtain ⟨n, hn⟩ : ∃ n, C.length = n := ⟨_, rfl⟩
  obtain ⟨tn, htn⟩ : ∃ n, tr.length = n := ⟨_, rfl⟩
  obtain ⟨rn, hrn⟩ : ∃ n, rs.length = n := ⟨_, rfl⟩
  obtain ⟨P, hP⟩ : ∃ P : Ending → World → Prop, (fun e w' => StepR C tr rs ta tc ra rc kf e w w') = P := ⟨_, rfl⟩
  have HP := Lib.hid hP
  rw [hP]
  obtain ⟨W1, hW1⟩ : ∃ z, w.alloc (.cells #[.int .i64 (V : Int), .slice ca n cc] 24) = z := ⟨_, rfl⟩
  obtain ⟨W2, hW2⟩ : ∃ z, W1.alloc (.cells #[.slice ta tn tc, .slice ra rn rc, .int .i64 kf] 57) = z := ⟨_, rfl⟩
  obtain ⟨W3, hW3⟩ : ∃ z, W2.alloc (.cells #[.slice none 0 0, .slice none 0 0, .int .i64 0] 57) = z := ⟨_, rfl⟩
  obtain ⟨q0, q1, hg1⟩ := box_at w _ _ hW1
  obtain ⟨t0, t1, t2, tf, hg2⟩ := cell_three_new W1 _ _ _ 57 hW2
  obtain ⟨s0, s1, s2, sf, hg3⟩ := cell_three_new W2 _ _ _ 57 hW3
  obtain ⟨bf, hbf⟩ : ∃ z, w.heap.size = z := ⟨_, rfl⟩
  obtain ⟨bt, hbt⟩ : ∃ z, W1.heap.size = z := ⟨_, rfl⟩
  obtain ⟨rb, hrb⟩ : ∃ z, W2.heap.size = z := ⟨_, rfl⟩
  have hlt : bf < bt ∧ bt < rb := ⟨by rw [← hbt, ← hbf]; exact lies_lt q1, by rw [← hrb, ← hbt]; exact lies_lt t1⟩
  rw [hbf] at q0 q1
  rw [hbt] at t0 t1 t2 tf
  rw [hrb] at s0 s1 s2 sf
  have HG := Lib.hid (World.grownBy.trans hg1 (World.grownBy.trans hg2 hg3))
  have HRW := Lib.hid hr
  have HC := Lib.hid (And.intro (h.grown HG.out) (And.intro hn (And.intro hL hR)))
  have HT := Lib.hid (And.intro (ht.grown HG.out) (And.intro htn (And.intro (hr.grown HG.out) hrn)))
  have HQ := Lib.hid (And.intro (hg3.cell (hg2.cell q0 (by simp)) (by simp)) (hg3.cell (hg2.cell q1 (by simp)) (by simp)))
  have HB := Lib.hid (And.intro (hg3.cell t0 (by simp)) (And.intro (hg3.cell t1 (by simp)) (And.intro (hg3.cell t2 (by simp)) (fun o => (grown_frozen hg3 (b := bt) (by have := hlt.2; omega) o).trans (tf o)))))
  have HS := Lib.hid (And.intro s0 (And.intro s1 (And.intro s2 sf)))
  have HLT := Lib.hid (And.intro hlt (And.intro hbf (show bt < W3.heap.size ∧ rb < W3.heap.size from by have h0 : rb < W3.heap.size := lies_lt s0; have := hlt.2; omega)))
  rw [hn, htn, hrn]
  rw [hn] at hC
  rw [htn] at htl
  rw [hrn] at hrl
  clear h ht hr hL hR hn htn hrn hP q0 q1 t0 t1 t2 tf s0 s1 s2 sf hg1 hg2 hg3 hlt
  have p1 := HQ.out.2
  go_enter Try.func50, Try.ntmps50
  go_wp2_with fail
  clear hW1 hW2 hW3 hbf hbt hrb p1
  go_loopg [6] n (fun gk s6 wr => ∃ k : Nat, s6 = .int .i64 (k : Int) ∧ gk = n - k ∧ k ≤ n ∧ (∃ q, wr = W3.drewN q) ∧ (C.take k).all (fun c => !hot tr c) = true)
  case atStart => exact ⟨0, rfl, rfl, by omega, ⟨0, rfl⟩, by simp⟩
  case round =>
    obtain ⟨k, rfl, hgk, hk, ⟨q, rfl⟩, hbef⟩ := hrel
    have HI := Lib.hid (And.intro hgk hbef)
    clear hgk hbef
    have c1 := HQ.out.2
    have e0 := HB.out.1
    have e1 := HB.out.2.1
    have e2 := HB.out.2.2.1
    by_cases hkn : k < n
    · have f1 : decide ((k : Int) < (n : Int)) = true := decide_eq_true (by omega)
      have f1' : decide (k < n) = true := decide_eq_true hkn
      have i0 : (0 : Int) ≤ (k : Int) := by omega
      have i1 : (k : Int) < (n : Int) := by omega
      have k1 : IntKind.i64.wrap ((k : Int) + 1) = (k : Int) + 1 := IntWalk.i64_in _ (by omega)
      obtain ⟨z, hz⟩ : ∃ z, C[k]? = some z := ⟨_, List.getElem?_eq_getElem (by rw [HC.out.2.1]; exact hkn)⟩
      obtain ⟨b, o, a', c', rfl, hcell0, hints⟩ := HC.out.1.at hz
      have hcell := hcell0
      have hcall := fun m => status_calls z tr a' ta c' tc (W3.drewN m) (hints.grown (grown_drewN _ _ none)) (HT.out.1.grown (grown_drewN _ _ none)) (by have := HC.out.2.2.1 z (List.mem_of_getElem? hz); omega) (by rw [HT.out.2.1]; omega) (fun x hx => by obtain ⟨a0, a1, a2⟩ := HC.out.2.2.2 z (List.mem_of_getElem? hz) x hx; exact ⟨a0, by omega, by omega⟩)
      rw [HT.out.2.1] at hcall
      obtain ⟨l, hl⟩ : ∃ l, z.length = l := ⟨_, rfl⟩
      rw [hl] at hcell hcall
      obtain ⟨s1, hs1⟩ : ∃ s, (stP tr z).1 = s := ⟨_, rfl⟩
      obtain ⟨s2, hs2⟩ : ∃ s, (stP tr z).2 = s := ⟨_, rfl⟩
      rw [hs1, hs2] at hcall
      have HCA := Lib.hid hcall
      have HZ := Lib.hid (And.intro hz (And.intro hs1 hs2))
      clear hz hcell0 hints hcall hl hs1 hs2
      go_wp2_with fail
      go_quiet ((go_at_call 28; exact (HCA.out _).mono fun _ _ h => ⟨h.1, _, h.2⟩))
      rw [drew_twice]
      obtain ⟨q2, hq2⟩ : ∃ m, q + nq = m := ⟨_, rfl⟩
      rw [hq2]
      clear hq2 hcell c1 HCA
      cases hh : hot tr z
      case false =>
        obtain ⟨h1, h2⟩ : s1 = 0 ∧ s2 = 0 := by rw [← HZ.out.2.1, ← HZ.out.2.2]; unfold stP; rw [hh]; exact ⟨rfl, rfl⟩
        subst h1 h2
        have HN : Hid ((C.take (k + 1)).all (fun c => !hot tr c) = true) := Lib.hid (by rw [ctake HZ.out.1, HI.out.2, hh]; rfl)
        clear hh e0 e1 e2
        go_wp2_with fail
        go_roundg (n - (k + 1))
        case measure => rw [HI.out.1]; omega
        case rel => exact ⟨k + 1, rfl, rfl, by omega, ⟨_, rfl⟩, HN.out⟩
      have HF := Lib.hid (And.intro (idx_first HZ.out.1 HI.out.2 hh) (getD_of HZ.out.1))
      have r0 := HS.out.1
      have r1 := HS.out.2.1
      have r2 := HS.out.2.2.1
      have rf0 := HS.out.2.2.2 0
      have rf1 := HS.out.2.2.2 1
      have rf2 := HS.out.2.2.2 2
      have tf0 := HB.out.2.2.2 0
      have tf1 := HB.out.2.2.2 1
      have tf2 := HB.out.2.2.2 2
      have hne : (bt = rb) = False := by simp; have := HLT.out.1.2; omega
      have hne' : (rb = bt) = False := by simp; have := HLT.out.1.2; omega
      cases hfu : z.find? (und tr)
      case none =>
        obtain ⟨h1, h2⟩ : s1 = 1 ∧ s2 = 0 := by rw [← HZ.out.2.1, ← HZ.out.2.2]; unfold stP; rw [hh, hfu]; exact ⟨rfl, rfl⟩
        subst h1 h2
        have HFU := Lib.hid hfu
        clear hh hfu
        go_wp2_with fail
        obtain ⟨X, hX⟩ : ∃ z, (W3.drewN q2).setCell ⟨bt, 2, none⟩ (.int .i64 (k : Int)) = z := ⟨_, rfl⟩
        rw [hX]
        have hgX : W3.grownBy X (some bt) := by rw [← hX]; exact World.grownBy.trans (grown_drewN _ _ _) (grown_set _ _ _ _)
        obtain ⟨Z, hZ⟩ : ∃ z, ((X.setCell ⟨rb, 0, none⟩ (.slice ta tn tc)).setCell ⟨rb, 1, none⟩ (.slice ra rn rc)).setCell ⟨rb, 2, none⟩ (.int .i64 (k : Int)) = z := ⟨_, rfl⟩
        have hbr : some rb ≠ some bt := by intro e; cases e; have := HLT.out.1.2; omega
        obtain ⟨z0, z1, z2, hgZ⟩ := set_three _ _ _ (hgX.cell r0 hbr) (hgX.cell r1 hbr) (hgX.cell r2 hbr) hZ
        rw [hZ]
        have HE := Lib.hid (grown_own (grown_own HG.out hgX (fun b e => by cases e; rw [HLT.out.2.1]; have := HLT.out.1.1; omega)) hgZ (fun b e => by cases e; rw [HLT.out.2.1]; have := HLT.out.1; omega))
        refine bodyPost_ret (v := .tuple #[.agg #[.slice ta tn tc, .slice ra rn rc, .int .i64 (k : Int)], .bool false]) (res50 _ _ rb _ _ _ _ rfl rfl z0 z1 z2) rfl ?_
        rw [← HP.out]
        exact ⟨HE.out, .inr (.inl ⟨k, HF.out.1, by rw [HF.out.2]; exact HFU.out, by rw [HT.out.2.1, HT.out.2.2.2]⟩)⟩
      case some x =>
        obtain ⟨h1, h2⟩ : s1 = 2 ∧ s2 = x := by rw [← HZ.out.2.1, ← HZ.out.2.2]; unfold stP; rw [hh, hfu]; exact ⟨rfl, rfl⟩
        subst h1 h2
        have HFU := Lib.hid hfu
        have HR := Lib.hid (And.intro r0 (And.intro r1 (And.intro r2 (And.intro rf0 (And.intro rf1 rf2)))))
        have HTF := Lib.hid (And.intro tf0 (And.intro tf1 tf2))
        clear hh hfu r0 r1 r2 rf0 rf1 rf2 tf0 tf1 tf2
        obtain ⟨Wd, hWd⟩ : ∃ z, W3.drewN q2 = z := ⟨_, rfl⟩
        have hgd : W3.grownBy Wd none := by rw [← hWd]; exact grown_drewN _ _ _
        rw [hWd]
        replace e0 := hgd.cell e0 (by simp)
        have HGD := Lib.hid hgd
        have hown0 := own_empty Wd
        have hg5 := World.grownBy_alloc Wd (.cells #[] 3) none
        obtain ⟨W5, hW5⟩ : ∃ z, Wd.alloc (.cells #[] 3) = z := ⟨_, rfl⟩
        obtain ⟨b5, hb5⟩ : ∃ z, Wd.heap.size = z := ⟨_, rfl⟩
        rw [hW5] at hown0 hg5
        rw [hb5] at hown0
        replace e0 := hg5.cell e0 (by simp)
        have HO := Lib.hid (And.intro hown0 (And.intro hg5 (And.intro hb5 (show rb < b5 from by have h1 := hgd.size; have h2 := HLT.out.2.2.2; omega))))
        clear hown0 hg5 hgd hWd e1 e2
        go_wp2_with (at_builtin; refine wpList_appI rfl _ _ rfl b5 (some ⟨b5, 0, none⟩) 0 0 [] tr ta tc tn rfl rfl HO.out.1 (HT.out.1.grown (World.grownBy.trans HGD.out HO.out.2.1)) HT.out.2.1 (by omega) (by rw [← HO.out.2.2.1]; exact HO.out.2.1.size) tr rfl tn (Nat.zero_add _) ?_)
        intro xa xc w6 hown6 hg6
        have HO6 := Lib.hid (And.intro hown6 (grown_own HO.out.2.1 hg6 (fun r e => by cases e; rw [HO.out.2.2.1]; exact Nat.le_refl _)))
        clear hown6 hg6 hW5 hb5 e0
        obtain ⟨i0, hi0, hz0, hz1, hz2⟩ := info_parts info3
        have hsz6 : b5 ≤ w6.heap.size := by rw [← HO.out.2.2.1]; exact HO6.out.2.size
        have hbt5 : bt < b5 := by have h1 := HLT.out.1.2; have h2 := HO.out.2.2.2; omega
        go_wp2_with (at_builtin; refine wpList_append_own_at _ rfl _ _ 25 rfl b5 3 i0 (.int .i64 0) 1 8 Try.underlying25 hi0 hz0 hz1 hz2 rfl (by decide) _ tn (intCells tr) rfl (HO6.out.1.alloc _) ⟨w6.heap.size, 0, none⟩ 1 1 [.int .i64 s2] rfl rfl (cell_one_new _ _ _) (fun u hu => by simp at hu; subst hu; rfl) (by unfold maxLen; omega) (by omega) (by simp; omega) ?_)
        intro v7 w7 hown7 hgrow7 _ _
        obtain ⟨ya, yc, rfl⟩ := own_shape hown7
        have hg7 : Wd.grownBy w7 none := grown_own HO6.out.2 ((World.grownBy_alloc w6 _ _).trans hgrow7) (fun r e => by rw [HO.out.2.2.1]; exact own_low HO6.out.1 r e)
        have hg37 := World.grownBy.trans HGD.out hg7
        obtain ⟨X, hX⟩ : ∃ z, w7.setCell ⟨bt, 0, none⟩ (.slice ya (tn + 1) yc) = z := ⟨_, rfl⟩
        have hgX : w7.grownBy X (some bt) := by rw [← hX]; exact grown_set _ _ _ _
        have e0 := hg37.cell HB.out.1 (by simp)
        have t0 : w7.frozen? ⟨bt, 0, none⟩ = false := (grown_frozen hg37 HLT.out.2.2.1 0).trans HTF.out.1
        have x0 : X.cell? ⟨bt, 0, none⟩ = some (.slice ya (tn + 1) yc) := by rw [← hX]; exact World.cell?_setCell_same _ _ _ e0
        have x1 : X.cell? ⟨bt, 1, none⟩ = some (.slice ra rn rc) := by rw [← hX]; exact (World.cell?_setCell_other _ _ _ _ (by intro e; cases e)).trans (hg37.cell HB.out.2.1 (by simp))
        have x2 : X.cell? ⟨bt, 2, none⟩ = some (.int .i64 kf) := by rw [← hX]; exact (World.cell?_setCell_other _ _ _ _ (by intro e; cases e)).trans (hg37.cell HB.out.2.2.1 (by simp))
        have xf : ∀ o, X.frozen? ⟨bt, o, none⟩ = false := fun o => by rw [← hX, World.frozen?_setCell]; exact (grown_frozen hg37 HLT.out.2.2.1 o).trans (HB.out.2.2.2 o)
        have hownX := hown7.kept hgX (own_ne hown7 hbt5)
        have hg3X : W3.grownBy X (some bt) := World.grownBy.trans (World.grownBy.but hg37 _) hgX
        have hgwX : w.grownBy X none := grown_own HG.out hg3X (fun b e => by cases e; rw [HLT.out.2.1]; have := HLT.out.1.1; omega)
        have HX := Lib.hid (And.intro hgwX (And.intro hg3X (And.intro hownX (And.intro xf (HRW.out.grown hgwX)))))
        have hown8 := own_empty X
        have hg8 := World.grownBy_alloc X (.cells #[] 3) none
        obtain ⟨W8, hW8⟩ : ∃ z, X.alloc (.cells #[] 3) = z := ⟨_, rfl⟩
        obtain ⟨b8, hb8⟩ : ∃ z, X.heap.size = z := ⟨_, rfl⟩
        rw [hW8] at hown8 hg8
        rw [hb8] at hown8
        have hbt8 : bt < b8 := by have h1 := hgX.size; have h2 := HO6.out.2.size; have h3 := hg7.size; have h4 := HO.out.2.2.1; omega
        have HO8 := Lib.hid (And.intro hown8 (And.intro hg8 hb8))
        have HX2 := Lib.hid (And.intro x0 x2)
        have HX1 := Lib.hid x1
        have y1 := hg8.cell x1 (by simp)
        clear hown7 hgrow7 hg7 hg37 hgX x0 x2 hownX hg3X hgwX hown8 hg8 x1 xf
        go_wp2_with (at_builtin; refine wpList_appI rfl _ _ rfl b8 (some ⟨b8, 0, none⟩) 0 0 [] rs ra rc rn rfl rfl HO8.out.1 (HX.out.2.2.2.2.grown HO8.out.2.1) HT.out.2.2.2 (by omega) (by rw [← HO8.out.2.2]; exact HO8.out.2.1.size) rs rfl rn (Nat.zero_add _) ?_)
        intro za zc w9 hown9 hg9
        have HO9 := Lib.hid (And.intro hown9 (grown_own HO8.out.2.1 hg9 (fun r e => by cases e; rw [HO8.out.2.2]; exact Nat.le_refl _)))
        have hsz9 : b8 ≤ w9.heap.size := by rw [← HO8.out.2.2]; exact HO9.out.2.size
        clear hown9 hg9 hW8 hb8 y1 hX e0 t0
        go_wp2_with (at_builtin; refine wpList_append_own_at _ rfl _ _ 25 rfl b8 3 i0 (.int .i64 0) 1 8 Try.underlying25 hi0 hz0 hz1 hz2 rfl (by decide) _ rn (intCells rs) rfl (HO9.out.1.alloc _) ⟨w9.heap.size, 0, none⟩ 1 1 [.int .i64 (k : Int)] rfl rfl (cell_one_new _ _ _) (fun u hu => by simp at hu; subst hu; rfl) (by unfold maxLen; omega) (by omega) (by simp; omega) ?_)
        intro v10 wA hownA hgrowA _ _
        obtain ⟨ka, kc, rfl⟩ := own_shape hownA
        have hgA : X.grownBy wA none := grown_own HO9.out.2 ((World.grownBy_alloc w9 _ _).trans hgrowA) (fun r e => by rw [HO8.out.2.2]; exact own_low HO9.out.1 r e)
        have e0 := hgA.cell HX2.out.1 (by simp)
        have e2 := hgA.cell HX2.out.2 (by simp)
        have e1 := hgA.cell HX1.out (by simp)
        have tf0 : wA.frozen? ⟨bt, 1, none⟩ = false := (grown_frozen hgA (lies_lt HX1.out) 1).trans (HX.out.2.2.2.1 1)
        have hbrr : some rb ≠ some bt := by intro e; cases e; have := HLT.out.1.2; omega
        have hrc : ∀ (o : Nat) (u : Value), W3.cell? ⟨rb, o, none⟩ = some u → wA.cell? ⟨rb, o, none⟩ = some u := fun o u hu => hgA.cell (HX.out.2.1.cell hu hbrr) (by simp)
        have r0 := hrc 0 _ HR.out.1
        have r1 := hrc 1 _ HR.out.2.1
        have r2 := hrc 2 _ HR.out.2.2.1
        have hrf : ∀ (o : Nat), W3.frozen? ⟨rb, o, none⟩ = false → wA.frozen? ⟨rb, o, none⟩ = false := fun o hu => (World.frozen?_of_block (a := ⟨rb, o, none⟩) ((hgA.block rb (by have h1 := HX.out.2.1.size; have h2 := HLT.out.2.2.2; omega) (by simp)).trans (HX.out.2.1.block rb HLT.out.2.2.2 hbrr))).trans hu
        have rf0 := hrf 0 HR.out.2.2.2.1
        have rf1 := hrf 1 HR.out.2.2.2.2.1
        have rf2 := hrf 2 HR.out.2.2.2.2.2
        have HA := Lib.hid (And.intro hownA (And.intro hgA (own_grown HX.out.2.2.1 hgA)))
        clear hownA hgrowA hgA hrc hrf
        go_wp2_with fail
        obtain ⟨Y, hY⟩ : ∃ z, wA.setCell ⟨bt, 1, none⟩ (.slice ka (rn + 1) kc) = z := ⟨_, rfl⟩
        rw [hY]
        have hgY : wA.grownBy Y (some bt) := by rw [← hY]; exact grown_set _ _ _ _
        obtain ⟨Z, hZ⟩ : ∃ z, ((Y.setCell ⟨rb, 0, none⟩ (.slice ya (tn + 1) yc)).setCell ⟨rb, 1, none⟩ (.slice ka (rn + 1) kc)).setCell ⟨rb, 2, none⟩ (.int .i64 kf) = z := ⟨_, rfl⟩
        obtain ⟨z0, z1, z2, hgZ⟩ := set_three _ _ _ (hgY.cell r0 hbrr) (hgY.cell r1 hbrr) (hgY.cell r2 hbrr) hZ
        rw [hZ]
        have HE := Lib.hid (grown_own (grown_own (World.grownBy.trans HX.out.1 HA.out.2.1) hgY (fun b e => by cases e; rw [HLT.out.2.1]; have := HLT.out.1.1; omega)) hgZ (fun b e => by cases e; rw [HLT.out.2.1]; have := HLT.out.1; omega))
        have hr8 : rb < b8 := by have h1 := HX.out.2.1.size; have h2 := HLT.out.2.2.2; have h3 := HO8.out.2.2; omega
        have hw5 : w.heap.size ≤ b5 ∧ w.heap.size ≤ b8 := by have h1 := HG.out.size; have h2 := HGD.out.size; have h3 := HO.out.2.2.1; have h4 := HX.out.1.size; have h5 := HO8.out.2.2; omega
        have hrow1 := own_lower (B' := w.heap.size) (xs := intCells (tr ++ [s2])) (by rw [intCells, List.map_append]; exact (HA.out.2.2.kept hgY (own_ne HA.out.2.2 hbt5)).kept hgZ (own_ne (HA.out.2.2.kept hgY (own_ne HA.out.2.2 hbt5)) HO.out.2.2.2)) hw5.1
        have hrow2 := own_lower (B' := w.heap.size) (xs := intCells (rs ++ [(k : Int)])) (by rw [intCells, List.map_append]; exact (HA.out.1.kept hgY (own_ne HA.out.1 hbt8)).kept hgZ (own_ne (HA.out.1.kept hgY (own_ne HA.out.1 hbt8)) hr8)) hw5.2
        refine bodyPost_ret (v := .tuple #[.agg #[.slice ya (tn + 1) yc, .slice ka (rn + 1) kc, .int .i64 kf], .bool true]) (res50 _ _ rb _ _ _ _ rfl rfl z0 z1 z2) rfl ?_
        rw [← HP.out]
        exact ⟨HE.out, .inr (.inr ⟨k, s2, ya, yc, ka, kc, HF.out.1, by rw [HF.out.2]; exact HFU.out, by rw [HT.out.2.1, HT.out.2.2.2], by rw [HT.out.2.1]; exact hrow1, by rw [HT.out.2.2.2]; exact hrow2⟩)⟩
    · have hke : k = n := by omega
      subst hke
      have f1 : decide (k < k) = false := by simp
      have hall := HI.out.2
      rw [← HC.out.2.1, List.take_length] at hall
      have HAL := Lib.hid (idx_none hall)
      have r0 := HS.out.1
      have r1 := HS.out.2.1
      have r2 := HS.out.2.2.1
      have rf0 := HS.out.2.2.2 0
      have rf1 := HS.out.2.2.2 1
      have rf2 := HS.out.2.2.2 2
      clear hall
      go_wp2_with fail
      obtain ⟨Z, hZ⟩ : ∃ z, (((W3.drewN q).setCell ⟨rb, 0, none⟩ (.slice ta tn tc)).setCell ⟨rb, 1, none⟩ (.slice ra rn rc)).setCell ⟨rb, 2, none⟩ (.int .i64 kf) = z := ⟨_, rfl⟩
      obtain ⟨z0, z1, z2, hgZ⟩ := set_three (X := W3.drewN q) _ _ _ r0 r1 r2 hZ
      rw [hZ]
      have HE := Lib.hid (grown_own (World.grownBy.trans HG.out (grown_drewN _ q none)) hgZ (fun b e => by cases e; rw [HLT.out.2.1]; have := HLT.out.1; omega))
      refine bodyPost_ret (v := .tuple #[.agg #[.slice ta tn tc, .slice ra rn rc, .int .i64 kf], .bool false]) (res50 _ _ rb _ _ _ _ rfl rfl z0 z1 z2) rfl ?_
      rw [← HP.out]
      exact ⟨HE.out, .inl ⟨HAL.out, by rw [HT.out.2.1, HT.out.2.2.2]⟩⟩
end Go.Proofs.Ythkemajekkilmaa
/- The reference's trail in memory. -/
namespace Go.Proofs.Ythkemajekkilmaa
open Go.RowKit
/-- The trail's box, with its own two rows; beside it the result's box. -/
structure RB (W1 : World) (bt rb B : Nat) (w : World) (tr rs : List Int) (la : Option Addr) (lc : Nat) (ra : Option Addr) (rc : Nat) : Prop where
  g : W1.grownBy w none
  c0 : w.cell? ⟨bt, 0, none⟩ = some (.slice la tr.length lc)
  c1 : w.cell? ⟨bt, 1, none⟩ = some (.slice ra rs.length rc)
  c2 : w.cell? ⟨bt, 2, none⟩ = some (.int .i64 (-1))
  fr : ∀ o, w.frozen? ⟨bt, o, none⟩ = false
  r0 : w.cell? ⟨rb, 0, none⟩ = some (.slice none 0 0)
  r1 : w.cell? ⟨rb, 1, none⟩ = some (.slice none 0 0)
  r2 : w.cell? ⟨rb, 2, none⟩ = some (.int .i64 0)
  rf : ∀ o, w.frozen? ⟨rb, o, none⟩ = false
  o0 : w.ownsRow B 3 1 (.slice la tr.length lc) tr.length (intCells tr)
  o1 : w.ownsRow B 3 1 (.slice ra rs.length rc) rs.length (intCells rs)
  ne : ∀ b, (Value.slice la tr.length lc).ownBlock = some b → (Value.slice ra rs.length rc).ownBlock ≠ some b
  hB : B ≤ w.heap.size
  lt : W1.heap.size ≤ rb ∧ rb < bt ∧ bt < B
theorem RB.grown {W1 : World} {bt rb B : Nat} {w w' : World} {tr rs : List Int} {la : Option Addr} {lc : Nat} {ra : Option Addr} {rc : Nat} (h : RB W1 bt rb B w tr rs la lc ra rc) (hg : w.grownBy w' none) : RB W1 bt rb B w' tr rs la lc ra rc :=
  ⟨World.grownBy.trans h.g hg, hg.cell h.c0 (by simp), hg.cell h.c1 (by simp), hg.cell h.c2 (by simp), fun o => (grown_frozen hg (lies_lt h.c0) o).trans (h.fr o), hg.cell h.r0 (by simp), hg.cell h.r1 (by simp), hg.cell h.r2 (by simp), fun o => (grown_frozen hg (lies_lt h.r0) o).trans (h.rf o),
    own_grown h.o0 hg, own_grown h.o1 hg, h.ne, Nat.le_trans h.hB hg.size, h.lt⟩
theorem RB.put {W1 : World} {bt rb B : Nat} {w w1 : World} {tr rs : List Int} {la : Option Addr} {lc : Nat} {ra : Option Addr} {rc : Nat} (h : RB W1 bt rb B w tr rs la lc ra rc) {r : Option Nat} (hr : ∀ b, r = some b → B ≤ b) (hg : w.grownBy w1 r) {i : Nat} (hi : i < 2) (v : Value) :
    W1.grownBy (w1.setCell ⟨bt, i, none⟩ v) none ∧ (∀ (j : Nat) (u : Value), j ≠ i → w.cell? ⟨bt, j, none⟩ = some u → (w1.setCell ⟨bt, i, none⟩ v).cell? ⟨bt, j, none⟩ = some u) ∧ (w1.setCell ⟨bt, i, none⟩ v).cell? ⟨bt, i, none⟩ = some v ∧ (∀ o, (w1.setCell ⟨bt, i, none⟩ v).frozen? ⟨bt, o, none⟩ = false) ∧
    (∀ (j : Nat) (u : Value), w.cell? ⟨rb, j, none⟩ = some u → (w1.setCell ⟨bt, i, none⟩ v).cell? ⟨rb, j, none⟩ = some u) ∧ (∀ o, (w1.setCell ⟨bt, i, none⟩ v).frozen? ⟨rb, o, none⟩ = false) ∧ w1.grownBy (w1.setCell ⟨bt, i, none⟩ v) (some bt) ∧ B ≤ (w1.setCell ⟨bt, i, none⟩ v).heap.size := by
  obtain ⟨l1, l2, l3⟩ := h.lt
  have hn : ∀ b, b < B → some b ≠ r := fun b hb e => by have := hr b e.symm; omega
  have hgs := grown_set w1 bt i v
  have hb : ∀ (j : Nat) (u : Value), w.cell? ⟨bt, j, none⟩ = some u → w1.cell? ⟨bt, j, none⟩ = some u := fun j u hu => hg.cell hu (hn bt l3)
  refine ⟨grown_own (grown_own h.g hg (fun b e => by have := hr b e; omega)) hgs (fun b e => by cases e; omega), fun j u hj hu => ?_, ?_, fun o => ?_, fun j u hu => ?_, fun o => ?_, hgs, Nat.le_trans h.hB (Nat.le_trans hg.size hgs.size)⟩
  · rw [World.cell?_setCell_other]
    · exact hb j u hu
    · intro e; exact hj (by injection e with _ e2 _; first | exact e2 | exact e2.symm)
  · match i, hi with
    | 0, _ => exact World.cell?_setCell_same _ _ _ (hb 0 _ h.c0)
    | 1, _ => exact World.cell?_setCell_same _ _ _ (hb 1 _ h.c1)
  · rw [World.frozen?_setCell]
    exact (World.frozen?_of_block (a := ⟨bt, o, none⟩) (hg.block bt (lies_lt h.c0) (hn bt l3))).trans (h.fr o)
  · exact hgs.cell (hg.cell hu (hn rb (by omega))) (by simp; omega)
  · rw [World.frozen?_setCell]
    exact (World.frozen?_of_block (a := ⟨rb, o, none⟩) (hg.block rb (lies_lt h.r0) (hn rb (by omega)))).trans (h.rf o)
theorem RB.app0 {W1 : World} {bt rb B : Nat} {w w1 : World} {tr rs : List Int} {la : Option Addr} {lc : Nat} {ra : Option Addr} {rc : Nat} (h : RB W1 bt rb B w tr rs la lc ra rc) (hg : w.grownBy w1 (Value.slice la tr.length lc).ownBlock) {a : Option Addr} {c : Nat} {x : Int}
    (hown : w1.ownsRow B 3 1 (.slice a (tr.length + 1) c) (tr.length + 1) (intCells tr ++ [.int .i64 x])) (hat : (Value.slice a (tr.length + 1) c).ownBlock = (Value.slice la tr.length lc).ownBlock ∨ ∃ b, (Value.slice a (tr.length + 1) c).ownBlock = some b ∧ w.heap.size ≤ b) :
    RB W1 bt rb B (w1.setCell ⟨bt, 0, none⟩ (.slice a (tr.length + 1) c)) (tr ++ [x]) rs a c ra rc := by
  obtain ⟨g1, g2, g3, g4, g5, g6, g7, g8⟩ := h.put (own_low h.o0) hg (i := 0) (by decide) (.slice a (tr.length + 1) c)
  have hr1 : w1.ownsRow B 3 1 (.slice ra rs.length rc) rs.length (intCells rs) := h.o1.kept hg (by
    cases hv : (Value.slice ra rs.length rc).ownBlock with
    | none => exact .inl rfl
    | some b => exact .inr (fun e => h.ne b e.symm hv))
  have hl : (tr ++ [x]).length = tr.length + 1 := by simp
  refine ⟨g1, by rw [hl]; exact g3, g2 1 _ (by decide) h.c1, g2 2 _ (by decide) h.c2, g4, g5 0 _ h.r0, g5 1 _ h.r1, g5 2 _ h.r2, g6, ?_, hr1.kept g7 (own_ne hr1 h.lt.2.2), ?_, g8, h.lt⟩
  · rw [hl, intCells, List.map_append]
    exact hown.kept g7 (own_ne hown h.lt.2.2)
  · intro b hb hr
    rw [hl] at hb
    rcases hat with h1 | ⟨b', h1, h2⟩
    · rw [h1] at hb; exact h.ne b hb hr
    · rw [h1] at hb
      cases hb
      have h3 : b < w.heap.size := by
        rcases h.o1.2 with ⟨e, _⟩ | ⟨g, cap, cur, e, _, hc, _⟩
        · rw [e] at hr; cases hr
        · rw [e] at hr; cases hr; exact (Array.getElem?_eq_some_iff.1 hc).1
      omega
theorem RB.app1 {W1 : World} {bt rb B : Nat} {w w1 : World} {tr rs : List Int} {la : Option Addr} {lc : Nat} {ra : Option Addr} {rc : Nat} (h : RB W1 bt rb B w tr rs la lc ra rc) (hg : w.grownBy w1 (Value.slice ra rs.length rc).ownBlock) {a : Option Addr} {c : Nat} {x : Int}
    (hown : w1.ownsRow B 3 1 (.slice a (rs.length + 1) c) (rs.length + 1) (intCells rs ++ [.int .i64 x])) (hat : (Value.slice a (rs.length + 1) c).ownBlock = (Value.slice ra rs.length rc).ownBlock ∨ ∃ b, (Value.slice a (rs.length + 1) c).ownBlock = some b ∧ w.heap.size ≤ b) :
    RB W1 bt rb B (w1.setCell ⟨bt, 1, none⟩ (.slice a (rs.length + 1) c)) tr (rs ++ [x]) la lc a c := by
  obtain ⟨g1, g2, g3, g4, g5, g6, g7, g8⟩ := h.put (own_low h.o1) hg (i := 1) (by decide) (.slice a (rs.length + 1) c)
  have hr1 : w1.ownsRow B 3 1 (.slice la tr.length lc) tr.length (intCells tr) := h.o0.kept hg (by
    cases hv : (Value.slice la tr.length lc).ownBlock with
    | none => exact .inl rfl
    | some b => exact .inr (fun e => h.ne b hv e.symm))
  have hl : (rs ++ [x]).length = rs.length + 1 := by simp
  refine ⟨g1, g2 0 _ (by decide) h.c0, by rw [hl]; exact g3, g2 2 _ (by decide) h.c2, g4, g5 0 _ h.r0, g5 1 _ h.r1, g5 2 _ h.r2, g6, hr1.kept g7 (own_ne hr1 h.lt.2.2), ?_, ?_, g8, h.lt⟩
  · rw [hl, intCells, List.map_append]
    exact hown.kept g7 (own_ne hown h.lt.2.2)
  · intro b hb hr
    rw [hl] at hr
    rcases hat with h1 | ⟨b', h1, h2⟩
    · rw [h1] at hr; exact h.ne b hb hr
    · rw [h1] at hr
      cases hr
      have h3 : b < w.heap.size := by
        rcases h.o0.2 with ⟨e, _⟩ | ⟨g, cap, cur, e, _, hc, _⟩
        · rw [e] at hb; cases hb
        · rw [e] at hb; cases hb; exact (Array.getElem?_eq_some_iff.1 hc).1
      omega
/-- A row that is read, in a block that is neither of two. -/
def IntsN (w : World) (bt rb : Nat) (a : Option Addr) (c : Nat) (l : List Int) : Prop := IntsW w a c l ∧ (l = [] ∨ ∃ b o, a = some ⟨b, o, none⟩ ∧ b ≠ bt ∧ b ≠ rb)
theorem IntsN.grown {w w' : World} {bt rb : Nat} {a : Option Addr} {c : Nat} {l : List Int} (h : IntsN w bt rb a c l) (hg : w.grownBy w' none) : IntsN w' bt rb a c l := ⟨h.1.grown hg, h.2⟩
theorem IntsN.off {w w' : World} {bt rb : Nat} {a : Option Addr} {c : Nat} {l : List Int} (h : IntsN w bt rb a c l) {r : Nat} (hr : r = bt ∨ r = rb) (hg : w.grownBy w' (some r)) : IntsN w' bt rb a c l := by
  refine ⟨⟨h.1.1, ?_⟩, h.2⟩
  rcases h.2 with h2 | ⟨b, o, e, hne, hne'⟩
  · exact .inl h2
  · rcases h.1.2 with h3 | ⟨b', o', e', h3⟩
    · exact .inl h3
    · rw [e] at e'
      cases e'
      exact .inr ⟨b, o, e, fun j z hj => hg.cell (h3 j z hj) (by simp; omega)⟩
theorem IntsN.own {w : World} {B bt rb : Nat} {a : Option Addr} {c n : Nat} {l : List Int} (h : w.ownsRow B 3 1 (.slice a n c) n (intCells l)) (hb : bt < B) (hr : rb < B) : IntsN w bt rb a c l := by
  refine ⟨(own_ints h).2, ?_⟩
  rcases h.2 with ⟨_, h0⟩ | ⟨g, cap, cur, e, hB, _⟩
  · exact .inl (List.eq_nil_of_length_eq_zero (by rw [(own_ints h).1]; exact h0))
  · injection e with e1 _ _
    exact .inr ⟨g, 0, e1, by omega, by omega⟩
/-- The trail's box, its rows only read. -/
structure RC (W1 : World) (bt rb : Nat) (w : World) (tr rs : List Int) (kf : Int) (la : Option Addr) (lc : Nat) (ra : Option Addr) (rc : Nat) : Prop where
  g : W1.grownBy w none
  c0 : w.cell? ⟨bt, 0, none⟩ = some (.slice la tr.length lc)
  c1 : w.cell? ⟨bt, 1, none⟩ = some (.slice ra rs.length rc)
  c2 : w.cell? ⟨bt, 2, none⟩ = some (.int .i64 kf)
  fr : ∀ o, w.frozen? ⟨bt, o, none⟩ = false
  r0 : w.cell? ⟨rb, 0, none⟩ = some (.slice none 0 0)
  r1 : w.cell? ⟨rb, 1, none⟩ = some (.slice none 0 0)
  r2 : w.cell? ⟨rb, 2, none⟩ = some (.int .i64 0)
  rf : ∀ o, w.frozen? ⟨rb, o, none⟩ = false
  o0 : IntsN w bt rb la lc tr
  o1 : IntsN w bt rb ra rc rs
  lt : W1.heap.size ≤ rb ∧ rb < bt
theorem RB.toRC {W1 : World} {bt rb B : Nat} {w : World} {tr rs : List Int} {la : Option Addr} {lc : Nat} {ra : Option Addr} {rc : Nat} (h : RB W1 bt rb B w tr rs la lc ra rc) : RC W1 bt rb w tr rs (-1) la lc ra rc :=
  ⟨h.g, h.c0, h.c1, h.c2, h.fr, h.r0, h.r1, h.r2, h.rf, IntsN.own h.o0 h.lt.2.2 (by have := h.lt; omega), IntsN.own h.o1 h.lt.2.2 (by have := h.lt; omega), h.lt.1, h.lt.2.1⟩
theorem RC.grown {W1 : World} {bt rb : Nat} {w w' : World} {tr rs : List Int} {kf : Int} {la : Option Addr} {lc : Nat} {ra : Option Addr} {rc : Nat} (h : RC W1 bt rb w tr rs kf la lc ra rc) (hg : w.grownBy w' none) : RC W1 bt rb w' tr rs kf la lc ra rc :=
  ⟨World.grownBy.trans h.g hg, hg.cell h.c0 (by simp), hg.cell h.c1 (by simp), hg.cell h.c2 (by simp), fun o => (grown_frozen hg (lies_lt h.c0) o).trans (h.fr o), hg.cell h.r0 (by simp), hg.cell h.r1 (by simp), hg.cell h.r2 (by simp), fun o => (grown_frozen hg (lies_lt h.r0) o).trans (h.rf o),
    h.o0.grown hg, h.o1.grown hg, h.lt⟩
theorem RC.set {W1 : World} {bt rb : Nat} {w Z : World} {tr rs tr' rs' : List Int} {kf kf' : Int} {la la' : Option Addr} {lc lc' : Nat} {ra ra' : Option Addr} {rc rc' : Nat} (h : RC W1 bt rb w tr rs kf la lc ra rc) (h0 : IntsN w bt rb la' lc' tr') (h1 : IntsN w bt rb ra' rc' rs')
    (hZ : ((w.setCell ⟨bt, 0, none⟩ (.slice la' tr'.length lc')).setCell ⟨bt, 1, none⟩ (.slice ra' rs'.length rc')).setCell ⟨bt, 2, none⟩ (.int .i64 kf') = Z) : RC W1 bt rb Z tr' rs' kf' la' lc' ra' rc' := by
  obtain ⟨z0, z1, z2, hg⟩ := set_three _ _ _ h.c0 h.c1 h.c2 hZ
  have hne : (some rb : Option Nat) ≠ some bt := by intro e; cases e; have := h.lt.2; omega
  refine ⟨grown_own h.g hg (fun b e => by cases e; have := h.lt; omega), z0, z1, z2, fun o => ?_, hg.cell h.r0 hne, hg.cell h.r1 hne, hg.cell h.r2 hne, fun o => ?_, h0.off (.inl rfl) hg, h1.off (.inl rfl) hg, h.lt⟩
  · rw [← hZ, World.frozen?_setCell, World.frozen?_setCell, World.frozen?_setCell]; exact h.fr o
  · rw [← hZ, World.frozen?_setCell, World.frozen?_setCell, World.frozen?_setCell]; exact h.rf o
/-- A step, in one form. -/
theorem step_uni {C : List (List Int)} {tr rs : List Int} {ta : Option Addr} {tc : Nat} {ra : Option Addr} {rc : Nat} {e : Ending} {w w' : World} {bt rb : Nat} (h : StepR C tr rs ta tc ra rc (-1) e w w') (ht : IntsN w bt rb ta tc tr) (hr : IntsN w bt rb ra rc rs) (hb : bt < w.heap.size) (hb' : rb < w.heap.size) :
    w.grownBy w' none ∧ ∃ (tr' rs' : List Int) (kk : Int) (more : Bool) (pa : Option Addr) (pc : Nat) (qa : Option Addr) (qc : Nat), e = .returned (.tuple #[.agg #[.slice pa tr'.length pc, .slice qa rs'.length qc, .int .i64 kk], .bool more]) ∧ IntsN w' bt rb pa pc tr' ∧ IntsN w' bt rb qa qc rs' ∧
      (more = false → tr' = tr ∧ rs' = rs ∧ ∀ (m : Nat) (rs0 : List Int), prop C (m + 1) tr rs0 = (tr, rs0, kk)) ∧
      (more = true → kk = -1 ∧ ∃ (x i : Int), tr' = tr ++ [x] ∧ rs' = rs ++ [i] ∧ ∀ (m : Nat) (rs0 : List Int), prop C (m + 1) tr rs0 = prop C m (tr ++ [x]) (rs0 ++ [i])) := by
  obtain ⟨hg, h1 | ⟨i, h1, h2, h3⟩ | ⟨i, x, a, c, a', c', h1, h2, h3, h4, h5⟩⟩ := h
  · refine ⟨hg, tr, rs, -1, false, ta, tc, ra, rc, h1.2, ht.grown hg, hr.grown hg, fun _ => ⟨rfl, rfl, fun m rs0 => ?_⟩, fun e => by cases e⟩
    conv => lhs; unfold prop
    rw [h1.1]
  · refine ⟨hg, tr, rs, (i : Int), false, ta, tc, ra, rc, h3, ht.grown hg, hr.grown hg, fun _ => ⟨rfl, rfl, fun m rs0 => ?_⟩, fun e => by cases e⟩
    conv => lhs; unfold prop
    rw [h1]
    simp only [h2]
  · refine ⟨hg, tr ++ [x], rs ++ [(i : Int)], -1, true, a, c, a', c', by rw [h3, List.length_append, List.length_append]; rfl, IntsN.own h4 hb hb', IntsN.own h5 hb hb', fun e => (by cases e), fun _ => ⟨rfl, x, (i : Int), rfl, rfl, fun m rs0 => ?_⟩⟩
    conv => lhs; unfold prop
    rw [h1]
    simp only [h2]
end Go.Proofs.Ythkemajekkilmaa

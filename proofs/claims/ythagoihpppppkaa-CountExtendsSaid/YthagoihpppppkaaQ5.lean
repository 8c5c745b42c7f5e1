/- Counting values: Value, the reference's Number and Unary. -/
import Derived.Test.YthagoihpppppkaaQ4
import Derived.Test.YthagoihpppppkaaE3
namespace Go.Proofs.Ythagoihpppppkaa
open Go.RowKit Go.Maps

def numE (gs : List Gt) (vals : List Bool) (u : List Int) : Nat := (u.map (evalC gs vals)).count true
/-- The first m are true and no others. -/
def unE (gs : List Gt) (vals : List Bool) (u : List Int) (m : Int) : Bool := decide (∀ (j : Nat), j < u.length → evalC gs vals (u.getD j 0) = decide ((j : Int) < m)) && decide (m ≤ (u.length : Int))
theorem numE_snoc {gs : List Gt} {vals : List Bool} {u : List Int} {k : Nat} {r : Int} (hr : u[k]? = some r) : numE gs vals (u.take (k + 1)) = numE gs vals (u.take k) + (if evalC gs vals r = true then 1 else 0) := by
  unfold numE
  rw [List.take_add_one, hr, List.map_append, List.count_append]
  show _ + (List.count true [evalC gs vals r]) = _
  cases evalC gs vals r <;> rfl
theorem unE_bad {gs : List Gt} {vals : List Bool} {u : List Int} {m : Int} {k : Nat} {r : Int} (hr : u[k]? = some r) (hb : (evalC gs vals r != decide ((k : Int) < m)) = true) : unE gs vals u m = false := by
  have hk := (List.getElem?_eq_some_iff.1 hr).1
  unfold unE
  rw [decide_eq_false, Bool.false_and]
  intro h
  have h1 := h k hk
  rw [List.getD_eq_getElem?_getD, hr] at h1
  simp only [Option.getD_some] at h1
  rw [h1] at hb
  simp at hb
theorem unE_good {gs : List Gt} {vals : List Bool} {u : List Int} {m : Int} {n : Nat} (hn : u.length = n) (h : ∀ (j : Nat) (r : Int), j < n → u[j]? = some r → evalC gs vals r = decide ((j : Int) < m)) : unE gs vals u m = decide (m ≤ (n : Int)) := by
  subst hn
  unfold unE
  rw [decide_eq_true (fun j hj => h j _ hj (by rw [List.getD_eq_getElem?_getD, List.getElem?_eq_getElem hj]; rfl)), Bool.true_and]
theorem eval_n (gs : List Gt) (vals : List Bool) (r : Int) (q : Bool) {nv : Nat} {a : Option Addr} {c : Nat} {va : Option Addr} {vc : Nat} {w : World} (hn : vals.length = nv) (e : evalC gs vals r = q) (hl : gs.length ≤ 1000) (hl2 : vals.length ≤ 1000) (hG : Good gs) (hr : r ≤ 9223372036854775807) (h : GatesW w a c gs) (hv : BoolsW w va vc vals) :
    Calls Try.prog 46 #[.agg #[.slice a gs.length c], .slice va nv vc, .int .i64 r] w fun x w' => x = .returned (.bool q) ∧ w.grownBy w' none := by
  subst hn e
  exact eval_calls gs vals r a c va vc w h hv hl hl2 (good_bounds hG (by omega)) hr
theorem reval_n (gs : List Gt) (vals : List Bool) (r : Int) (q : Bool) {nv : Nat} {a : Option Addr} {c : Nat} {va : Option Addr} {vc : Nat} {w : World} (hn : vals.length = nv) (e : evalC gs vals r = q) (hl : gs.length ≤ 1000) (hl2 : vals.length ≤ 1000) (hG : Good gs) (hr : r ≤ 9223372036854775807) (h : GatesW w a c gs) (hv : BoolsW w va vc vals) :
    Calls Try.prog 18 #[.agg #[.slice a gs.length c], .slice va nv vc, .int .i64 r] w fun x w' => x = .returned (.bool q) ∧ w.grownBy w' none := by
  subst hn e
  exact reval_calls gs vals r a c va vc w h hG hv hl hl2 hr

set_option maxRecDepth 100000 in
set_option maxHeartbeats 4000000 in
theorem value22_calls (gs : List Gt) (u : List Int) (vals : List Bool) (a : Option Addr) (c : Nat) (b : Option Addr) (d : Nat) (va : Option Addr) (vc : Nat) (w : World) (h : GatesW w a c gs) (hu : IntsW w b d u) (hv : BoolsW w va vc vals) (hG : Good gs) (hl : gs.length ≤ 1000) (hlu : u.length ≤ 1000) (hlv : vals.length ≤ 1000) (hb : ∀ r ∈ u, r ≤ 9223372036854775807) :
    Calls Try.prog 22 #[.agg #[.slice a gs.length c], .slice b u.length d, .slice va vals.length vc] w fun e w' => e = .returned (.int .i64 (numE gs vals u : Int)) ∧ w.grownBy w' none := by
  obtain ⟨n, hn⟩ : ∃ n, u.length = n := ⟨_, rfl⟩
  obtain ⟨nv, hnv⟩ : ∃ n, vals.length = n := ⟨_, rfl⟩
  have HN := Lib.hid hn
  have HNV := Lib.hid hnv
  have hg1 := World.grownBy_alloc w (.cells #[.slice a gs.length c] 32) none
  have hc1 := one_cell w (.slice a gs.length c) 32
  obtain ⟨W1, hW1⟩ : ∃ z, w.alloc (.cells #[.slice a gs.length c] 32) = z := ⟨_, rfl⟩
  rw [hW1] at hg1 hc1
  obtain ⟨bC, hbC⟩ : ∃ z, w.heap.size = z := ⟨_, rfl⟩
  rw [hbC] at hc1
  have HQ := Lib.hid hc1.2.1
  have HW := Lib.hid (h.grown hg1)
  have HU := Lib.hid (hu.grown hg1)
  have HV := Lib.hid (hv.grown hg1)
  have HG := Lib.hid hg1
  have HB := Lib.hid hb
  have HGD := Lib.hid (And.intro hG (And.intro hl hlv))
  rw [hn] at hlu ⊢
  rw [hnv]
  clear h hu hv hG hl hlv hb hn hnv hg1 hc1
  go_enter Try.func22, Try.ntmps22
  go_wp2_with fail
  clear hW1 hbC
  go_loopg [7, 12] n (fun gk s7 s12 wr => ∃ (k m : Nat), s7 = .int .i64 (m : Int) ∧ s12 = .int .i64 (k : Int) ∧ gk = n - k ∧ k ≤ n ∧ m = numE gs vals (u.take k) ∧ m ≤ k ∧ W1.grownBy wr none)
  case atStart => exact ⟨0, 0, rfl, rfl, rfl, Nat.zero_le _, rfl, Nat.le_refl _, grown_refl _ _⟩
  case round =>
    obtain ⟨k, m, rfl, rfl, hgk, hk, hm, hmk, hgr⟩ := hrel
    have HI := Lib.hid hgk; clear hgk
    have HM := Lib.hid hm; clear hm
    have HGR := Lib.hid hgr; clear hgr
    have q1 := HGR.out.cell HQ.out (by simp)
    by_cases hkn : k < n
    · have f1 : decide (k < n) = true := decide_eq_true hkn
      have f2 : decide ((k : Int) < (n : Int)) = true := decide_eq_true (by omega)
      have hk1 : IntKind.i64.wrap ((k : Int) + 1) = ((k + 1 : Nat) : Int) := by rw [IntWalk.i64_in _ (by omega)]; omega
      have hm1 : IntKind.i64.wrap ((m : Int) + 1) = ((m + 1 : Nat) : Int) := by rw [IntWalk.i64_in _ (by omega)]; omega
      have hj0 : (0 : Int) ≤ (k : Int) := by omega
      have hj1 : (k : Int) < (n : Int) := by omega
      obtain ⟨r, hr⟩ : ∃ r, u[k]? = some r := ⟨_, List.getElem?_eq_getElem (by rw [HN.out]; exact hkn)⟩
      obtain ⟨ba, oa, rfl, x0⟩ := (HU.out.grown HGR.out).at hr
      obtain ⟨q, hq⟩ : ∃ q, evalC gs vals r = q := ⟨_, rfl⟩
      have HST := Lib.hid (show numE gs vals (u.take (k + 1)) = m + (if q = true then 1 else 0) from by rw [numE_snoc hr, HM.out, hq])
      have HE := Lib.hid (fun (U : World) (hU : W1.grownBy U none) => eval_n gs vals r q (a := a) (c := c) (va := va) (vc := vc) (w := U) HNV.out hq HGD.out.2.1 (by rw [HNV.out]; have h := HGD.out.2.2; rw [HNV.out] at h; exact h) HGD.out.1 (HB.out r (List.mem_of_getElem? hr)) (HW.out.grown hU) (HV.out.grown hU))
      have HX := Lib.hid x0
      clear hr hq
      go_wp2_with fail
      refine (HE.out _ HGR.out).mono ?_
      rintro e w2 ⟨rfl, hg2⟩
      have HGN := Lib.hid (World.grownBy.trans HGR.out hg2)
      clear hg2 x0 q1
      cases q with
      | true =>
        go_wp2_with fail
        go_roundg (n - (k + 1))
        case measure => rw [HI.out]; omega
        case rel => exact ⟨k + 1, m + 1, rfl, rfl, rfl, by omega, HST.out.symm, by omega, HGN.out⟩
      | false =>
        go_wp2_with fail
        go_roundg (n - (k + 1))
        case measure => rw [HI.out]; omega
        case rel => exact ⟨k + 1, m, rfl, rfl, rfl, by omega, HST.out.symm, by omega, HGN.out⟩
    · have f1 : decide (k < n) = false := decide_eq_false hkn
      have f2 : decide ((k : Int) < (n : Int)) = false := decide_eq_false (by omega)
      have HR := Lib.hid (show m = numE gs vals u from by rw [HM.out, List.take_of_length_le (by rw [HN.out]; omega)])
      clear hkn
      go_wp2_with fail
      go_ret
      exact ⟨by rw [HR.out]; rfl, World.grownBy.trans HG.out HGR.out⟩
set_option maxRecDepth 100000 in
set_option maxHeartbeats 4000000 in
theorem number_calls (gs : List Gt) (u : List Int) (vals : List Bool) (a : Option Addr) (c : Nat) (b : Option Addr) (d : Nat) (va : Option Addr) (vc : Nat) (w : World) (h : GatesW w a c gs) (hu : IntsW w b d u) (hv : BoolsW w va vc vals) (hG : Good gs) (hl : gs.length ≤ 1000) (hlu : u.length ≤ 1000) (hlv : vals.length ≤ 1000) (hb : ∀ r ∈ u, r ≤ 9223372036854775807) :
    Calls Try.prog 13 #[.agg #[.slice a gs.length c], .slice b u.length d, .slice va vals.length vc] w fun e w' => e = .returned (.int .i64 (numE gs vals u : Int)) ∧ w.grownBy w' none := by
  obtain ⟨n, hn⟩ : ∃ n, u.length = n := ⟨_, rfl⟩
  obtain ⟨nv, hnv⟩ : ∃ n, vals.length = n := ⟨_, rfl⟩
  have HN := Lib.hid hn
  have HNV := Lib.hid hnv
  have hg1 := World.grownBy_alloc w (.cells #[.slice a gs.length c] 32) none
  have hc1 := one_cell w (.slice a gs.length c) 32
  obtain ⟨W1, hW1⟩ : ∃ z, w.alloc (.cells #[.slice a gs.length c] 32) = z := ⟨_, rfl⟩
  rw [hW1] at hg1 hc1
  obtain ⟨bC, hbC⟩ : ∃ z, w.heap.size = z := ⟨_, rfl⟩
  rw [hbC] at hc1
  have HQ := Lib.hid hc1.2.1
  have HW := Lib.hid (h.grown hg1)
  have HU := Lib.hid (hu.grown hg1)
  have HV := Lib.hid (hv.grown hg1)
  have HG := Lib.hid hg1
  have HB := Lib.hid hb
  have HGD := Lib.hid (And.intro hG (And.intro hl hlv))
  rw [hn] at hlu ⊢
  rw [hnv]
  clear h hu hv hG hl hlv hb hn hnv hg1 hc1
  go_enter Try.func13, Try.ntmps13
  go_wp2_with fail
  clear hW1 hbC
  go_loopg [7, 8] n (fun gk s7 s12 wr => ∃ (k m : Nat), s7 = .int .i64 (m : Int) ∧ s12 = .int .i64 (k : Int) ∧ gk = n - k ∧ k ≤ n ∧ m = numE gs vals (u.take k) ∧ m ≤ k ∧ W1.grownBy wr none)
  case atStart => exact ⟨0, 0, rfl, rfl, rfl, Nat.zero_le _, rfl, Nat.le_refl _, grown_refl _ _⟩
  case round =>
    obtain ⟨k, m, rfl, rfl, hgk, hk, hm, hmk, hgr⟩ := hrel
    have HI := Lib.hid hgk; clear hgk
    have HM := Lib.hid hm; clear hm
    have HGR := Lib.hid hgr; clear hgr
    have q1 := HGR.out.cell HQ.out (by simp)
    by_cases hkn : k < n
    · have f1 : decide (k < n) = true := decide_eq_true hkn
      have f2 : decide ((k : Int) < (n : Int)) = true := decide_eq_true (by omega)
      have hk1 : IntKind.i64.wrap ((k : Int) + 1) = ((k + 1 : Nat) : Int) := by rw [IntWalk.i64_in _ (by omega)]; omega
      have hm1 : IntKind.i64.wrap ((m : Int) + 1) = ((m + 1 : Nat) : Int) := by rw [IntWalk.i64_in _ (by omega)]; omega
      have hj0 : (0 : Int) ≤ (k : Int) := by omega
      have hj1 : (k : Int) < (n : Int) := by omega
      obtain ⟨r, hr⟩ : ∃ r, u[k]? = some r := ⟨_, List.getElem?_eq_getElem (by rw [HN.out]; exact hkn)⟩
      obtain ⟨ba, oa, rfl, x0⟩ := (HU.out.grown HGR.out).at hr
      obtain ⟨q, hq⟩ : ∃ q, evalC gs vals r = q := ⟨_, rfl⟩
      have HST := Lib.hid (show numE gs vals (u.take (k + 1)) = m + (if q = true then 1 else 0) from by rw [numE_snoc hr, HM.out, hq])
      have HE := Lib.hid (fun (U : World) (hU : W1.grownBy U none) => reval_n gs vals r q (a := a) (c := c) (va := va) (vc := vc) (w := U) HNV.out hq HGD.out.2.1 (by rw [HNV.out]; have h := HGD.out.2.2; rw [HNV.out] at h; exact h) HGD.out.1 (HB.out r (List.mem_of_getElem? hr)) (HW.out.grown hU) (HV.out.grown hU))
      have HX := Lib.hid x0
      clear hr hq
      go_upto_region 5 with fail
      clear f1 f2
      have HS := Lib.hid (fun (Wh : World) (hWh : wr.grownBy Wh none) => (⟨hWh, hWh.cell q1 (by simp), hWh.cell x0 (by simp)⟩ : (fun Wh : World => wr.grownBy Wh none ∧ Wh.cell? ⟨bC, 0, none⟩ = some (.slice a gs.length c) ∧ Wh.cell? ⟨ba, oa + k, none⟩ = some (.int .i64 r)) Wh))
      clear q1 x0
      have hdr : wr.grownBy wr.drew none := ⟨rfl, rfl, rfl, Nat.le_refl _, fun _ _ _ => rfl⟩
      refine wp_region_held_drew (S := (fun Wh : World => wr.grownBy Wh none ∧ Wh.cell? ⟨bC, 0, none⟩ = some (.slice a gs.length c) ∧ Wh.cell? ⟨ba, oa + k, none⟩ = some (.int .i64 r))) (by kernel_rfl) (HS.out _ hdr) (fun hHeld => ?_)
      refine wpAnyH_take (i := 0) (oi := { dst := some 15, op := Op.load 32 (Operand.tmp 3), type := 32, pos := "ref.go:13", after := #[], guard := none }) (v := ?_) rfl (by kernel_rfl) (by kernel_rfl) (by kernel_rfl) (fun _ _ _ h => h) (Or.inl ⟨by rfl, ?_⟩) (by assumption) ?_
      rotate_left 1
      · (intro W hSW; (try dsimp only at hSW); first | (go_simp; done) | (go_simp; with_reducible rfl))
      try simp only [Act.put, List.setIfInBounds_toArray, List.set_cons_zero, List.set_cons_succ]
      refine wpAnyH_take (i := 1) (oi := { dst := some 16, op := Op.move (Operand.tmp 2), type := 24, pos := "ref.go:13", after := #[], guard := none }) (v := ?_) rfl (by kernel_rfl) (by kernel_rfl) (by kernel_rfl) (fun _ _ _ h => h) (Or.inl ⟨by rfl, ?_⟩) (by assumption) ?_
      rotate_left 1
      · (intro W hSW; (try dsimp only at hSW); first | (go_simp; done) | (go_simp; with_reducible rfl))
      try simp only [Act.put, List.setIfInBounds_toArray, List.set_cons_zero, List.set_cons_succ]
      refine wpAnyH_take (i := 2) (oi := { dst := some 17, op := Op.move (Operand.tmp 1), type := 33, pos := "ref.go:13", after := #[], guard := none }) (v := ?_) rfl (by kernel_rfl) (by kernel_rfl) (by kernel_rfl) (fun _ _ _ h => h) (Or.inl ⟨by rfl, ?_⟩) (by assumption) ?_
      rotate_left 1
      · (intro W hSW; (try dsimp only at hSW); first | (go_simp; done) | (go_simp; with_reducible rfl))
      try simp only [Act.put, List.setIfInBounds_toArray, List.set_cons_zero, List.set_cons_succ]
      refine wpAnyH_take (i := 3) (oi := { dst := some 18, op := Op.move (Operand.tmp 8), type := 3, pos := "ref.go:13", after := #[], guard := none }) (v := ?_) rfl (by kernel_rfl) (by kernel_rfl) (by kernel_rfl) (fun _ _ _ h => h) (Or.inl ⟨by rfl, ?_⟩) (by assumption) ?_
      rotate_left 1
      · (intro W hSW; (try dsimp only at hSW); first | (go_simp; done) | (go_simp; with_reducible rfl))
      try simp only [Act.put, List.setIfInBounds_toArray, List.set_cons_zero, List.set_cons_succ]
      refine wpAnyH_take (i := 4) (oi := { dst := some 19, op := Op.indexAddr 33 (Operand.tmp 17) (Operand.tmp 18), type := 0, pos := "ref.go:13", after := #[{ on := 2, ground := Ground.data }, { on := 3, ground := Ground.data }], guard := none }) (v := ?_) rfl (by kernel_rfl) (by kernel_rfl) (by kernel_rfl) (fun _ _ _ h => h) (Or.inl ⟨by rfl, ?_⟩) (by assumption) ?_
      rotate_left 1
      · (intro W hSW; (try dsimp only at hSW); first | (go_simp; done) | (go_simp; with_reducible rfl))
      try simp only [Act.put, List.setIfInBounds_toArray, List.set_cons_zero, List.set_cons_succ]
      refine wpAnyH_take (i := 5) (oi := { dst := some 20, op := Op.load 3 (Operand.tmp 19), type := 3, pos := "ref.go:13", after := #[{ on := 4, ground := Ground.data }], guard := none }) (v := ?_) rfl (by kernel_rfl) (by kernel_rfl) (by kernel_rfl) (fun _ _ _ h => h) (Or.inl ⟨by rfl, ?_⟩) (by assumption) ?_
      rotate_left 1
      · (intro W hSW; (try dsimp only at hSW); first | (go_simp; done) | (go_simp; with_reducible rfl))
      try simp only [Act.put, List.setIfInBounds_toArray, List.set_cons_zero, List.set_cons_succ]
      refine wpAnyH_ready (rs := [6]) (by kernel_rfl) (by simp) ?_
      refine (AllReadyH.cons (o := { dst := some 21, op := Op.call { callee := Callee.value (Operand.func 18), args := #[Operand.tmp 15, Operand.tmp 16, Operand.tmp 20], argTypes := #[32, 24, 3] }, type := 4, pos := "ref.go:13", after := #[{ on := 0, ground := Ground.data }, { on := 1, ground := Ground.data }, { on := 5, ground := Ground.data }], guard := none }) rfl (fun K hK => ?_) AllReadyH.nil)
      rw [if_pos (by rfl)]
      go_simp
      go_at_call 18
      refine (HE.out _ (World.grownBy.trans HGR.out hdr)).mono ?_
      rintro e wc1 ⟨rfl, gc1⟩
      have hgr1 := World.grownBy.trans hdr gc1
      go_wp2_with fail
      refine hK.out _ _ (HS.out _ hgr1) (fun hHeld => ?_)
      clear hK K
      try simp only [Act.put, List.setIfInBounds_toArray, List.set_cons_zero, List.set_cons_succ]
      refine wpAnyH_done (by kernel_rfl) ?_ _
      have hEND := hgr1
      clear hHeld
      have HGN := Lib.hid (World.grownBy.trans HGR.out hEND)
      clear hEND
      cases q with
      | true =>
        go_wp2_with fail
        go_roundg (n - (k + 1))
        case measure => rw [HI.out]; omega
        case rel => exact ⟨k + 1, m + 1, rfl, rfl, rfl, by omega, HST.out.symm, by omega, HGN.out⟩
      | false =>
        go_wp2_with fail
        go_roundg (n - (k + 1))
        case measure => rw [HI.out]; omega
        case rel => exact ⟨k + 1, m, rfl, rfl, rfl, by omega, HST.out.symm, by omega, HGN.out⟩
    · have f1 : decide (k < n) = false := decide_eq_false hkn
      have f2 : decide ((k : Int) < (n : Int)) = false := decide_eq_false (by omega)
      have HR := Lib.hid (show m = numE gs vals u from by rw [HM.out, List.take_of_length_le (by rw [HN.out]; omega)])
      clear hkn
      go_wp2_with fail
      go_ret
      exact ⟨by rw [HR.out]; rfl, World.grownBy.trans HG.out HGR.out⟩
set_option maxRecDepth 100000 in
set_option maxHeartbeats 4000000 in
theorem unary_calls (gs : List Gt) (u : List Int) (vals : List Bool) (a : Option Addr) (c : Nat) (b : Option Addr) (d : Nat) (va : Option Addr) (vc : Nat) (w : World) (h : GatesW w a c gs) (hu : IntsW w b d u) (hv : BoolsW w va vc vals) (hG : Good gs) (hl : gs.length ≤ 1000) (hlu : u.length ≤ 1000) (hlv : vals.length ≤ 1000) (hb : ∀ r ∈ u, r ≤ 9223372036854775807) (m : Int) (_hm : -1000000 ≤ m ∧ m ≤ 1000000) :
    Calls Try.prog 16 #[.agg #[.slice a gs.length c], .slice b u.length d, .slice va vals.length vc, .int .i64 m] w fun e w' => e = .returned (.bool (unE gs vals u m)) ∧ w.grownBy w' none := by
  obtain ⟨n, hn⟩ : ∃ n, u.length = n := ⟨_, rfl⟩
  obtain ⟨nv, hnv⟩ : ∃ n, vals.length = n := ⟨_, rfl⟩
  have HN := Lib.hid hn
  have HNV := Lib.hid hnv
  have hg1 := World.grownBy_alloc w (.cells #[.slice a gs.length c] 32) none
  have hc1 := one_cell w (.slice a gs.length c) 32
  obtain ⟨W1, hW1⟩ : ∃ z, w.alloc (.cells #[.slice a gs.length c] 32) = z := ⟨_, rfl⟩
  rw [hW1] at hg1 hc1
  obtain ⟨bC, hbC⟩ : ∃ z, w.heap.size = z := ⟨_, rfl⟩
  rw [hbC] at hc1
  have HQ := Lib.hid hc1.2.1
  have HW := Lib.hid (h.grown hg1)
  have HU := Lib.hid (hu.grown hg1)
  have HV := Lib.hid (hv.grown hg1)
  have HG := Lib.hid hg1
  have HB := Lib.hid hb
  have HGD := Lib.hid (And.intro hG (And.intro hl hlv))
  rw [hn] at hlu ⊢
  rw [hnv]
  clear h hu hv hG hl hlv hb hn hnv hg1 hc1
  go_enter Try.func16, Try.ntmps16
  go_wp2_with fail
  clear hW1 hbC
  go_loopg [9] n (fun gk s9 wr => ∃ (k : Nat), s9 = .int .i64 (k : Int) ∧ gk = n - k ∧ k ≤ n ∧ (∀ (j : Nat) (r : Int), j < k → u[j]? = some r → evalC gs vals r = decide ((j : Int) < m)) ∧ W1.grownBy wr none)
  case atStart => exact ⟨0, rfl, rfl, Nat.zero_le _, fun j r hj => by omega, grown_refl _ _⟩
  case round =>
    obtain ⟨k, rfl, hgk, hk, hm', hgr⟩ := hrel
    have HI := Lib.hid hgk; clear hgk
    have HM := Lib.hid hm'; clear hm'
    have HGR := Lib.hid hgr; clear hgr
    have q1 := HGR.out.cell HQ.out (by simp)
    by_cases hkn : k < n
    · have f1 : decide (k < n) = true := decide_eq_true hkn
      have f2 : decide ((k : Int) < (n : Int)) = true := decide_eq_true (by omega)
      have hk1 : IntKind.i64.wrap ((k : Int) + 1) = ((k + 1 : Nat) : Int) := by rw [IntWalk.i64_in _ (by omega)]; omega
      have hj0 : (0 : Int) ≤ (k : Int) := by omega
      have hj1 : (k : Int) < (n : Int) := by omega
      obtain ⟨r, hr⟩ : ∃ r, u[k]? = some r := ⟨_, List.getElem?_eq_getElem (by rw [HN.out]; exact hkn)⟩
      obtain ⟨ba, oa, rfl, x0⟩ := (HU.out.grown HGR.out).at hr
      obtain ⟨q, hq⟩ : ∃ q, evalC gs vals r = q := ⟨_, rfl⟩
      have HR0 := Lib.hid hr
      have HQV := Lib.hid hq
      have HE := Lib.hid (fun (U : World) (hU : W1.grownBy U none) => reval_n gs vals r q (a := a) (c := c) (va := va) (vc := vc) (w := U) HNV.out hq HGD.out.2.1 (by rw [HNV.out]; have h := HGD.out.2.2; rw [HNV.out] at h; exact h) HGD.out.1 (HB.out r (List.mem_of_getElem? hr)) (HW.out.grown hU) (HV.out.grown hU))
      clear hr hq
      go_upto_region 4 with fail
      clear f1 f2
      have HS := Lib.hid (fun (Wh : World) (hWh : wr.grownBy Wh none) => (⟨hWh, hWh.cell q1 (by simp), hWh.cell x0 (by simp)⟩ : (fun Wh : World => wr.grownBy Wh none ∧ Wh.cell? ⟨bC, 0, none⟩ = some (.slice a gs.length c) ∧ Wh.cell? ⟨ba, oa + k, none⟩ = some (.int .i64 r)) Wh))
      clear q1 x0
      have hdr : wr.grownBy wr.drew none := ⟨rfl, rfl, rfl, Nat.le_refl _, fun _ _ _ => rfl⟩
      refine wp_region_held_drew (S := (fun Wh : World => wr.grownBy Wh none ∧ Wh.cell? ⟨bC, 0, none⟩ = some (.slice a gs.length c) ∧ Wh.cell? ⟨ba, oa + k, none⟩ = some (.int .i64 r))) (by kernel_rfl) (HS.out _ hdr) (fun hHeld => ?_)
      refine wpAnyH_take (i := 0) (oi := { dst := some 16, op := Op.load 32 (Operand.tmp 4), type := 32, pos := "ref.go:23", after := #[], guard := none }) (v := ?_) rfl (by kernel_rfl) (by kernel_rfl) (by kernel_rfl) (fun _ _ _ h => h) (Or.inl ⟨by rfl, ?_⟩) (by assumption) ?_
      rotate_left 1
      · (intro W hSW; (try dsimp only at hSW); first | (go_simp; done) | (go_simp; with_reducible rfl))
      try simp only [Act.put, List.setIfInBounds_toArray, List.set_cons_zero, List.set_cons_succ]
      refine wpAnyH_take (i := 1) (oi := { dst := some 17, op := Op.move (Operand.tmp 2), type := 24, pos := "ref.go:23", after := #[], guard := none }) (v := ?_) rfl (by kernel_rfl) (by kernel_rfl) (by kernel_rfl) (fun _ _ _ h => h) (Or.inl ⟨by rfl, ?_⟩) (by assumption) ?_
      rotate_left 1
      · (intro W hSW; (try dsimp only at hSW); first | (go_simp; done) | (go_simp; with_reducible rfl))
      try simp only [Act.put, List.setIfInBounds_toArray, List.set_cons_zero, List.set_cons_succ]
      refine wpAnyH_take (i := 2) (oi := { dst := some 18, op := Op.move (Operand.tmp 1), type := 33, pos := "ref.go:23", after := #[], guard := none }) (v := ?_) rfl (by kernel_rfl) (by kernel_rfl) (by kernel_rfl) (fun _ _ _ h => h) (Or.inl ⟨by rfl, ?_⟩) (by assumption) ?_
      rotate_left 1
      · (intro W hSW; (try dsimp only at hSW); first | (go_simp; done) | (go_simp; with_reducible rfl))
      try simp only [Act.put, List.setIfInBounds_toArray, List.set_cons_zero, List.set_cons_succ]
      refine wpAnyH_take (i := 3) (oi := { dst := some 19, op := Op.move (Operand.tmp 9), type := 3, pos := "ref.go:23", after := #[], guard := none }) (v := ?_) rfl (by kernel_rfl) (by kernel_rfl) (by kernel_rfl) (fun _ _ _ h => h) (Or.inl ⟨by rfl, ?_⟩) (by assumption) ?_
      rotate_left 1
      · (intro W hSW; (try dsimp only at hSW); first | (go_simp; done) | (go_simp; with_reducible rfl))
      try simp only [Act.put, List.setIfInBounds_toArray, List.set_cons_zero, List.set_cons_succ]
      refine wpAnyH_take (i := 4) (oi := { dst := some 20, op := Op.indexAddr 33 (Operand.tmp 18) (Operand.tmp 19), type := 0, pos := "ref.go:23", after := #[{ on := 2, ground := Ground.data }, { on := 3, ground := Ground.data }], guard := none }) (v := ?_) rfl (by kernel_rfl) (by kernel_rfl) (by kernel_rfl) (fun _ _ _ h => h) (Or.inl ⟨by rfl, ?_⟩) (by assumption) ?_
      rotate_left 1
      · (intro W hSW; (try dsimp only at hSW); first | (go_simp; done) | (go_simp; with_reducible rfl))
      try simp only [Act.put, List.setIfInBounds_toArray, List.set_cons_zero, List.set_cons_succ]
      refine wpAnyH_take (i := 5) (oi := { dst := some 21, op := Op.load 3 (Operand.tmp 20), type := 3, pos := "ref.go:23", after := #[{ on := 4, ground := Ground.data }], guard := none }) (v := ?_) rfl (by kernel_rfl) (by kernel_rfl) (by kernel_rfl) (fun _ _ _ h => h) (Or.inl ⟨by rfl, ?_⟩) (by assumption) ?_
      rotate_left 1
      · (intro W hSW; (try dsimp only at hSW); first | (go_simp; done) | (go_simp; with_reducible rfl))
      try simp only [Act.put, List.setIfInBounds_toArray, List.set_cons_zero, List.set_cons_succ]
      refine wpAnyH_take (i := 7) (oi := { dst := some 23, op := Op.move (Operand.tmp 9), type := 3, pos := "ref.go:23", after := #[], guard := none }) (v := ?_) rfl (by kernel_rfl) (by kernel_rfl) (by kernel_rfl) (fun _ _ _ h => h) (Or.inl ⟨by rfl, ?_⟩) (by assumption) ?_
      rotate_left 1
      · (intro W hSW; (try dsimp only at hSW); first | (go_simp; done) | (go_simp; with_reducible rfl))
      try simp only [Act.put, List.setIfInBounds_toArray, List.set_cons_zero, List.set_cons_succ]
      refine wpAnyH_take (i := 8) (oi := { dst := some 24, op := Op.move (Operand.tmp 3), type := 3, pos := "ref.go:23", after := #[], guard := none }) (v := ?_) rfl (by kernel_rfl) (by kernel_rfl) (by kernel_rfl) (fun _ _ _ h => h) (Or.inl ⟨by rfl, ?_⟩) (by assumption) ?_
      rotate_left 1
      · (intro W hSW; (try dsimp only at hSW); first | (go_simp; done) | (go_simp; with_reducible rfl))
      try simp only [Act.put, List.setIfInBounds_toArray, List.set_cons_zero, List.set_cons_succ]
      refine wpAnyH_take (i := 9) (oi := { dst := some 25, op := Op.binOp BinOp.lss 3 (Operand.tmp 23) (Operand.tmp 24) 3, type := 4, pos := "ref.go:23", after := #[{ on := 7, ground := Ground.data }, { on := 8, ground := Ground.data }], guard := none }) (v := ?_) rfl (by kernel_rfl) (by kernel_rfl) (by kernel_rfl) (fun _ _ _ h => h) (Or.inl ⟨by rfl, ?_⟩) (by assumption) ?_
      rotate_left 1
      · (intro W hSW; (try dsimp only at hSW); first | (go_simp; done) | (go_simp; with_reducible rfl))
      try simp only [Act.put, List.setIfInBounds_toArray, List.set_cons_zero, List.set_cons_succ]
      refine wpAnyH_ready (rs := [6]) (by kernel_rfl) (by simp) ?_
      refine (AllReadyH.cons (o := { dst := some 22, op := Op.call { callee := Callee.value (Operand.func 18), args := #[Operand.tmp 16, Operand.tmp 17, Operand.tmp 21], argTypes := #[32, 24, 3] }, type := 4, pos := "ref.go:23", after := #[{ on := 0, ground := Ground.data }, { on := 1, ground := Ground.data }, { on := 5, ground := Ground.data }], guard := none }) rfl (fun K hK => ?_) AllReadyH.nil)
      rw [if_pos (by rfl)]
      go_simp
      go_at_call 18
      refine (HE.out _ (World.grownBy.trans HGR.out hdr)).mono ?_
      rintro e wc1 ⟨rfl, gc1⟩
      have hgr1 := World.grownBy.trans hdr gc1
      go_wp2_with fail
      refine hK.out _ _ (HS.out _ hgr1) (fun hHeld => ?_)
      clear hK K
      try simp only [Act.put, List.setIfInBounds_toArray, List.set_cons_zero, List.set_cons_succ]
      refine wpAnyH_take (i := 10) (oi := { dst := some 26, op := Op.binOp BinOp.neq 4 (Operand.tmp 22) (Operand.tmp 25) 4, type := 4, pos := "ref.go:23", after := #[{ on := 6, ground := Ground.data }, { on := 9, ground := Ground.data }], guard := none }) (v := ?_) rfl (by kernel_rfl) (by kernel_rfl) (by kernel_rfl) (fun _ _ _ h => h) (Or.inl ⟨by rfl, ?_⟩) (by assumption) ?_
      rotate_left 1
      · (intro W hSW; (try dsimp only at hSW); first | (go_simp; done) | (go_simp; with_reducible rfl))
      try simp only [Act.put, List.setIfInBounds_toArray, List.set_cons_zero, List.set_cons_succ]
      refine wpAnyH_done (by kernel_rfl) ?_ _
      have hEND := hgr1
      clear hHeld
      have HGN := Lib.hid (World.grownBy.trans HGR.out hEND)
      clear hEND
      cases hqd : (q == decide ((k : Int) < m)) with
      | false =>
        have HBD := Lib.hid (show unE gs vals u m = false from unE_bad HR0.out (by rw [HQV.out, bne, hqd]; rfl))
        simp only [Bool.not_false]
        go_wp2_with fail
        go_ret
        exact ⟨by rw [HBD.out]; rfl, World.grownBy.trans HG.out HGN.out⟩
      | true =>
        have HOK := Lib.hid (show evalC gs vals r = decide ((k : Int) < m) from by rw [HQV.out]; exact eq_of_beq hqd)
        simp only [Bool.not_true]
        go_wp2_with fail
        go_roundg (n - (k + 1))
        case measure => rw [HI.out]; omega
        case rel => exact ⟨k + 1, rfl, rfl, by omega, fun j r' hj hr' => by
          rcases Nat.lt_or_ge j k with h1 | h1
          · exact HM.out j r' h1 hr'
          · have e : j = k := by omega
            subst e
            rw [HR0.out] at hr'
            cases hr'
            exact HOK.out, HGN.out⟩
    · have f1 : decide (k < n) = false := decide_eq_false hkn
      have f2 : decide ((k : Int) < (n : Int)) = false := decide_eq_false (by omega)
      have hnk : k = n := by omega
      have HR := Lib.hid (show unE gs vals u m = decide (m ≤ (n : Int)) from unE_good HN.out (by rw [← hnk]; exact HM.out))
      clear hkn
      subst hnk
      go_wp2_with fail
      go_ret
      exact ⟨by rw [HR.out]; rfl, World.grownBy.trans HG.out HGR.out⟩
end Go.Proofs.Ythagoihpppppkaa

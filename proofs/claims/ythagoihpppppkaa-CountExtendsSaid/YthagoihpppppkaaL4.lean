/- The law: every function keeps the gates, a repeated call appends none, constants stay constants. -/
import Derived.Test.YthagoihpppppkaaS4
import Derived.Deep.DeepCutAuto
namespace Go.Proofs.Ythagoihpppppkaa
open Go.RowKit Go.Maps

def fixL (gs : List Gt) (vals : List Bool) (l : List Int) : List Int := l.map fun r => if evalC gs vals r = true then 0 else 1
theorem fix_const (gs : List Gt) (vals : List Bool) (l : List Int) : Consts (fixL gs vals l) := fun r hr => by
  unfold fixL at hr
  obtain ⟨x, _, rfl⟩ := List.mem_map.1 hr
  cases evalC gs vals x
  · exact .inr rfl
  · exact .inl rfl
theorem fix_snoc {gs : List Gt} {vals : List Bool} {u : List Int} {k : Nat} {r : Int} {q : Bool} (hr : u[k]? = some r) (hq : evalC gs vals r = q) : fixL gs vals (u.take (k + 1)) = fixL gs vals (u.take k) ++ [if q = true then 0 else 1] := by
  unfold fixL; rw [List.take_add_one, hr, List.map_append, ← hq]; rfl

set_option maxRecDepth 100000 in
set_option maxHeartbeats 4000000 in
theorem fixed_calls (gs : List Gt) (u : List Int) (vals : List Bool) (a : Option Addr) (c : Nat) (b : Option Addr) (d : Nat) (va : Option Addr) (vc : Nat) (w : World) (h : GatesW w a c gs) (hu : IntsW w b d u) (hv : BoolsW w va vc vals) (hG : Good gs) (hl : gs.length ≤ 1000) (hlu : u.length ≤ 1000) (hlv : vals.length ≤ 1000) (hb : ∀ r ∈ u, r ≤ 9223372036854775807) :
    Calls Try.prog 48 #[.agg #[.slice a gs.length c], .slice b u.length d, .slice va vals.length vc] w fun e w' => ∃ fa fc, e = .returned (.slice fa u.length fc) ∧ IntsW w' fa fc (fixL gs vals u) ∧ w.grownBy w' none := by
  obtain ⟨n, hn⟩ : ∃ n, u.length = n := ⟨_, rfl⟩
  obtain ⟨nv, hnv⟩ : ∃ n, vals.length = n := ⟨_, rfl⟩
  have HN := Lib.hid hn
  have HNV := Lib.hid hnv
  have hg1 := World.grownBy_alloc w (.cells #[.slice a gs.length c] 32) none
  have hc1 := one_cell w (.slice a gs.length c) 32
  obtain ⟨W1, hW1⟩ : ∃ z, w.alloc (.cells #[.slice a gs.length c] 32) = z := ⟨_, rfl⟩
  rw [hW1] at hg1 hc1
  obtain ⟨bC, hbC⟩ : ∃ z, w.heap.size = z := ⟨_, rfl⟩
  rw [hbC] at hc1
  have HQ := Lib.hid hc1.2.1
  have HW := Lib.hid (h.grown hg1)
  have HU := Lib.hid (hu.grown hg1)
  have HV := Lib.hid (hv.grown hg1)
  have HG := Lib.hid hg1
  have HB := Lib.hid hb
  have HGD := Lib.hid (And.intro hG (And.intro hl hlv))
  rw [hn] at hlu ⊢
  rw [hnv]
  obtain ⟨i0, hi0, hz0, hz1, hz2⟩ := info_parts info3
  clear h hu hv hG hl hlv hb hn hnv hg1 hc1
  go_enter Try.func48, Try.ntmps48
  go_upto_region 2 with fail
  have hga := World.grownBy_alloc W1 (.cells #[] 3) none
  have ho := World.ownsRow_made (base := W1.heap.size) (e := 3) (size := 1) W1 #[] 0 (Nat.le_refl _) (Nat.zero_le _) rfl
  obtain ⟨W2, hW2⟩ : ∃ z, W1.alloc (.cells #[] 3) = z := ⟨_, rfl⟩
  rw [hW2] at hga ho ⊢
  obtain ⟨BZ, hBZ⟩ : ∃ z, W1.heap.size = z := ⟨_, rfl⟩
  rw [hBZ] at ho ⊢
  have HBZ := Lib.hid hBZ
  have HO := Lib.hid ho
  have HGA := Lib.hid hga
  have HZ := Lib.hid (show BZ ≤ W2.heap.size from by rw [← hBZ]; exact hga.size)
  clear hW1 hW2 hbC hBZ ho hga
  go_wp2_with fail
  go_loopg [7, 8] n (fun gk s7 s8 wr => ∃ (k : Nat) (xa : Option Addr) (xc : Nat), s7 = .slice xa k xc ∧ s8 = .int .i64 (k : Int) ∧ gk = n - k ∧ k ≤ n ∧ wr.ownsRow BZ 3 1 (.slice xa k xc) k (intCells (fixL gs vals (u.take k))) ∧ W1.grownBy wr none ∧ BZ ≤ wr.heap.size)
  case atStart => exact ⟨0, _, _, rfl, rfl, rfl, Nat.zero_le _, HO.out, HGA.out, HZ.out⟩
  case round =>
    obtain ⟨k, xa, xc, rfl, rfl, hgk, hk, hown, hgr, hbz⟩ := hrel
    have HI := Lib.hid hgk; clear hgk
    have HOW := Lib.hid hown; clear hown
    have HGR := Lib.hid hgr; clear hgr
    have HZR := Lib.hid hbz; clear hbz
    have q1 := HGR.out.cell HQ.out (by simp)
    by_cases hkn : k < n
    · have f1 : decide (k < n) = true := decide_eq_true hkn
      have f2 : decide ((k : Int) < (n : Int)) = true := decide_eq_true (by omega)
      have hk1 : IntKind.i64.wrap ((k : Int) + 1) = ((k + 1 : Nat) : Int) := by rw [IntWalk.i64_in _ (by omega)]; omega
      have hj0 : (0 : Int) ≤ (k : Int) := by omega
      have hj1 : (k : Int) < (n : Int) := by omega
      obtain ⟨r, hr⟩ : ∃ r, u[k]? = some r := ⟨_, List.getElem?_eq_getElem (by rw [HN.out]; exact hkn)⟩
      obtain ⟨ba, oa, hba, x0⟩ := (HU.out.grown HGR.out).at hr
      obtain ⟨q, hq⟩ : ∃ q, evalC gs vals r = q := ⟨_, rfl⟩
      have HST := Lib.hid (fix_snoc hr hq)
      have HE := Lib.hid (fun (U : World) (hU : W1.grownBy U none) => reval_n gs vals r q (a := a) (c := c) (va := va) (vc := vc) (w := U) HNV.out hq HGD.out.2.1 (by rw [HNV.out]; have h := HGD.out.2.2; rw [HNV.out] at h; exact h) HGD.out.1 (HB.out r (List.mem_of_getElem? hr)) (HW.out.grown hU) (HV.out.grown hU))
      obtain ⟨Lk, hLk⟩ : ∃ L, fixL gs vals (u.take k) = L := ⟨_, rfl⟩
      rw [hLk] at HST HOW
      have HBA := Lib.hid hba
      rw [hba]
      clear hr hq hLk hba
      go_upto_region 6 with fail
      clear f1 f2
      have HS := Lib.hid (fun (Wh : World) (hWh : wr.grownBy Wh none) => (⟨hWh, hWh.cell q1 (by simp), hWh.cell x0 (by simp)⟩ : (fun Wh : World => wr.grownBy Wh none ∧ Wh.cell? ⟨bC, 0, none⟩ = some (.slice a gs.length c) ∧ Wh.cell? ⟨ba, oa + k, none⟩ = some (.int .i64 r)) Wh))
      clear q1 x0
      have hdr : wr.grownBy wr.drew none := ⟨rfl, rfl, rfl, Nat.le_refl _, fun _ _ _ => rfl⟩
      refine wp_region_held_drew (S := (fun Wh : World => wr.grownBy Wh none ∧ Wh.cell? ⟨bC, 0, none⟩ = some (.slice a gs.length c) ∧ Wh.cell? ⟨ba, oa + k, none⟩ = some (.int .i64 r))) (by kernel_rfl) (HS.out _ hdr) (fun hHeld => ?_)
      refine wpAnyH_take (i := 0) (oi := { dst := some 17, op := Op.load 32 (Operand.tmp 3), type := 32, pos := "law.go:93", after := #[], guard := none }) (v := ?_) rfl (by kernel_rfl) (by kernel_rfl) (by kernel_rfl) (fun _ _ _ h => h) (Or.inl ⟨by rfl, ?_⟩) (by assumption) ?_
      rotate_left 1
      · (intro W hSW; (try dsimp only at hSW); first | (go_simp; done) | (go_simp; with_reducible rfl))
      try simp only [Act.put, List.setIfInBounds_toArray, List.set_cons_zero, List.set_cons_succ]
      refine wpAnyH_take (i := 1) (oi := { dst := some 18, op := Op.move (Operand.tmp 2), type := 24, pos := "law.go:93", after := #[], guard := none }) (v := ?_) rfl (by kernel_rfl) (by kernel_rfl) (by kernel_rfl) (fun _ _ _ h => h) (Or.inl ⟨by rfl, ?_⟩) (by assumption) ?_
      rotate_left 1
      · (intro W hSW; (try dsimp only at hSW); first | (go_simp; done) | (go_simp; with_reducible rfl))
      try simp only [Act.put, List.setIfInBounds_toArray, List.set_cons_zero, List.set_cons_succ]
      refine wpAnyH_take (i := 2) (oi := { dst := some 19, op := Op.move (Operand.tmp 1), type := 33, pos := "law.go:93", after := #[], guard := none }) (v := ?_) rfl (by kernel_rfl) (by kernel_rfl) (by kernel_rfl) (fun _ _ _ h => h) (Or.inl ⟨by rfl, ?_⟩) (by assumption) ?_
      rotate_left 1
      · (intro W hSW; (try dsimp only at hSW); first | (go_simp; done) | (go_simp; with_reducible rfl))
      try simp only [Act.put, List.setIfInBounds_toArray, List.set_cons_zero, List.set_cons_succ]
      refine wpAnyH_take (i := 3) (oi := { dst := some 20, op := Op.move (Operand.tmp 8), type := 3, pos := "law.go:93", after := #[], guard := none }) (v := ?_) rfl (by kernel_rfl) (by kernel_rfl) (by kernel_rfl) (fun _ _ _ h => h) (Or.inl ⟨by rfl, ?_⟩) (by assumption) ?_
      rotate_left 1
      · (intro W hSW; (try dsimp only at hSW); first | (go_simp; done) | (go_simp; with_reducible rfl))
      try simp only [Act.put, List.setIfInBounds_toArray, List.set_cons_zero, List.set_cons_succ]
      refine wpAnyH_take (i := 4) (oi := { dst := some 21, op := Op.indexAddr 33 (Operand.tmp 19) (Operand.tmp 20), type := 0, pos := "law.go:93", after := #[{ on := 2, ground := Ground.data }, { on := 3, ground := Ground.data }], guard := none }) (v := ?_) rfl (by kernel_rfl) (by kernel_rfl) (by kernel_rfl) (fun _ _ _ h => h) (Or.inl ⟨by rfl, ?_⟩) (by assumption) ?_
      rotate_left 1
      · (intro W hSW; (try dsimp only at hSW); first | (go_simp; done) | (go_simp; with_reducible rfl))
      try simp only [Act.put, List.setIfInBounds_toArray, List.set_cons_zero, List.set_cons_succ]
      refine wpAnyH_take (i := 5) (oi := { dst := some 22, op := Op.load 3 (Operand.tmp 21), type := 3, pos := "law.go:93", after := #[{ on := 4, ground := Ground.data }], guard := none }) (v := ?_) rfl (by kernel_rfl) (by kernel_rfl) (by kernel_rfl) (fun _ _ _ h => h) (Or.inl ⟨by rfl, ?_⟩) (by assumption) ?_
      rotate_left 1
      · (intro W hSW; (try dsimp only at hSW); first | (go_simp; done) | (go_simp; with_reducible rfl))
      try simp only [Act.put, List.setIfInBounds_toArray, List.set_cons_zero, List.set_cons_succ]
      refine wpAnyH_ready (rs := [6]) (by kernel_rfl) (by simp) ?_
      refine (AllReadyH.cons (o := { dst := some 23, op := Op.call { callee := Callee.value (Operand.func 18), args := #[Operand.tmp 17, Operand.tmp 18, Operand.tmp 22], argTypes := #[32, 24, 3] }, type := 4, pos := "law.go:93", after := #[{ on := 0, ground := Ground.data }, { on := 1, ground := Ground.data }, { on := 5, ground := Ground.data }], guard := none }) rfl (fun K hK => ?_) AllReadyH.nil)
      rw [if_pos (by rfl)]
      go_simp
      go_at_call 18
      refine (HE.out _ (World.grownBy.trans HGR.out hdr)).mono ?_
      rintro e wc1 ⟨rfl, gc1⟩
      have hgr1 := World.grownBy.trans hdr gc1
      go_wp2_with fail
      refine hK.out _ _ (HS.out _ hgr1) (fun hHeld => ?_)
      clear hK K
      try simp only [Act.put, List.setIfInBounds_toArray, List.set_cons_zero, List.set_cons_succ]
      refine wpAnyH_done (by kernel_rfl) ?_ _
      have hEND := hgr1
      clear hHeld
      have HGU0 := Lib.hid (World.grownBy.trans HGR.out hEND)
      have HO20 := Lib.hid (own_grown HOW.out hEND)
      have HZ20 := Lib.hid (Nat.le_trans HZR.out hEND.size)
      clear hEND
      obtain ⟨U, hU⟩ : ∃ z, z = wc1 := ⟨_, rfl⟩
      rw [← hU] at HGU0 HO20 HZ20 ⊢
      clear hU
      have HGU := Lib.hid HGU0.out
      have HO2 := Lib.hid HO20.out
      have HZ2 := Lib.hid HZ20.out
      rw [← HBA.out]
      cases q with
      | true =>
        go_wp2_with (at_builtin; refine wpList_append_own_at _ rfl _ _ 33 rfl BZ 3 i0 (.int .i64 0) 1 8 Try.underlying33 hi0 hz0 hz1 hz2 rfl (by decide) _ k (intCells Lk) rfl (HO2.out.alloc _) ⟨U.heap.size, 0, none⟩ 1 1 [.int .i64 0] rfl rfl (cell_one_new _ _ _) (fun u hu => by simp at hu; subst hu; rfl) (by unfold maxLen; omega) (by omega) (by have := HZ2.out; simp; omega) ?_)
        intro v' w6 hown' hgrow6 _ hat6
        obtain ⟨rgA, rcA, rfl⟩ := own_shape hown'
        have haA := World.grownBy_alloc U (.cells #[.int .i64 0] 3) none
        have HG6 := Lib.hid (grown_own (World.grownBy.trans HGU.out haA) hgrow6 (fun x e => by have h1 := (HO2.out.lt x e).1; have h2 := HBZ.out; omega))
        have HO6 := Lib.hid (show w6.ownsRow BZ 3 1 (.slice rgA (k + 1) rcA) (k + 1) (intCells (fixL gs vals (u.take (k + 1)))) from by rw [HST.out, intCells, List.map_append]; exact hown')
        have HZ6 := Lib.hid (Nat.le_trans HZ2.out (Nat.le_trans haA.size hgrow6.size))
        clear hown' hgrow6 haA hat6
        go_wp2_with fail
        go_roundg (n - (k + 1))
        case measure => rw [HI.out]; omega
        case rel => exact ⟨k + 1, rgA, rcA, rfl, rfl, rfl, by omega, HO6.out, HG6.out, HZ6.out⟩
      | false =>
        go_wp2_with (at_builtin; refine wpList_append_own_at _ rfl _ _ 33 rfl BZ 3 i0 (.int .i64 0) 1 8 Try.underlying33 hi0 hz0 hz1 hz2 rfl (by decide) _ k (intCells Lk) rfl (HO2.out.alloc _) ⟨U.heap.size, 0, none⟩ 1 1 [.int .i64 1] rfl rfl (cell_one_new _ _ _) (fun u hu => by simp at hu; subst hu; rfl) (by unfold maxLen; omega) (by omega) (by have := HZ2.out; simp; omega) ?_)
        intro v' w6 hown' hgrow6 _ hat6
        obtain ⟨rgA, rcA, rfl⟩ := own_shape hown'
        have haA := World.grownBy_alloc U (.cells #[.int .i64 1] 3) none
        have HG6 := Lib.hid (grown_own (World.grownBy.trans HGU.out haA) hgrow6 (fun x e => by have h1 := (HO2.out.lt x e).1; have h2 := HBZ.out; omega))
        have HO6 := Lib.hid (show w6.ownsRow BZ 3 1 (.slice rgA (k + 1) rcA) (k + 1) (intCells (fixL gs vals (u.take (k + 1)))) from by rw [HST.out, intCells, List.map_append]; exact hown')
        have HZ6 := Lib.hid (Nat.le_trans HZ2.out (Nat.le_trans haA.size hgrow6.size))
        clear hown' hgrow6 haA hat6
        go_wp2_with fail
        go_roundg (n - (k + 1))
        case measure => rw [HI.out]; omega
        case rel => exact ⟨k + 1, rgA, rcA, rfl, rfl, rfl, by omega, HO6.out, HG6.out, HZ6.out⟩
    · have f1 : decide (k < n) = false := decide_eq_false hkn
      have f2 : decide ((k : Int) < (n : Int)) = false := decide_eq_false (by omega)
      have hkn2 : k = n := by omega
      subst hkn2
      have HF := Lib.hid (show IntsW wr xa xc (fixL gs vals u) from by
        have h := HOW.out
        rw [List.take_of_length_le (by rw [HN.out]; omega)] at h
        exact IntsN.weak (IntsN.own (N := fun _ => False) (by unfold fixL; rw [List.length_map, HN.out]) h (fun k _ h => h)))
      clear hkn
      go_wp2_with fail
      go_ret
      exact ⟨xa, xc, rfl, HF.out, World.grownBy.trans HG.out HGR.out⟩
theorem Pr.again2 {α : Type} {Q : List Gt → α → Prop} : ∀ (p : Pr α) {gs hs : List Gt}, p.safe gs Q → (p.run gs).1.length ≤ 19990 → Good gs → Good hs → (p.run gs).1 <+: hs → p.run hs = (hs, (p.run gs).2)
  | .ret _, _, _, _, _, _, _, _ => rfl
  | .and a b k, gs, hs, h, hl, hg, hh, hp => by
    have h1 := step_and hg a b
    have h2 := Pr.step (k (andC gs a b).2) h1.good
    have hpre : (andC gs a b).1 <+: hs := h2.2.trans hp
    have hlen : gs.length < 20000 := by
      have x1 := (h1.pre.trans h2.2).length_le
      have x2 : ((k (andC gs a b).2).run (andC gs a b).1).1.length ≤ 19990 := hl
      omega
    have e := and_again hlen hh h.1 h.2.1 hpre (h1.pre.trans hpre)
    show (k (andC hs a b).2).run (andC hs a b).1 = _
    rw [e]
    exact Pr.again2 (k (andC gs a b).2) h.2.2 hl h1.good hh hp
theorem self_again {α : Type} {Q : List Gt → α → Prop} {p : Pr α} {gs g' : List Gt} {r : α} (h : p.safe gs Q) (e : p.run gs = (g', r)) (hl : g'.length ≤ 19990) (hG : Good gs) : p.run g' = (g', r) := by
  have h1 := (Pr.step p hG).1
  rw [e] at h1
  have h2 := Pr.again2 p (hs := g') h (by rw [e]; exact hl) hG h1 (by rw [e]; exact List.prefix_refl _)
  rw [h2, e]
theorem safe_atlP {gs : List Gt} (hG : Good gs) (hl : gs.length ≤ 19000) {l : List Int} (ho : ∀ r ∈ l, Ok gs r) (k : Int) : (atlP l k).safe gs (fun _ _ => True) := by
  unfold atlP
  split
  · trivial
  · exact Pr.safe_bind _ (Pr.safe_mono (fun _ _ _ => trivial) _ (safe_sorterP hG hl ho))
theorem cst_atlP {l : List Int} (h : Consts l) (k : Int) : (atlP l k).cst (fun r => r = 0 ∨ r = 1) := by
  unfold atlP
  split
  · exact reach_const h k
  · exact Pr.cst_bind _ (Pr.cst_mono (fun t ht => reach_const ht k) _ (cst_sorterP h))
theorem cst_eq {α : Type} {Q : α → Prop} {p : Pr α} {gs : List Gt} (hG : Good gs) (h : p.cst Q) : ∃ r, p.run gs = (gs, r) ∧ Q r := by
  obtain ⟨h1, h2⟩ := Pr.cst_run p hG h
  exact ⟨(p.run gs).2, Prod.ext h1 rfl, h2⟩
theorem cst_ok {gs : List Gt} (hG : Good gs) {l : List Int} (h : Consts l) : ∀ r ∈ l, Ok gs r := fun r hr => by
  have hp := hG.pos
  unfold Ok
  rcases h r hr with rfl | rfl <;> omega
theorem gC {w w' : World} {b : Nat} {a : Option Addr} {c : Nat} {g : List Gt} (h : Hid (CB w b a c g)) (hg : w.grownBy w' none) : Hid (CB w' b a c g) := Lib.hid (h.out.grown hg)
theorem gR {w w' : World} {a : Option Addr} {c : Nat} {l : List Int} (h : Hid (IntsW w a c l)) (hg : w.grownBy w' none) : Hid (IntsW w' a c l) := Lib.hid (h.out.grown hg)
theorem gV {w w' : World} {a : Option Addr} {c : Nat} {l : List Bool} (h : Hid (BoolsW w a c l)) (hg : w.grownBy w' none) : Hid (BoolsW w' a c l) := Lib.hid (h.out.grown hg)
theorem gX {w w' : World} {bX : Nat} {sa : Option Addr} {nl sc : Nat} {aa : Option Addr} {na ac : Nat} {ba : Option Addr} {nb bc : Nat} {va : Option Addr} {nv vc : Nat} {y : Int} (h : Hid (RawB w bX sa nl sc aa na ac ba nb bc va nv vc y)) (hg : w.grownBy w' none) : Hid (RawB w' bX sa nl sc aa na ac ba nb bc va nv vc y) := Lib.hid (h.out.grown hg)
theorem gI {w w' : World} {l : List Stp} {A B : List Nat} {vals : List Bool} {y : Int} {sa : Option Addr} {sc : Nat} {aa : Option Addr} {ac : Nat} {ba : Option Addr} {bc : Nat} {va : Option Addr} {vc : Nat} (h : Hid (RawIn w l A B vals y sa sc aa ac ba bc va vc)) (hg : w.grownBy w' none) : Hid (RawIn w' l A B vals y sa sc aa ac ba bc va vc) := Lib.hid (h.out.grown hg)
theorem gG {w0 w w' : World} (h : Hid (w0.grownBy w none)) (hg : w.grownBy w' none) : Hid (w0.grownBy w' none) := Lib.hid (World.grownBy.trans h.out hg)
theorem fixed_n {gs : List Gt} {u l : List Int} {vals : List Bool} {n nv : Nat} {a : Option Addr} {c : Nat} {b : Option Addr} {d : Nat} {va : Option Addr} {vc : Nat} {w : World} (hn : u.length = n) (hnv : vals.length = nv) (e : fixL gs vals u = l) (hG : Good gs) (hl : gs.length ≤ 1000) (hlu : u.length ≤ 1000) (hlv : vals.length ≤ 1000) (hb : ∀ r ∈ u, r ≤ 9223372036854775807) (h : GatesW w a c gs) (hu : IntsW w b d u) (hv : BoolsW w va vc vals) :
    Calls Try.prog 48 #[.agg #[.slice a gs.length c], .slice b n d, .slice va nv vc] w fun e w' => ∃ fa fc, e = .returned (.slice fa n fc) ∧ IntsW w' fa fc l ∧ w.grownBy w' none := by
  subst hn hnv e
  exact fixed_calls gs u vals a c b d va vc w h hu hv hG hl hlu hlv hb

set_option maxRecDepth 100000 in
set_option maxHeartbeats 4000000 in
theorem constant_calls (gs : List Gt) (la lb : List Int) (vals : List Bool) (y : Int) {na nb nv : Nat} (a : Option Addr) (c : Nat) (b : Option Addr) (d : Nat) (b2 : Option Addr) (d2 : Nat) (va : Option Addr) (vc : Nat) (w : World) (hna : la.length = na) (hnb : lb.length = nb) (hnv : vals.length = nv) (h : GatesW w a c gs) (hu : IntsW w b d la) (hu2 : IntsW w b2 d2 lb) (hv : BoolsW w va vc vals) (hG : Good gs) (hl : gs.length ≤ 200) (h9 : na ≤ 9 ∧ nb ≤ 9) (hlv : nv ≤ 100) (hb : ∀ r ∈ la, r ≤ 9223372036854775807) (hb2 : ∀ r ∈ lb, r ≤ 9223372036854775807) (hy : -128 ≤ y ∧ y ≤ 127) :
    Calls Try.prog 25 #[.agg #[.slice a gs.length c], .slice b na d, .slice b2 nb d2, .slice va nv vc, .int .i64 y] w fun e w' => e = .returned (.bool true) ∧ w.grownBy w' none := by
  obtain ⟨fA, eA⟩ : ∃ z, fixL gs vals la = z := ⟨_, rfl⟩
  obtain ⟨fB, eB⟩ : ∃ z, fixL gs vals lb = z := ⟨_, rfl⟩
  have cA : Consts fA := eA ▸ fix_const gs vals la
  have cB : Consts fB := eB ▸ fix_const gs vals lb
  have nA : fA.length = na := by rw [← eA, fixL, List.length_map, hna]
  have nB : fB.length = nb := by rw [← eB, fixL, List.length_map, hnb]
  have oA := cst_ok hG cA
  have oB := cst_ok hG cB
  obtain ⟨lS, eS, cS⟩ := cst_eq hG (cst_sorterP cA)
  obtain ⟨lT, eT, cT⟩ := cst_eq hG (cst_totalP 6 fB cB)
  obtain ⟨rK, eK, cK⟩ := cst_eq hG (cst_atlP cA (nb : Int))
  obtain ⟨lJ, eJ, cJ⟩ := cst_eq hG (cst_addP cS cT)
  obtain ⟨rL, eL, cL⟩ := cst_eq hG (cst_lessP cS cT y)
  have oS := cst_ok hG cS
  have oT := cst_ok hG cT
  have kT := costT9 fB.length (by omega)
  have lS9 : lS.length = na := by have h := (sorter_len hG (by omega) oA).2.2; rw [eS] at h; simpa [nA] using h
  have lT9 : lT.length = nb := by have h := (total_den eT hG (by omega) oB (by omega)).2.1; rw [h, nB]
  have kA := costA9 lS.length (by omega) lT.length (by omega)
  obtain ⟨nj, hnj⟩ : ∃ z, na + nb = z := ⟨_, rfl⟩
  have lJ9 : lJ.length = nj := by have h := (add_den eJ hG (by omega) oS oT).2.1; rw [h, lS9, lT9, hnj]
  have HF1 := Lib.hid (fun (W : World) (a : Option Addr) (c : Nat) (b : Option Addr) (d : Nat) (va : Option Addr) (vc : Nat) (hW : GatesW W a c gs) (hr : IntsW W b d la) (hv : BoolsW W va vc vals) => fixed_n hna hnv eA hG (by omega) (by omega) (by omega) hb hW hr hv)
  have HF2 := Lib.hid (fun (W : World) (a : Option Addr) (c : Nat) (b : Option Addr) (d : Nat) (va : Option Addr) (vc : Nat) (hW : GatesW W a c gs) (hr : IntsW W b d lb) (hv : BoolsW W va vc vals) => fixed_n hnb hnv eB hG (by omega) (by omega) (by omega) hb2 hW hr hv)
  have HCS := Lib.hid (fun (W : World) (a : Option Addr) (c : Nat) (b : Option Addr) (d : Nat) (hW : GatesW W a c gs) (hr : IntsW W b d fA) => sorter_n nA eS hG (by omega) oA (by omega) hW hr)
  have HCT := Lib.hid (fun (W : World) (a : Option Addr) (c : Nat) (b : Option Addr) (d : Nat) (hW : GatesW W a c gs) (hr : IntsW W b d fB) => totalizer_n nB eT hG oB (by omega) (by omega) hW hr)
  have HCK := Lib.hid (fun (W : World) (a : Option Addr) (c : Nat) (b : Option Addr) (d : Nat) (hW : GatesW W a c gs) (hr : IntsW W b d fA) => atleast_n nA eK hG (by omega) oA (by omega) hW hr)
  have HCJ := Lib.hid (fun (W : World) (a : Option Addr) (c : Nat) (b : Option Addr) (d : Nat) (b2 : Option Addr) (d2 : Nat) (hW : GatesW W a c gs) (hr : IntsW W b d lS) (hr2 : IntsW W b2 d2 lT) => add_n lS9 lT9 hnj eJ hG oS oT (by omega) (by omega) (by omega) hW hr hr2)
  have HCL := Lib.hid (fun (W : World) (a : Option Addr) (c : Nat) (b : Option Addr) (d : Nat) (b2 : Option Addr) (d2 : Nat) (hW : GatesW W a c gs) (hr : IntsW W b d lS) (hr2 : IntsW W b2 d2 lT) => less_n lS9 lT9 eL hG oS oT (by omega) (by omega) (by omega) (by omega) hW hr hr2)
  have HSM := Lib.hid (fun (W : World) (a : Option Addr) (c : Nat) (a2 : Option Addr) (c2 : Nat) (hW : GatesW W a c gs) (hW2 : GatesW W a2 c2 gs) => same_n rfl (by omega) hW hW2)
  obtain ⟨n9, hn9⟩ : ∃ z, nj + 1 = z := ⟨_, rfl⟩
  obtain ⟨l2, hl2⟩ : ∃ z, lS ++ lT = z := ⟨_, rfl⟩
  obtain ⟨lA, hlA⟩ : ∃ z, l2 ++ [rK] = z := ⟨_, rfl⟩
  have lA9 : lA.length = n9 := by rw [← hlA, ← hl2, List.length_append, List.length_append, lS9, lT9, ← hn9, ← hnj]; rfl
  have HCA := Lib.hid (show Consts lA from fun r hr => by
    rw [← hlA, ← hl2] at hr
    rcases List.mem_append.1 hr with h | h
    · rcases List.mem_append.1 h with h | h
      · exact cS r h
      · exact cT r h
    · rw [List.mem_singleton.1 h]; exact cK)
  have HCJ2 := Lib.hid cJ
  have HCL2 := Lib.hid cL
  have HLE := Lib.hid (And.intro lS9 (And.intro lT9 (And.intro lA9 lJ9)))
  have HAP := Lib.hid (And.intro hl2 hlA)
  have HNJ := Lib.hid (And.intro h9 (And.intro hnj hn9))
  have HU := Lib.hid hu
  have HU2 := Lib.hid hu2
  have HV := Lib.hid hv
  have HG := Lib.hid (grown_refl w none)
  have hr := h
  clear eA eB cA cB nA nB oA oB eS eT eK eJ eL cS cT cK cJ cL oS oT kT lS9 lT9 kA lJ9 lA9 hlA hl2 hnj hn9 hb hb2 hy hlv h9 hl hG hv hu2 hu h hna hnb hnv
  go_enter Try.func25, Try.ntmps25
  go_upto_region 1 with fail
  have hb := CB.new hr
  have g := World.grownBy_alloc w (.cells #[.slice a gs.length c] 32) none
  obtain ⟨V1, hV1⟩ : ∃ z, World.alloc w (.cells #[.slice a gs.length c] 32) = z := ⟨_, rfl⟩
  rw [hV1] at g hb ⊢
  clear hV1 hr
  obtain ⟨bc, hbb⟩ : ∃ b, w.heap.size = b := ⟨_, rfl⟩
  rw [hbb] at hb ⊢
  clear hbb
  replace HU := gR HU g
  replace HU2 := gR HU2 g
  replace HV := gV HV g
  replace HG := gG HG g
  clear g
  have Hc := Lib.hid hb
  clear hb
  have qc := Hc.out.1
  go_wp2_with fail
  clear qc
  refine (HF1.out _ _ _ _ _ _ _ Hc.out.2.2 HU.out HV.out).mono ?_
  rintro e V2 ⟨b2, d2, rfl, hr, g⟩
  replace Hc := gC Hc g
  replace HU := gR HU g
  replace HU2 := gR HU2 g
  replace HV := gV HV g
  replace HG := gG HG g
  clear g
  have RfA := Lib.hid hr
  clear hr
  have qc := Hc.out.1
  go_wp2_with fail
  clear qc
  refine (HF2.out _ _ _ _ _ _ _ Hc.out.2.2 HU2.out HV.out).mono ?_
  rintro e V3 ⟨b3, d3, rfl, hr, g⟩
  replace Hc := gC Hc g
  replace HU := gR HU g
  replace HU2 := gR HU2 g
  replace HV := gV HV g
  replace RfA := gR RfA g
  replace HG := gG HG g
  clear g
  have RfB := Lib.hid hr
  clear hr
  have qc := Hc.out.1
  go_wp2_with fail
  clear qc
  refine (HCS.out _ _ _ _ _ Hc.out.2.2 RfA.out).mono ?_
  rintro e V4 ⟨a4, c4, b4, d4, rfl, hr, hrow, g⟩
  replace Hc := gC Hc g
  replace HU := gR HU g
  replace HU2 := gR HU2 g
  replace HV := gV HV g
  replace RfA := gR RfA g
  replace RfB := gR RfB g
  replace HG := gG HG g
  clear g
  have RlS := Lib.hid hrow
  clear hrow
  have qc := Hc.out.1
  go_upto_region 4 with fail
  clear qc
  have hb := CB.new hr
  have g := World.grownBy_alloc V4 (.cells #[.slice a4 gs.length c4] 32) none
  obtain ⟨V5, hV5⟩ : ∃ z, World.alloc V4 (.cells #[.slice a4 gs.length c4] 32) = z := ⟨_, rfl⟩
  rw [hV5] at g hb ⊢
  clear hV5 hr
  obtain ⟨bSo, hbb⟩ : ∃ b, V4.heap.size = b := ⟨_, rfl⟩
  rw [hbb] at hb ⊢
  clear hbb
  replace Hc := gC Hc g
  replace HU := gR HU g
  replace HU2 := gR HU2 g
  replace HV := gV HV g
  replace RfA := gR RfA g
  replace RfB := gR RfB g
  replace RlS := gR RlS g
  replace HG := gG HG g
  clear g
  have HSo := Lib.hid hb
  clear hb
  have qc := Hc.out.1
  have qSo := HSo.out.1
  go_wp2_with fail
  clear qc qSo
  refine (HCT.out _ _ _ _ _ Hc.out.2.2 RfB.out).mono ?_
  rintro e V6 ⟨a6, c6, b6, d6, rfl, hr, hrow, g⟩
  replace Hc := gC Hc g
  replace HSo := gC HSo g
  replace HU := gR HU g
  replace HU2 := gR HU2 g
  replace HV := gV HV g
  replace RfA := gR RfA g
  replace RfB := gR RfB g
  replace RlS := gR RlS g
  replace HG := gG HG g
  clear g
  have RlT := Lib.hid hrow
  clear hrow
  have qc := Hc.out.1
  have qSo := HSo.out.1
  go_upto_region 5 with fail
  clear qc qSo
  have hb := CB.new hr
  have g := World.grownBy_alloc V6 (.cells #[.slice a6 gs.length c6] 32) none
  obtain ⟨V7, hV7⟩ : ∃ z, World.alloc V6 (.cells #[.slice a6 gs.length c6] 32) = z := ⟨_, rfl⟩
  rw [hV7] at g hb ⊢
  clear hV7 hr
  obtain ⟨bT, hbb⟩ : ∃ b, V6.heap.size = b := ⟨_, rfl⟩
  rw [hbb] at hb ⊢
  clear hbb
  replace Hc := gC Hc g
  replace HSo := gC HSo g
  replace HU := gR HU g
  replace HU2 := gR HU2 g
  replace HV := gV HV g
  replace RfA := gR RfA g
  replace RfB := gR RfB g
  replace RlS := gR RlS g
  replace RlT := gR RlT g
  replace HG := gG HG g
  clear g
  have HT := Lib.hid hb
  clear hb
  have qc := Hc.out.1
  have qSo := HSo.out.1
  have qT := HT.out.1
  go_wp2_with fail
  clear qc qSo qT
  refine (HCK.out _ _ _ _ _ Hc.out.2.2 RfA.out).mono ?_
  rintro e V8 ⟨a8, c8, rfl, hr, g⟩
  replace Hc := gC Hc g
  replace HSo := gC HSo g
  replace HT := gC HT g
  replace HU := gR HU g
  replace HU2 := gR HU2 g
  replace HV := gV HV g
  replace RfA := gR RfA g
  replace RfB := gR RfB g
  replace RlS := gR RlS g
  replace RlT := gR RlT g
  replace HG := gG HG g
  clear g
  have qc := Hc.out.1
  have qSo := HSo.out.1
  have qT := HT.out.1
  go_upto_region 6 with fail
  clear qc qSo qT
  have hb := CB.new hr
  have g := World.grownBy_alloc V8 (.cells #[.slice a8 gs.length c8] 32) none
  obtain ⟨V9, hV9⟩ : ∃ z, World.alloc V8 (.cells #[.slice a8 gs.length c8] 32) = z := ⟨_, rfl⟩
  rw [hV9] at g hb ⊢
  clear hV9 hr
  obtain ⟨bKb, hbb⟩ : ∃ b, V8.heap.size = b := ⟨_, rfl⟩
  rw [hbb] at hb ⊢
  clear hbb
  replace Hc := gC Hc g
  replace HSo := gC HSo g
  replace HT := gC HT g
  replace HU := gR HU g
  replace HU2 := gR HU2 g
  replace HV := gV HV g
  replace RfA := gR RfA g
  replace RfB := gR RfB g
  replace RlS := gR RlS g
  replace RlT := gR RlT g
  replace HG := gG HG g
  clear g
  have HKb := Lib.hid hb
  clear hb
  have fe : (((na : Nat) : Int) == ((na : Nat) : Int)) = true := by simp
  have fe2 : (na == na) = true := by simp
  have fe3 : (((nb : Nat) : Int) == ((nb : Nat) : Int)) = true := by simp
  have fe4 : (nb == nb) = true := by simp
  have qc := Hc.out.1
  have qSo := HSo.out.1
  have qT := HT.out.1
  have qKb := HKb.out.1
  go_wp2_with fail
  clear qc qSo qT qKb
  refine (HSM.out _ _ _ _ _ Hc.out.2.2 HSo.out.2.2).mono ?_
  rintro e V10 ⟨rfl, g⟩
  replace Hc := gC Hc g
  replace HSo := gC HSo g
  replace HT := gC HT g
  replace HKb := gC HKb g
  replace HU := gR HU g
  replace HU2 := gR HU2 g
  replace HV := gV HV g
  replace RfA := gR RfA g
  replace RfB := gR RfB g
  replace RlS := gR RlS g
  replace RlT := gR RlT g
  replace HG := gG HG g
  clear g
  have qc := Hc.out.1
  have qSo := HSo.out.1
  have qT := HT.out.1
  have qKb := HKb.out.1
  go_wp2_with fail
  clear qc qSo qT qKb
  refine (HSM.out _ _ _ _ _ Hc.out.2.2 HT.out.2.2).mono ?_
  rintro e V11 ⟨rfl, g⟩
  replace Hc := gC Hc g
  replace HSo := gC HSo g
  replace HT := gC HT g
  replace HKb := gC HKb g
  replace HU := gR HU g
  replace HU2 := gR HU2 g
  replace HV := gV HV g
  replace RfA := gR RfA g
  replace RfB := gR RfB g
  replace RlS := gR RlS g
  replace RlT := gR RlT g
  replace HG := gG HG g
  clear g
  have qc := Hc.out.1
  have qSo := HSo.out.1
  have qT := HT.out.1
  have qKb := HKb.out.1
  go_wp2_with fail
  clear qc qSo qT qKb
  refine (HSM.out _ _ _ _ _ Hc.out.2.2 HKb.out.2.2).mono ?_
  rintro e V12 ⟨rfl, g⟩
  replace Hc := gC Hc g
  replace HSo := gC HSo g
  replace HT := gC HT g
  replace HKb := gC HKb g
  replace HU := gR HU g
  replace HU2 := gR HU2 g
  replace HV := gV HV g
  replace RfA := gR RfA g
  replace RfB := gR RfB g
  replace RlS := gR RlS g
  replace RlT := gR RlT g
  replace HG := gG HG g
  clear g
  have qc := Hc.out.1
  have qSo := HSo.out.1
  have qT := HT.out.1
  have qKb := HKb.out.1
  go_upto_region 8 with fail
  clear qc qSo qT qKb
  clear fe fe2 fe3 fe4
  have qc := Hc.out.1
  have qSo := HSo.out.1
  have qT := HT.out.1
  have qKb := HKb.out.1
  have hga := World.grownBy_alloc V12 (.cells #[] 3) none
  have ho := World.ownsRow_made (base := V12.heap.size) (e := 3) (size := 1) V12 #[] 0 (Nat.le_refl _) (Nat.zero_le _) rfl
  go_wp2_with (at_builtin; refine append_intsR rfl _ _ rfl V12.heap.size _ 0 [] rfl ho _ _ _ lS rfl HLE.out.1 (RlS.out.grown hga) (by have := HNJ.out.1; omega) hga.size ?_)
  intro v1 w1 hown1 hgw1
  obtain ⟨xa1, xc1, rfl⟩ := own_shape hown1
  have hg1 : V12.grownBy w1 none := grown_own hga hgw1 (fun x e => by have h1 := (ho.lt x e).1; omega)
  obtain ⟨BZ, hBZ⟩ : ∃ z, V12.heap.size = z := ⟨_, rfl⟩
  rw [hBZ] at hown1
  have hz1 : BZ ≤ w1.heap.size := by rw [← hBZ]; exact hg1.size
  have HBZ := Lib.hid hBZ
  clear hga ho hgw1 hBZ
  clear qc qSo qT qKb
  have qc := (Hc.out.grown hg1).1
  have qSo := (HSo.out.grown hg1).1
  have qT := (HT.out.grown hg1).1
  have qKb := (HKb.out.grown hg1).1
  go_wp2_with (at_builtin; refine append_intsR rfl _ _ rfl BZ _ na lS rfl hown1 _ _ _ lT rfl HLE.out.2.1 (RlT.out.grown hg1) (by have := HNJ.out.1; omega) hz1 ?_)
  intro v2 w2 hown2 hgw2
  rw [HNJ.out.2.1] at hown2
  replace hown2 : w2.ownsRow BZ 3 1 v2 nj (intCells l2) := by rw [← HAP.out.1, intCells, List.map_append]; exact hown2
  obtain ⟨xa2, xc2, rfl⟩ := own_shape hown2
  have hg2 : V12.grownBy w2 none := grown_own hg1 hgw2 (fun x e => by have h1 := (hown1.lt x e).1; have h2 := HBZ.out; omega)
  have hz2 : BZ ≤ w2.heap.size := Nat.le_trans hz1 hgw2.size
  clear hgw2 hown1 hz1 hg1
  clear qc qSo qT qKb
  have qc := (Hc.out.grown hg2).1
  have qSo := (HSo.out.grown hg2).1
  have qT := (HT.out.grown hg2).1
  have qKb := (HKb.out.grown hg2).1
  have ha2 := World.grownBy_alloc w2 (.cells #[.int .i64 rK] 3) none
  go_wp2_with (at_builtin; refine append_intsR rfl _ _ rfl BZ _ nj l2 rfl (hown2.alloc _) _ _ _ [rK] rfl rfl (ints_one w2 rK) (by have := HNJ.out; omega) (Nat.le_trans hz2 ha2.size) ?_)
  intro v3 w3 hown3 hgw3
  rw [HNJ.out.2.2] at hown3
  replace hown3 : w3.ownsRow BZ 3 1 v3 n9 (intCells lA) := by rw [← HAP.out.2, intCells, List.map_append]; exact hown3
  obtain ⟨xa3, xc3, rfl⟩ := own_shape hown3
  have g : V12.grownBy w3 none := grown_own (World.grownBy.trans hg2 ha2) hgw3 (fun x e => by have h1 := (hown2.lt x e).1; have h2 := HBZ.out; omega)
  have hra : IntsW w3 xa3 xc3 lA := IntsN.weak (IntsN.own (N := fun _ => False) HLE.out.2.2.1 hown3 (fun k _ h => h))
  clear hgw3 hown2 hz2 hg2 ha2 hown3
  clear qc qSo qT qKb
  obtain ⟨V13, hv⟩ : ∃ z, w3 = z := ⟨_, rfl⟩
  rw [hv] at g hra ⊢
  clear hv
  replace Hc := gC Hc g
  replace HSo := gC HSo g
  replace HT := gC HT g
  replace HKb := gC HKb g
  replace HU := gR HU g
  replace HU2 := gR HU2 g
  replace HV := gV HV g
  replace RfA := gR RfA g
  replace RfB := gR RfB g
  replace RlS := gR RlS g
  replace RlT := gR RlT g
  replace HG := gG HG g
  clear g
  have RlA := Lib.hid hra
  clear hra HBZ
  have qc := Hc.out.1
  have qSo := HSo.out.1
  have qT := HT.out.1
  have qKb := HKb.out.1
  go_wp2_with fail
  clear qc qSo qT qKb
  go_loopg [20] n9 (fun gk s20 wr => ∃ (k : Nat), s20 = .int .i64 (k : Int) ∧ gk = n9 - k ∧ k ≤ n9 ∧ V13.grownBy wr none)
  case atStart => exact ⟨0, rfl, rfl, Nat.zero_le _, grown_refl _ _⟩
  case round =>
    obtain ⟨k, rfl, hgk, hk, hgr⟩ := hrel
    have HI := Lib.hid hgk; clear hgk
    have HGR := Lib.hid hgr; clear hgr
    by_cases hkn : k < n9
    · have f1 : decide (k < n9) = true := decide_eq_true hkn
      have f2 : decide ((k : Int) < (n9 : Int)) = true := decide_eq_true (by omega)
      have hk1 : IntKind.i64.wrap ((k : Int) + 1) = ((k + 1 : Nat) : Int) := by have := HNJ.out; rw [IntWalk.i64_in _ (by omega)]; omega
      have hj0 : (0 : Int) ≤ (k : Int) := by omega
      have hj1 : (k : Int) < (n9 : Int) := by omega
      obtain ⟨r, hr⟩ : ∃ r, lA[k]? = some r := ⟨_, List.getElem?_eq_getElem (by rw [HLE.out.2.2.1]; exact hkn)⟩
      obtain ⟨ba, oa, hba, x0⟩ := (RlA.out.grown HGR.out).at hr
      subst hba
      rcases HCA.out r (List.mem_of_getElem? hr) with rfl | rfl
      · clear hr
        go_wp2_with fail
        go_roundg (n9 - (k + 1))
        case measure => rw [HI.out]; omega
        case rel => exact ⟨k + 1, rfl, rfl, by omega, HGR.out⟩
      · clear hr
        go_wp2_with fail
        go_roundg (n9 - (k + 1))
        case measure => rw [HI.out]; omega
        case rel => exact ⟨k + 1, rfl, rfl, by omega, HGR.out⟩
    · have f1 : decide (k < n9) = false := decide_eq_false hkn
      have f2 : decide ((k : Int) < (n9 : Int)) = false := decide_eq_false (by omega)
      have g := HGR.out
      clear hkn HGR HI
      obtain ⟨V14, hv⟩ : ∃ z, wr = z := ⟨_, rfl⟩
      rw [hv] at g ⊢
      clear hv
      replace Hc := gC Hc g
      replace HSo := gC HSo g
      replace HT := gC HT g
      replace HKb := gC HKb g
      replace HU := gR HU g
      replace HU2 := gR HU2 g
      replace HV := gV HV g
      replace RfA := gR RfA g
      replace RfB := gR RfB g
      replace RlS := gR RlS g
      replace RlT := gR RlT g
      replace RlA := gR RlA g
      replace HG := gG HG g
      clear g
      have qc := Hc.out.1
      have qSo := HSo.out.1
      have qT := HT.out.1
      have qKb := HKb.out.1
      go_wp2_with fail
      clear qc qSo qT qKb
      refine (HCJ.out _ _ _ _ _ _ _ Hc.out.2.2 RlS.out RlT.out).mono ?_
      rintro e V15 ⟨a15, c15, b15, d15, rfl, hr, hrow, g⟩
      replace Hc := gC Hc g
      replace HSo := gC HSo g
      replace HT := gC HT g
      replace HKb := gC HKb g
      replace HU := gR HU g
      replace HU2 := gR HU2 g
      replace HV := gV HV g
      replace RfA := gR RfA g
      replace RfB := gR RfB g
      replace RlS := gR RlS g
      replace RlT := gR RlT g
      replace RlA := gR RlA g
      replace HG := gG HG g
      clear g
      have RlJ := Lib.hid hrow
      clear hrow
      have qc := Hc.out.1
      have qSo := HSo.out.1
      have qT := HT.out.1
      have qKb := HKb.out.1
      go_upto_region 17 with fail
      clear qc qSo qT qKb
      have hb := CB.new hr
      have g := World.grownBy_alloc V15 (.cells #[.slice a15 gs.length c15] 32) none
      obtain ⟨V16, hV16⟩ : ∃ z, World.alloc V15 (.cells #[.slice a15 gs.length c15] 32) = z := ⟨_, rfl⟩
      rw [hV16] at g hb ⊢
      clear hV16 hr
      obtain ⟨bJ, hbb⟩ : ∃ b, V15.heap.size = b := ⟨_, rfl⟩
      rw [hbb] at hb ⊢
      clear hbb
      replace Hc := gC Hc g
      replace HSo := gC HSo g
      replace HT := gC HT g
      replace HKb := gC HKb g
      replace HU := gR HU g
      replace HU2 := gR HU2 g
      replace HV := gV HV g
      replace RfA := gR RfA g
      replace RfB := gR RfB g
      replace RlS := gR RlS g
      replace RlT := gR RlT g
      replace RlA := gR RlA g
      replace RlJ := gR RlJ g
      replace HG := gG HG g
      clear g
      have HJ := Lib.hid hb
      clear hb
      have qc := Hc.out.1
      have qSo := HSo.out.1
      have qT := HT.out.1
      have qKb := HKb.out.1
      have qJ := HJ.out.1
      go_wp2_with fail
      clear qc qSo qT qKb qJ
      refine (HCL.out _ _ _ _ _ _ _ Hc.out.2.2 RlS.out RlT.out).mono ?_
      rintro e V17 ⟨a17, c17, rfl, hr, g⟩
      replace Hc := gC Hc g
      replace HSo := gC HSo g
      replace HT := gC HT g
      replace HKb := gC HKb g
      replace HJ := gC HJ g
      replace HU := gR HU g
      replace HU2 := gR HU2 g
      replace HV := gV HV g
      replace RfA := gR RfA g
      replace RfB := gR RfB g
      replace RlS := gR RlS g
      replace RlT := gR RlT g
      replace RlA := gR RlA g
      replace RlJ := gR RlJ g
      replace HG := gG HG g
      clear g
      have qc := Hc.out.1
      have qSo := HSo.out.1
      have qT := HT.out.1
      have qKb := HKb.out.1
      have qJ := HJ.out.1
      go_upto_region 18 with fail
      clear qc qSo qT qKb qJ
      have hb := CB.new hr
      have g := World.grownBy_alloc V17 (.cells #[.slice a17 gs.length c17] 32) none
      obtain ⟨V18, hV18⟩ : ∃ z, World.alloc V17 (.cells #[.slice a17 gs.length c17] 32) = z := ⟨_, rfl⟩
      rw [hV18] at g hb ⊢
      clear hV18 hr
      obtain ⟨bLb, hbb⟩ : ∃ b, V17.heap.size = b := ⟨_, rfl⟩
      rw [hbb] at hb ⊢
      clear hbb
      replace Hc := gC Hc g
      replace HSo := gC HSo g
      replace HT := gC HT g
      replace HKb := gC HKb g
      replace HJ := gC HJ g
      replace HU := gR HU g
      replace HU2 := gR HU2 g
      replace HV := gV HV g
      replace RfA := gR RfA g
      replace RfB := gR RfB g
      replace RlS := gR RlS g
      replace RlT := gR RlT g
      replace RlA := gR RlA g
      replace RlJ := gR RlJ g
      replace HG := gG HG g
      clear g
      have HLb := Lib.hid hb
      clear hb
      have qc := Hc.out.1
      have qSo := HSo.out.1
      have qT := HT.out.1
      have qKb := HKb.out.1
      have qJ := HJ.out.1
      have qLb := HLb.out.1
      go_wp2_with fail
      clear qc qSo qT qKb qJ qLb
      go_loopg [25] nj (fun gk s25 wr => ∃ (k : Nat), s25 = .int .i64 (k : Int) ∧ gk = nj - k ∧ k ≤ nj ∧ V18.grownBy wr none)
      case atStart => exact ⟨0, rfl, rfl, Nat.zero_le _, grown_refl _ _⟩
      case round =>
        obtain ⟨k, rfl, hgk, hk, hgr⟩ := hrel
        have HI := Lib.hid hgk; clear hgk
        have HGR := Lib.hid hgr; clear hgr
        by_cases hkn : k < nj
        · have f1 : decide (k < nj) = true := decide_eq_true hkn
          have f2 : decide ((k : Int) < (nj : Int)) = true := decide_eq_true (by omega)
          have hk1 : IntKind.i64.wrap ((k : Int) + 1) = ((k + 1 : Nat) : Int) := by have := HNJ.out; rw [IntWalk.i64_in _ (by omega)]; omega
          have hj0 : (0 : Int) ≤ (k : Int) := by omega
          have hj1 : (k : Int) < (nj : Int) := by omega
          obtain ⟨r, hr⟩ : ∃ r, lJ[k]? = some r := ⟨_, List.getElem?_eq_getElem (by rw [HLE.out.2.2.2]; exact hkn)⟩
          obtain ⟨ba, oa, hba, x0⟩ := (RlJ.out.grown HGR.out).at hr
          subst hba
          rcases HCJ2.out r (List.mem_of_getElem? hr) with rfl | rfl
          · clear hr
            go_wp2_with fail
            go_roundg (nj - (k + 1))
            case measure => rw [HI.out]; omega
            case rel => exact ⟨k + 1, rfl, rfl, by omega, HGR.out⟩
          · clear hr
            go_wp2_with fail
            go_roundg (nj - (k + 1))
            case measure => rw [HI.out]; omega
            case rel => exact ⟨k + 1, rfl, rfl, by omega, HGR.out⟩
        · have f1 : decide (k < nj) = false := decide_eq_false hkn
          have f2 : decide ((k : Int) < (nj : Int)) = false := decide_eq_false (by omega)
          have g := HGR.out
          clear hkn HGR HI
          obtain ⟨V19, hv⟩ : ∃ z, wr = z := ⟨_, rfl⟩
          rw [hv] at g ⊢
          clear hv
          replace Hc := gC Hc g
          replace HSo := gC HSo g
          replace HT := gC HT g
          replace HKb := gC HKb g
          replace HJ := gC HJ g
          replace HLb := gC HLb g
          replace HU := gR HU g
          replace HU2 := gR HU2 g
          replace HV := gV HV g
          replace RfA := gR RfA g
          replace RfB := gR RfB g
          replace RlS := gR RlS g
          replace RlT := gR RlT g
          replace RlA := gR RlA g
          replace RlJ := gR RlJ g
          replace HG := gG HG g
          clear g
          have qc := Hc.out.1
          have qSo := HSo.out.1
          have qT := HT.out.1
          have qKb := HKb.out.1
          have qJ := HJ.out.1
          have qLb := HLb.out.1
          go_wp2_with fail
          clear qc qSo qT qKb qJ qLb
          refine (HSM.out _ _ _ _ _ Hc.out.2.2 HJ.out.2.2).mono ?_
          rintro e V20 ⟨rfl, g⟩
          replace Hc := gC Hc g
          replace HSo := gC HSo g
          replace HT := gC HT g
          replace HKb := gC HKb g
          replace HJ := gC HJ g
          replace HLb := gC HLb g
          replace HU := gR HU g
          replace HU2 := gR HU2 g
          replace HV := gV HV g
          replace RfA := gR RfA g
          replace RfB := gR RfB g
          replace RlS := gR RlS g
          replace RlT := gR RlT g
          replace RlA := gR RlA g
          replace RlJ := gR RlJ g
          replace HG := gG HG g
          clear g
          have qc := Hc.out.1
          have qSo := HSo.out.1
          have qT := HT.out.1
          have qKb := HKb.out.1
          have qJ := HJ.out.1
          have qLb := HLb.out.1
          go_wp2_with fail
          clear qc qSo qT qKb qJ qLb
          refine (HSM.out _ _ _ _ _ Hc.out.2.2 HLb.out.2.2).mono ?_
          rintro e V21 ⟨rfl, g⟩
          replace Hc := gC Hc g
          replace HSo := gC HSo g
          replace HT := gC HT g
          replace HKb := gC HKb g
          replace HJ := gC HJ g
          replace HLb := gC HLb g
          replace HU := gR HU g
          replace HU2 := gR HU2 g
          replace HV := gV HV g
          replace RfA := gR RfA g
          replace RfB := gR RfB g
          replace RlS := gR RlS g
          replace RlT := gR RlT g
          replace RlA := gR RlA g
          replace RlJ := gR RlJ g
          replace HG := gG HG g
          clear g
          rcases HCL2.out with h0 | h0
          · subst h0
            go_wp2_with fail
            go_ret
            exact ⟨rfl, HG.out⟩
          · subst h0
            go_wp2_with fail
            go_ret
            exact ⟨rfl, HG.out⟩
theorem valid24_o {gs : List Gt} {l : List Int} {n : Nat} {a : Option Addr} {c : Nat} {b : Option Addr} {d : Nat} {w : World} (hn : l.length = n) (ho : ∀ r ∈ l, Ok gs r) (hl : gs.length ≤ 990) (h : GatesW w a c gs) (hu : IntsW w b d l) (h9 : n ≤ 100) : Calls Try.prog 24 #[.agg #[.slice a gs.length c], .slice b n d] w fun x w' => x = .returned (.bool true) ∧ w.grownBy w' none := by
  subst hn
  have := validR_calls gs l a c b d w h hu (by omega) (by omega)
  rw [okB_iff.2 ho] at this
  exact this
theorem sameI_n {l : List Int} {n : Nat} {b : Option Addr} {d : Nat} {b2 : Option Addr} {d2 : Nat} {w : World} (hn : l.length = n) (h9 : n ≤ 1000) (hu : IntsW w b d l) (hv : IntsW w b2 d2 l) : Calls Try.prog 27 #[.slice b n d, .slice b2 n d2] w fun x w' => x = .returned (.bool true) ∧ w.grownBy w' none := by
  subst hn
  have := sameI_calls l l b d b2 d2 w hu hv h9 h9
  rw [decide_eq_true (rfl : l = l)] at this
  exact this

set_option maxRecDepth 100000 in
set_option maxHeartbeats 4000000 in
theorem extend_calls (l : List Stp) (A B : List Nat) (vals : List Bool) (y : Int) (sa : Option Addr) (sc : Nat) (aa : Option Addr) (ac : Nat) (ba : Option Addr) (bc : Nat) (va : Option Addr) (vc : Nat) (kk : Int) (w : World) (h : RawIn w l A B vals y sa sc aa ac ba bc va vc) (hk : -128 ≤ kk ∧ kk ≤ 127) :
    Calls Try.prog 4 #[.agg #[.slice sa l.length sc, .slice aa A.length ac, .slice ba B.length bc, .slice va vals.length vc, .int .i8 y], .int .i8 kk] w fun e w' => e = .returned (.bool true) ∧ w.grownBy w' none := by
  obtain ⟨nl, hnl⟩ : ∃ n, l.length = n := ⟨_, rfl⟩
  obtain ⟨na, hna⟩ : ∃ n, A.length = n := ⟨_, rfl⟩
  obtain ⟨nb, hnb⟩ : ∃ n, B.length = n := ⟨_, rfl⟩
  obtain ⟨nv, hnv⟩ : ∃ n, vals.length = n := ⟨_, rfl⟩
  have HN := Lib.hid (And.intro hnl (And.intro hna (And.intro hnb hnv)))
  rw [hnl, hna, hnb, hnv]
  have hg1 := World.grownBy_alloc w (.cells #[.slice sa nl sc, .slice aa na ac, .slice ba nb bc, .slice va nv vc, .int .i8 y] 27) none
  have hq := raw_cells w sa nl sc aa na ac ba nb bc va nv vc y
  obtain ⟨W1, hW1⟩ : ∃ z, w.alloc (.cells #[.slice sa nl sc, .slice aa na ac, .slice ba nb bc, .slice va nv vc, .int .i8 y] 27) = z := ⟨_, rfl⟩
  rw [hW1] at hg1 hq
  obtain ⟨bX, hbX⟩ : ∃ z, w.heap.size = z := ⟨_, rfl⟩
  rw [hbX] at hq
  have HX := Lib.hid (show RawB W1 bX sa nl sc aa na ac ba nb bc va nv vc y from ⟨hq.1, hq.2.1, hq.2.2.1, hq.2.2.2.1, hq.2.2.2.2⟩)
  have HI := Lib.hid (h.grown hg1)
  have HKK := Lib.hid hk
  have HG := Lib.hid hg1
  clear h hk hg1 hq hnl hna hnb hnv
  go_enter Try.func4, Try.ntmps4
  go_wp2_with fail
  clear hW1 hbX
  refine (head_calls _).mono ?_
  rintro e V1 ⟨rfl, g⟩
  replace HX := Lib.hid (HX.out.grown g)
  replace HI := Lib.hid (HI.out.grown g)
  replace HG := Lib.hid (World.grownBy.trans HG.out g)
  clear g
  have x0 := HX.out.c0
  have x1 := HX.out.c1
  have x2 := HX.out.c2
  have x3 := HX.out.c3
  have x4 := HX.out.c4
  go_wp2_with fail
  clear x0 x1 x2 x3 x4
  refine (great_calls _ sa nl sc aa na ac ba nb bc va nv vc y).mono ?_
  rintro e V2 ⟨rfl, g⟩
  replace HX := Lib.hid (HX.out.grown g)
  replace HI := Lib.hid (HI.out.grown g)
  replace HG := Lib.hid (World.grownBy.trans HG.out g)
  clear g
  cases hgr : greatB nl na nb nv with
  | true =>
    go_wp2_with fail
    go_ret
    exact ⟨rfl, HG.out⟩
  | false =>
    have HGN := Lib.hid (great_no hgr)
    clear hgr
    have x0 := HX.out.c0
    have x1 := HX.out.c1
    have x2 := HX.out.c2
    have x3 := HX.out.c3
    have x4 := HX.out.c4
    go_upto_region 4 with fail
    clear x0 x1 x2 x3 x4
    have x0 := HX.out.c0
    have x1 := HX.out.c1
    have x2 := HX.out.c2
    have x3 := HX.out.c3
    have x4 := HX.out.c4
    go_wp2_with fail
    clear x0 x1 x2 x3 x4
    obtain ⟨g0, la, lb, hgd, hgl, hoa, hob, hla, hlb, hic⟩ := inputs_n l A B vals y sa sc aa ac ba bc va vc V2 HI.out HN.out.1 HN.out.2.1 HN.out.2.2.1 ⟨HGN.out.1, HGN.out.2.1, HGN.out.2.2.1⟩
    have HGD := Lib.hid hgd
    have HL := Lib.hid hgl
    have OA := Lib.hid hoa
    have OB := Lib.hid hob
    have NA := Lib.hid hla
    have NB := Lib.hid hlb
    have HIC := Lib.hid hic
    clear hgd hgl hoa hob hla hlb hic
    refine HIC.out.mono ?_
    rintro e V3 ⟨a3, c3, b3, d3, b3x, d3x, rfl, hr, hra, hrb, g⟩
    replace HX := gX HX g
    replace HI := gI HI g
    replace HG := gG HG g
    clear g
    have Rla := Lib.hid hra
    have Rlb := Lib.hid hrb
    clear hra hrb HIC
    have x0 := HX.out.c0
    have x1 := HX.out.c1
    have x2 := HX.out.c2
    have x3 := HX.out.c3
    have x4 := HX.out.c4
    go_upto_region 5 with fail
    clear x0 x1 x2 x3 x4
    have hb := CB.new hr
    have g := World.grownBy_alloc V3 (.cells #[.slice a3 g0.length c3] 32) none
    obtain ⟨V4, hV4⟩ : ∃ z, World.alloc V3 (.cells #[.slice a3 g0.length c3] 32) = z := ⟨_, rfl⟩
    rw [hV4] at g hb ⊢
    clear hV4 hr
    obtain ⟨bc, hbb⟩ : ∃ b, V3.heap.size = b := ⟨_, rfl⟩
    rw [hbb] at hb ⊢
    clear hbb
    replace HX := gX HX g
    replace HI := gI HI g
    replace Rla := gR Rla g
    replace Rlb := gR Rlb g
    replace HG := gG HG g
    clear g
    have Hc := Lib.hid hb
    clear hb
    have HB := Lib.hid (show na ≤ 9 ∧ nb ≤ 9 from ⟨HGN.out.2.1, HGN.out.2.2.1⟩)
    obtain ⟨rS, eS⟩ : ∃ rr9, (sorterP la).run g0 = rr9 := ⟨_, rfl⟩
    obtain ⟨gS, lS⟩ := rS
    have hsz := HL.out
    have na9 : la.length ≤ 9 := by have := NA.out; have := HB.out; omega
    have nb9 : lb.length ≤ 9 := by have := NB.out; have := HB.out; omega
    have dS := sorter_den eS HGD.out (by omega) OA.out na9
    have hS1 := dS.1.len
    obtain ⟨rT, eT⟩ : ∃ rr9, (totalP 6 la).run g0 = rr9 := ⟨_, rfl⟩
    obtain ⟨gT, lT⟩ := rT
    have cT := costT9 la.length (by omega)
    have dT := total_den eT HGD.out (by omega) OA.out (by omega)
    have hT1 := dT.1.len
    obtain ⟨rP, eP⟩ : ∃ rr9, (atlP la kk).run g0 = rr9 := ⟨_, rfl⟩
    obtain ⟨gP, lP⟩ := rP
    have dP := atl_den eP HGD.out (by omega) OA.out na9
    have hP1 := dP.1.len
    obtain ⟨rU, eU⟩ : ∃ rr9, (countP la).run g0 = rr9 := ⟨_, rfl⟩
    obtain ⟨gU, lU⟩ := rU
    have cA := costC9 la.length (by omega)
    have cB := costC9 lb.length (by omega)
    have dU := count_den eU HGD.out (by omega) OA.out
    have hU1 := dU.1.len
    have obU : ∀ r ∈ lb, Ok gU r := fun r hr => dU.1.ok (OB.out r hr)
    obtain ⟨rV, eV⟩ : ∃ rr9, (countP lb).run gU = rr9 := ⟨_, rfl⟩
    obtain ⟨gV, lV⟩ := rV
    have dV := count_den eV dU.1.good (by omega) obU
    have hV1 := dV.1.len
    have lenU : lU.length = na := by rw [dU.2.1, NA.out]
    have lenV : lV.length = nb := by rw [dV.2.1, NB.out]
    have okU : ∀ r ∈ lU, Ok gV r := fun r hr => dV.1.ok ((dU.2.2 []).2.2 r hr)
    have okV : ∀ r ∈ lV, Ok gV r := fun r hr => (dV.2.2 []).2.2 r hr
    have cJ := costA9 lU.length (by omega) lV.length (by omega)
    obtain ⟨rJ, eJ⟩ : ∃ rr9, (addP lU lV).run gV = rr9 := ⟨_, rfl⟩
    obtain ⟨gJ, lJ⟩ := rJ
    have dJ := add_den eJ dV.1.good (by omega) okU okV
    have hJ1 := dJ.1.len
    obtain ⟨rL, eL⟩ : ∃ rr9, (lessP lU lV y).run gV = rr9 := ⟨_, rfl⟩
    obtain ⟨gL, lL⟩ := rL
    have dL := less_den eL dV.1.good (by omega) okU okV
    have hL1 := dL.1.len
    have sS := self_again (safe_sorterP HGD.out (by omega) OA.out) eS (by omega) HGD.out
    have sT := self_again (safe_totalP 6 la HGD.out OA.out (show la.length ≤ 2 ^ 6 by have : (2 : Nat) ^ 6 = 64 := rfl; omega) (by omega)) eT (by omega) HGD.out
    have sP := self_again (safe_atlP HGD.out (by omega) OA.out kk) eP (by omega) HGD.out
    have sJ := self_again (safe_addP dV.1.good okU okV (by omega)) eJ (by omega) dV.1.good
    have sL := self_again (safe_lessP dV.1.good okU okV y (by omega)) eL (by omega) dV.1.good
    have oaS : ∀ r ∈ la, Ok gS r := fun r hr => dS.1.ok (OA.out r hr)
    have oaT : ∀ r ∈ la, Ok gT r := fun r hr => dT.1.ok (OA.out r hr)
    have oaP : ∀ r ∈ la, Ok gP r := fun r hr => dP.1.ok (OA.out r hr)
    have okUJ : ∀ r ∈ lU, Ok gJ r := fun r hr => dJ.1.ok (okU r hr)
    have okVJ : ∀ r ∈ lV, Ok gJ r := fun r hr => dJ.1.ok (okV r hr)
    have okUL : ∀ r ∈ lU, Ok gL r := fun r hr => dL.1.ok (okU r hr)
    have okVL : ∀ r ∈ lV, Ok gL r := fun r hr => dL.1.ok (okV r hr)
    obtain ⟨nab, hnab⟩ : ∃ z, na + nb = z := ⟨_, rfl⟩
    have HNM := Lib.hid (show na + nb = nab ∧ nab ≤ 18 from ⟨hnab, by have := HB.out; omega⟩)
    have PX := Lib.hid (show g0 <+: gS ∧ g0 <+: gT ∧ g0 <+: gP ∧ gV <+: gJ ∧ gV <+: gL from ⟨dS.1.pre, dT.1.pre, dP.1.pre, dJ.1.pre, dL.1.pre⟩)
    have GXs := Lib.hid (show (Good gS ∧ gS.length ≤ 850) ∧ (Good gT ∧ gT.length ≤ 850) ∧ (Good gP ∧ gP.length ≤ 850) ∧ (Good gJ ∧ gJ.length ≤ 850) ∧ (Good gL ∧ gL.length ≤ 850) from ⟨⟨dS.1.good, by omega⟩, ⟨dT.1.good, by omega⟩, ⟨dP.1.good, by omega⟩, ⟨dJ.1.good, by omega⟩, ⟨dL.1.good, by omega⟩⟩)
    have OX := Lib.hid (show (∀ r ∈ lS, Ok gS r) ∧ (∀ r ∈ lT, Ok gT r) ∧ (∀ r ∈ [lP], Ok gP r) ∧ (∀ r ∈ lJ, Ok gJ r) ∧ (∀ r ∈ [lL], Ok gL r) from ⟨(dS.2.2 []).2.2, (dT.2.2 []).2.2, fun r hr => by rw [List.mem_singleton.1 hr]; exact dP.2.1, dJ.2.2.1, fun r hr => by rw [List.mem_singleton.1 hr]; exact dL.2.1⟩)
    have LX := Lib.hid (show lS.length = na ∧ lT.length = na ∧ lJ.length = nab from ⟨by rw [dS.2.1, NA.out], by rw [dT.2.1, NA.out], by rw [dJ.2.1, lenU, lenV, hnab]⟩)
    have HY := Lib.hid HI.out.oky
    have HCS := Lib.hid (fun (W : World) (a : Option Addr) (c : Nat) (b : Option Addr) (d : Nat) (hW : GatesW W a c g0) (hr : IntsW W b d la) => sorter_n NA.out eS HGD.out (by omega) OA.out (by omega) hW hr)
    have HCT := Lib.hid (fun (W : World) (a : Option Addr) (c : Nat) (b : Option Addr) (d : Nat) (hW : GatesW W a c g0) (hr : IntsW W b d la) => totalizer_n NA.out eT HGD.out OA.out (by omega) (by omega) hW hr)
    have HCP := Lib.hid (fun (W : World) (a : Option Addr) (c : Nat) (b : Option Addr) (d : Nat) (hW : GatesW W a c g0) (hr : IntsW W b d la) => atleast_n NA.out eP HGD.out (by omega) OA.out (by omega) hW hr)
    have HCU := Lib.hid (fun (W : World) (a : Option Addr) (c : Nat) (b : Option Addr) (d : Nat) (hW : GatesW W a c g0) (hr : IntsW W b d la) => count_n NA.out eU HGD.out OA.out (by omega) (by omega) hW hr)
    have HCV := Lib.hid (fun (W : World) (a : Option Addr) (c : Nat) (b : Option Addr) (d : Nat) (hW : GatesW W a c gU) (hr : IntsW W b d lb) => count_n NB.out eV dU.1.good obU (by omega) (by omega) hW hr)
    have HCJ := Lib.hid (fun (W : World) (a : Option Addr) (c : Nat) (b : Option Addr) (d : Nat) (b2 : Option Addr) (d2 : Nat) (hW : GatesW W a c gV) (hr : IntsW W b d lU) (hr2 : IntsW W b2 d2 lV) => add_n lenU lenV hnab eJ dV.1.good okU okV (by omega) (by omega) (by omega) hW hr hr2)
    have HCL := Lib.hid (fun (W : World) (a : Option Addr) (c : Nat) (b : Option Addr) (d : Nat) (b2 : Option Addr) (d2 : Nat) (hW : GatesW W a c gV) (hr : IntsW W b d lU) (hr2 : IntsW W b2 d2 lV) => less_n lenU lenV eL dV.1.good okU okV (by omega) (by omega) (by omega) (by have := HY.out; omega) hW hr hr2)
    have HDS := Lib.hid (fun (W : World) (a : Option Addr) (c : Nat) (b : Option Addr) (d : Nat) (hW : GatesW W a c gS) (hr : IntsW W b d la) => sorter_n NA.out sS dS.1.good (by omega) oaS (by omega) hW hr)
    have HDT := Lib.hid (fun (W : World) (a : Option Addr) (c : Nat) (b : Option Addr) (d : Nat) (hW : GatesW W a c gT) (hr : IntsW W b d la) => totalizer_n NA.out sT dT.1.good oaT (by omega) (by omega) hW hr)
    have HDP := Lib.hid (fun (W : World) (a : Option Addr) (c : Nat) (b : Option Addr) (d : Nat) (hW : GatesW W a c gP) (hr : IntsW W b d la) => atleast_n NA.out sP dP.1.good (by omega) oaP (by omega) hW hr)
    have HDJ := Lib.hid (fun (W : World) (a : Option Addr) (c : Nat) (b : Option Addr) (d : Nat) (b2 : Option Addr) (d2 : Nat) (hW : GatesW W a c gJ) (hr : IntsW W b d lU) (hr2 : IntsW W b2 d2 lV) => add_n lenU lenV hnab sJ dJ.1.good okUJ okVJ (by omega) (by omega) (by omega) hW hr hr2)
    have HDL := Lib.hid (fun (W : World) (a : Option Addr) (c : Nat) (b : Option Addr) (d : Nat) (b2 : Option Addr) (d2 : Nat) (hW : GatesW W a c gL) (hr : IntsW W b d lU) (hr2 : IntsW W b2 d2 lV) => less_n lenU lenV sL dL.1.good okUL okVL (by omega) (by omega) (by omega) (by have := HY.out; omega) hW hr hr2)
    clear eS eT eP eU eV eJ eL sS sT sP sJ sL oaS oaT oaP okUJ okVJ okUL okVL dS dT dP dU dV dJ dL hS1 hT1 hP1 hU1 hV1 hJ1 hL1 cT cA cB cJ obU lenU lenV okU okV hnab na9 nb9 hsz
    have wk : IntKind.i64.wrap kk = kk := IntWalk.i64_in _ (by have := HKK.out; omega)
    have wy : IntKind.i64.wrap y = y := IntWalk.i64_in _ (by have := HY.out; omega)
    have qc := Hc.out.1
    go_wp2_with fail
    clear qc
    refine (HCS.out _ _ _ _ _ Hc.out.2.2 Rla.out).mono ?_
    rintro e V5 ⟨a5, c5, b5, d5, rfl, hr, hrow, g⟩
    replace Hc := gC Hc g
    replace HX := gX HX g
    replace HI := gI HI g
    replace Rla := gR Rla g
    replace Rlb := gR Rlb g
    replace HG := gG HG g
    clear g
    have RlS := Lib.hid hrow
    clear hrow
    have qc := Hc.out.1
    go_upto_region 6 with fail
    clear qc
    have hb := CB.new hr
    have g := World.grownBy_alloc V5 (.cells #[.slice a5 gS.length c5] 32) none
    obtain ⟨V6, hV6⟩ : ∃ z, World.alloc V5 (.cells #[.slice a5 gS.length c5] 32) = z := ⟨_, rfl⟩
    rw [hV6] at g hb ⊢
    clear hV6 hr
    obtain ⟨bSo, hbb⟩ : ∃ b, V5.heap.size = b := ⟨_, rfl⟩
    rw [hbb] at hb ⊢
    clear hbb
    replace Hc := gC Hc g
    replace HX := gX HX g
    replace HI := gI HI g
    replace Rla := gR Rla g
    replace Rlb := gR Rlb g
    replace RlS := gR RlS g
    replace HG := gG HG g
    clear g
    have HSo := Lib.hid hb
    clear hb
    have qc := Hc.out.1
    have qSo := HSo.out.1
    go_wp2_with fail
    clear qc qSo
    refine (HCT.out _ _ _ _ _ Hc.out.2.2 Rla.out).mono ?_
    rintro e V7 ⟨a7, c7, b7, d7, rfl, hr, hrow, g⟩
    replace Hc := gC Hc g
    replace HSo := gC HSo g
    replace HX := gX HX g
    replace HI := gI HI g
    replace Rla := gR Rla g
    replace Rlb := gR Rlb g
    replace RlS := gR RlS g
    replace HG := gG HG g
    clear g
    have RlT := Lib.hid hrow
    clear hrow
    have qc := Hc.out.1
    have qSo := HSo.out.1
    go_upto_region 7 with fail
    clear qc qSo
    have hb := CB.new hr
    have g := World.grownBy_alloc V7 (.cells #[.slice a7 gT.length c7] 32) none
    obtain ⟨V8, hV8⟩ : ∃ z, World.alloc V7 (.cells #[.slice a7 gT.length c7] 32) = z := ⟨_, rfl⟩
    rw [hV8] at g hb ⊢
    clear hV8 hr
    obtain ⟨bT, hbb⟩ : ∃ b, V7.heap.size = b := ⟨_, rfl⟩
    rw [hbb] at hb ⊢
    clear hbb
    replace Hc := gC Hc g
    replace HSo := gC HSo g
    replace HX := gX HX g
    replace HI := gI HI g
    replace Rla := gR Rla g
    replace Rlb := gR Rlb g
    replace RlS := gR RlS g
    replace RlT := gR RlT g
    replace HG := gG HG g
    clear g
    have HT := Lib.hid hb
    clear hb
    have qc := Hc.out.1
    have qSo := HSo.out.1
    have qT := HT.out.1
    go_wp2_with fail
    clear qc qSo qT
    refine (HCP.out _ _ _ _ _ Hc.out.2.2 Rla.out).mono ?_
    rintro e V9 ⟨a9, c9, rfl, hr, g⟩
    replace Hc := gC Hc g
    replace HSo := gC HSo g
    replace HT := gC HT g
    replace HX := gX HX g
    replace HI := gI HI g
    replace Rla := gR Rla g
    replace Rlb := gR Rlb g
    replace RlS := gR RlS g
    replace RlT := gR RlT g
    replace HG := gG HG g
    clear g
    have qc := Hc.out.1
    have qSo := HSo.out.1
    have qT := HT.out.1
    go_upto_region 8 with fail
    clear qc qSo qT
    have hb := CB.new hr
    have g := World.grownBy_alloc V9 (.cells #[.slice a9 gP.length c9] 32) none
    obtain ⟨V10, hV10⟩ : ∃ z, World.alloc V9 (.cells #[.slice a9 gP.length c9] 32) = z := ⟨_, rfl⟩
    rw [hV10] at g hb ⊢
    clear hV10 hr
    obtain ⟨bP, hbb⟩ : ∃ b, V9.heap.size = b := ⟨_, rfl⟩
    rw [hbb] at hb ⊢
    clear hbb
    replace Hc := gC Hc g
    replace HSo := gC HSo g
    replace HT := gC HT g
    replace HX := gX HX g
    replace HI := gI HI g
    replace Rla := gR Rla g
    replace Rlb := gR Rlb g
    replace RlS := gR RlS g
    replace RlT := gR RlT g
    replace HG := gG HG g
    clear g
    have HP := Lib.hid hb
    clear hb
    have qc := Hc.out.1
    have qSo := HSo.out.1
    have qT := HT.out.1
    have qP := HP.out.1
    go_wp2_with fail
    clear qc qSo qT qP
    refine (extends_yes g0 gS _ _ _ _ _ Hc.out.2.2 HSo.out.2.2 PX.out.1 GXs.out.1.1 (by have := GXs.out.1.2; omega)).mono ?_
    rintro e V11 ⟨rfl, g⟩
    replace Hc := gC Hc g
    replace HSo := gC HSo g
    replace HT := gC HT g
    replace HP := gC HP g
    replace HX := gX HX g
    replace HI := gI HI g
    replace Rla := gR Rla g
    replace Rlb := gR Rlb g
    replace RlS := gR RlS g
    replace RlT := gR RlT g
    replace HG := gG HG g
    clear g
    have qc := Hc.out.1
    have qSo := HSo.out.1
    have qT := HT.out.1
    have qP := HP.out.1
    go_wp2_with fail
    clear qc qSo qT qP
    refine (extends_yes g0 gT _ _ _ _ _ Hc.out.2.2 HT.out.2.2 PX.out.2.1 GXs.out.2.1.1 (by have := GXs.out.2.1.2; omega)).mono ?_
    rintro e V12 ⟨rfl, g⟩
    replace Hc := gC Hc g
    replace HSo := gC HSo g
    replace HT := gC HT g
    replace HP := gC HP g
    replace HX := gX HX g
    replace HI := gI HI g
    replace Rla := gR Rla g
    replace Rlb := gR Rlb g
    replace RlS := gR RlS g
    replace RlT := gR RlT g
    replace HG := gG HG g
    clear g
    have qc := Hc.out.1
    have qSo := HSo.out.1
    have qT := HT.out.1
    have qP := HP.out.1
    go_wp2_with fail
    clear qc qSo qT qP
    refine (extends_yes g0 gP _ _ _ _ _ Hc.out.2.2 HP.out.2.2 PX.out.2.2.1 GXs.out.2.2.1.1 (by have := GXs.out.2.2.1.2; omega)).mono ?_
    rintro e V13 ⟨rfl, g⟩
    replace Hc := gC Hc g
    replace HSo := gC HSo g
    replace HT := gC HT g
    replace HP := gC HP g
    replace HX := gX HX g
    replace HI := gI HI g
    replace Rla := gR Rla g
    replace Rlb := gR Rlb g
    replace RlS := gR RlS g
    replace RlT := gR RlT g
    replace HG := gG HG g
    clear g
    have qc := Hc.out.1
    have qSo := HSo.out.1
    have qT := HT.out.1
    have qP := HP.out.1
    go_wp2_with fail
    clear qc qSo qT qP
    refine (valid24_o LX.out.1 OX.out.1 (by have := GXs.out.1.2; omega) HSo.out.2.2 RlS.out (by have := HNM.out; omega)).mono ?_
    rintro e V14 ⟨rfl, g⟩
    replace Hc := gC Hc g
    replace HSo := gC HSo g
    replace HT := gC HT g
    replace HP := gC HP g
    replace HX := gX HX g
    replace HI := gI HI g
    replace Rla := gR Rla g
    replace Rlb := gR Rlb g
    replace RlS := gR RlS g
    replace RlT := gR RlT g
    replace HG := gG HG g
    clear g
    have qc := Hc.out.1
    have qSo := HSo.out.1
    have qT := HT.out.1
    have qP := HP.out.1
    go_wp2_with fail
    clear qc qSo qT qP
    refine (valid24_o LX.out.2.1 OX.out.2.1 (by have := GXs.out.2.1.2; omega) HT.out.2.2 RlT.out (by have := HNM.out; omega)).mono ?_
    rintro e V15 ⟨rfl, g⟩
    replace Hc := gC Hc g
    replace HSo := gC HSo g
    replace HT := gC HT g
    replace HP := gC HP g
    replace HX := gX HX g
    replace HI := gI HI g
    replace Rla := gR Rla g
    replace Rlb := gR Rlb g
    replace RlS := gR RlS g
    replace RlT := gR RlT g
    replace HG := gG HG g
    clear g
    have qc := Hc.out.1
    have qSo := HSo.out.1
    have qT := HT.out.1
    have qP := HP.out.1
    go_wp2_with fail
    clear qc qSo qT qP
    have g := World.grownBy_alloc V15 (.cells #[.int .i64 lP] 3) none
    have hrw := ints_one V15 (lP)
    obtain ⟨V16, hV16⟩ : ∃ z, World.alloc V15 (.cells #[.int .i64 lP] 3) = z := ⟨_, rfl⟩
    rw [hV16] at g hrw  ⊢
    clear hV16
    obtain ⟨p16, hp16⟩ : ∃ b, V15.heap.size = b := ⟨_, rfl⟩
    rw [hp16] at hrw  ⊢
    clear hp16
    replace Hc := gC Hc g
    replace HSo := gC HSo g
    replace HT := gC HT g
    replace HP := gC HP g
    replace HX := gX HX g
    replace HI := gI HI g
    replace Rla := gR Rla g
    replace Rlb := gR Rlb g
    replace RlS := gR RlS g
    replace RlT := gR RlT g
    replace HG := gG HG g
    clear g
    have RrP := Lib.hid hrw
    clear hrw
    refine (valid24_o (n := 1) rfl OX.out.2.2.1 (by have := GXs.out.2.2.1.2; omega) HP.out.2.2 RrP.out (by omega)).mono ?_
    rintro e V17 ⟨rfl, g⟩
    replace Hc := gC Hc g
    replace HSo := gC HSo g
    replace HT := gC HT g
    replace HP := gC HP g
    replace HX := gX HX g
    replace HI := gI HI g
    replace Rla := gR Rla g
    replace Rlb := gR Rlb g
    replace RlS := gR RlS g
    replace RlT := gR RlT g
    replace RrP := gR RrP g
    replace HG := gG HG g
    clear g
    have qc := Hc.out.1
    have qSo := HSo.out.1
    have qT := HT.out.1
    have qP := HP.out.1
    go_wp2_with fail
    clear qc qSo qT qP
    refine (HCU.out _ _ _ _ _ Hc.out.2.2 Rla.out).mono ?_
    rintro e V18 ⟨a18, c18, b18, d18, rfl, hr, hrow, g⟩
    replace Hc := gC Hc g
    replace HSo := gC HSo g
    replace HT := gC HT g
    replace HP := gC HP g
    replace HX := gX HX g
    replace HI := gI HI g
    replace Rla := gR Rla g
    replace Rlb := gR Rlb g
    replace RlS := gR RlS g
    replace RlT := gR RlT g
    replace HG := gG HG g
    clear g
    have RlU := Lib.hid hrow
    clear hrow
    have qc := Hc.out.1
    have qSo := HSo.out.1
    have qT := HT.out.1
    have qP := HP.out.1
    go_upto_region 11 with fail
    clear qc qSo qT qP
    have hb := CB.new hr
    have g := World.grownBy_alloc V18 (.cells #[.slice a18 gU.length c18] 32) none
    obtain ⟨V19, hV19⟩ : ∃ z, World.alloc V18 (.cells #[.slice a18 gU.length c18] 32) = z := ⟨_, rfl⟩
    rw [hV19] at g hb ⊢
    clear hV19 hr
    obtain ⟨bU, hbb⟩ : ∃ b, V18.heap.size = b := ⟨_, rfl⟩
    rw [hbb] at hb ⊢
    clear hbb
    replace Hc := gC Hc g
    replace HSo := gC HSo g
    replace HT := gC HT g
    replace HP := gC HP g
    replace HX := gX HX g
    replace HI := gI HI g
    replace Rla := gR Rla g
    replace Rlb := gR Rlb g
    replace RlS := gR RlS g
    replace RlT := gR RlT g
    replace RlU := gR RlU g
    replace HG := gG HG g
    clear g
    have HU := Lib.hid hb
    clear hb
    have qc := Hc.out.1
    have qSo := HSo.out.1
    have qT := HT.out.1
    have qP := HP.out.1
    have qU := HU.out.1
    go_wp2_with fail
    clear qc qSo qT qP qU
    refine (HCV.out _ _ _ _ _ HU.out.2.2 Rlb.out).mono ?_
    rintro e V20 ⟨a20, c20, b20, d20, rfl, hr, hrow, g⟩
    replace Hc := gC Hc g
    replace HSo := gC HSo g
    replace HT := gC HT g
    replace HP := gC HP g
    replace HU := gC HU g
    replace HX := gX HX g
    replace HI := gI HI g
    replace Rla := gR Rla g
    replace Rlb := gR Rlb g
    replace RlS := gR RlS g
    replace RlT := gR RlT g
    replace RlU := gR RlU g
    replace HG := gG HG g
    clear g
    have RlV := Lib.hid hrow
    clear hrow
    have qc := Hc.out.1
    have qSo := HSo.out.1
    have qT := HT.out.1
    have qP := HP.out.1
    have qU := HU.out.1
    go_upto_region 12 with fail
    clear qc qSo qT qP qU
    have hb := CB.new hr
    have g := World.grownBy_alloc V20 (.cells #[.slice a20 gV.length c20] 32) none
    obtain ⟨V21, hV21⟩ : ∃ z, World.alloc V20 (.cells #[.slice a20 gV.length c20] 32) = z := ⟨_, rfl⟩
    rw [hV21] at g hb ⊢
    clear hV21 hr
    obtain ⟨bV, hbb⟩ : ∃ b, V20.heap.size = b := ⟨_, rfl⟩
    rw [hbb] at hb ⊢
    clear hbb
    replace Hc := gC Hc g
    replace HSo := gC HSo g
    replace HT := gC HT g
    replace HP := gC HP g
    replace HU := gC HU g
    replace HX := gX HX g
    replace HI := gI HI g
    replace Rla := gR Rla g
    replace Rlb := gR Rlb g
    replace RlS := gR RlS g
    replace RlT := gR RlT g
    replace RlU := gR RlU g
    replace RlV := gR RlV g
    replace HG := gG HG g
    clear g
    have HV := Lib.hid hb
    clear hb
    have qc := Hc.out.1
    have qSo := HSo.out.1
    have qT := HT.out.1
    have qP := HP.out.1
    have qU := HU.out.1
    have qV := HV.out.1
    go_wp2_with fail
    clear qc qSo qT qP qU qV
    refine (HCJ.out _ _ _ _ _ _ _ HV.out.2.2 RlU.out RlV.out).mono ?_
    rintro e V22 ⟨a22, c22, b22, d22, rfl, hr, hrow, g⟩
    replace Hc := gC Hc g
    replace HSo := gC HSo g
    replace HT := gC HT g
    replace HP := gC HP g
    replace HU := gC HU g
    replace HV := gC HV g
    replace HX := gX HX g
    replace HI := gI HI g
    replace Rla := gR Rla g
    replace Rlb := gR Rlb g
    replace RlS := gR RlS g
    replace RlT := gR RlT g
    replace RlU := gR RlU g
    replace RlV := gR RlV g
    replace HG := gG HG g
    clear g
    have RlJ := Lib.hid hrow
    clear hrow
    have qc := Hc.out.1
    have qSo := HSo.out.1
    have qT := HT.out.1
    have qP := HP.out.1
    have qU := HU.out.1
    have qV := HV.out.1
    go_upto_region 13 with fail
    clear qc qSo qT qP qU qV
    have hb := CB.new hr
    have g := World.grownBy_alloc V22 (.cells #[.slice a22 gJ.length c22] 32) none
    obtain ⟨V23, hV23⟩ : ∃ z, World.alloc V22 (.cells #[.slice a22 gJ.length c22] 32) = z := ⟨_, rfl⟩
    rw [hV23] at g hb ⊢
    clear hV23 hr
    obtain ⟨bJ, hbb⟩ : ∃ b, V22.heap.size = b := ⟨_, rfl⟩
    rw [hbb] at hb ⊢
    clear hbb
    replace Hc := gC Hc g
    replace HSo := gC HSo g
    replace HT := gC HT g
    replace HP := gC HP g
    replace HU := gC HU g
    replace HV := gC HV g
    replace HX := gX HX g
    replace HI := gI HI g
    replace Rla := gR Rla g
    replace Rlb := gR Rlb g
    replace RlS := gR RlS g
    replace RlT := gR RlT g
    replace RlU := gR RlU g
    replace RlV := gR RlV g
    replace RlJ := gR RlJ g
    replace HG := gG HG g
    clear g
    have HJ := Lib.hid hb
    clear hb
    have qc := Hc.out.1
    have qSo := HSo.out.1
    have qT := HT.out.1
    have qP := HP.out.1
    have qU := HU.out.1
    have qV := HV.out.1
    have qJ := HJ.out.1
    have x4 := HX.out.c4
    go_wp2_with fail
    clear qc qSo qT qP qU qV qJ x4
    refine (HCL.out _ _ _ _ _ _ _ HV.out.2.2 RlU.out RlV.out).mono ?_
    rintro e V24 ⟨a24, c24, rfl, hr, g⟩
    replace Hc := gC Hc g
    replace HSo := gC HSo g
    replace HT := gC HT g
    replace HP := gC HP g
    replace HU := gC HU g
    replace HV := gC HV g
    replace HJ := gC HJ g
    replace HX := gX HX g
    replace HI := gI HI g
    replace Rla := gR Rla g
    replace Rlb := gR Rlb g
    replace RlS := gR RlS g
    replace RlT := gR RlT g
    replace RlU := gR RlU g
    replace RlV := gR RlV g
    replace RlJ := gR RlJ g
    replace HG := gG HG g
    clear g
    have qc := Hc.out.1
    have qSo := HSo.out.1
    have qT := HT.out.1
    have qP := HP.out.1
    have qU := HU.out.1
    have qV := HV.out.1
    have qJ := HJ.out.1
    go_upto_region 14 with fail
    clear qc qSo qT qP qU qV qJ
    have hb := CB.new hr
    have g := World.grownBy_alloc V24 (.cells #[.slice a24 gL.length c24] 32) none
    obtain ⟨V25, hV25⟩ : ∃ z, World.alloc V24 (.cells #[.slice a24 gL.length c24] 32) = z := ⟨_, rfl⟩
    rw [hV25] at g hb ⊢
    clear hV25 hr
    obtain ⟨bLb, hbb⟩ : ∃ b, V24.heap.size = b := ⟨_, rfl⟩
    rw [hbb] at hb ⊢
    clear hbb
    replace Hc := gC Hc g
    replace HSo := gC HSo g
    replace HT := gC HT g
    replace HP := gC HP g
    replace HU := gC HU g
    replace HV := gC HV g
    replace HJ := gC HJ g
    replace HX := gX HX g
    replace HI := gI HI g
    replace Rla := gR Rla g
    replace Rlb := gR Rlb g
    replace RlS := gR RlS g
    replace RlT := gR RlT g
    replace RlU := gR RlU g
    replace RlV := gR RlV g
    replace RlJ := gR RlJ g
    replace HG := gG HG g
    clear g
    have HLb := Lib.hid hb
    clear hb
    have qc := Hc.out.1
    have qSo := HSo.out.1
    have qT := HT.out.1
    have qP := HP.out.1
    have qU := HU.out.1
    have qV := HV.out.1
    have qJ := HJ.out.1
    have qLb := HLb.out.1
    go_wp2_with fail
    clear qc qSo qT qP qU qV qJ qLb
    refine (extends_yes gV gJ _ _ _ _ _ HV.out.2.2 HJ.out.2.2 PX.out.2.2.2.1 GXs.out.2.2.2.1.1 (by have := GXs.out.2.2.2.1.2; omega)).mono ?_
    rintro e V26 ⟨rfl, g⟩
    replace Hc := gC Hc g
    replace HSo := gC HSo g
    replace HT := gC HT g
    replace HP := gC HP g
    replace HU := gC HU g
    replace HV := gC HV g
    replace HJ := gC HJ g
    replace HLb := gC HLb g
    replace HX := gX HX g
    replace HI := gI HI g
    replace Rla := gR Rla g
    replace Rlb := gR Rlb g
    replace RlS := gR RlS g
    replace RlT := gR RlT g
    replace RlU := gR RlU g
    replace RlV := gR RlV g
    replace RlJ := gR RlJ g
    replace HG := gG HG g
    clear g
    have qc := Hc.out.1
    have qSo := HSo.out.1
    have qT := HT.out.1
    have qP := HP.out.1
    have qU := HU.out.1
    have qV := HV.out.1
    have qJ := HJ.out.1
    have qLb := HLb.out.1
    go_wp2_with fail
    clear qc qSo qT qP qU qV qJ qLb
    refine (extends_yes gV gL _ _ _ _ _ HV.out.2.2 HLb.out.2.2 PX.out.2.2.2.2 GXs.out.2.2.2.2.1 (by have := GXs.out.2.2.2.2.2; omega)).mono ?_
    rintro e V27 ⟨rfl, g⟩
    replace Hc := gC Hc g
    replace HSo := gC HSo g
    replace HT := gC HT g
    replace HP := gC HP g
    replace HU := gC HU g
    replace HV := gC HV g
    replace HJ := gC HJ g
    replace HLb := gC HLb g
    replace HX := gX HX g
    replace HI := gI HI g
    replace Rla := gR Rla g
    replace Rlb := gR Rlb g
    replace RlS := gR RlS g
    replace RlT := gR RlT g
    replace RlU := gR RlU g
    replace RlV := gR RlV g
    replace RlJ := gR RlJ g
    replace HG := gG HG g
    clear g
    have qc := Hc.out.1
    have qSo := HSo.out.1
    have qT := HT.out.1
    have qP := HP.out.1
    have qU := HU.out.1
    have qV := HV.out.1
    have qJ := HJ.out.1
    have qLb := HLb.out.1
    go_wp2_with fail
    clear qc qSo qT qP qU qV qJ qLb
    refine (valid24_o LX.out.2.2 OX.out.2.2.2.1 (by have := GXs.out.2.2.2.1.2; omega) HJ.out.2.2 RlJ.out (by have := HNM.out; omega)).mono ?_
    rintro e V28 ⟨rfl, g⟩
    replace Hc := gC Hc g
    replace HSo := gC HSo g
    replace HT := gC HT g
    replace HP := gC HP g
    replace HU := gC HU g
    replace HV := gC HV g
    replace HJ := gC HJ g
    replace HLb := gC HLb g
    replace HX := gX HX g
    replace HI := gI HI g
    replace Rla := gR Rla g
    replace Rlb := gR Rlb g
    replace RlS := gR RlS g
    replace RlT := gR RlT g
    replace RlU := gR RlU g
    replace RlV := gR RlV g
    replace RlJ := gR RlJ g
    replace HG := gG HG g
    clear g
    have qc := Hc.out.1
    have qSo := HSo.out.1
    have qT := HT.out.1
    have qP := HP.out.1
    have qU := HU.out.1
    have qV := HV.out.1
    have qJ := HJ.out.1
    have qLb := HLb.out.1
    go_wp2_with fail
    clear qc qSo qT qP qU qV qJ qLb
    have g := World.grownBy_alloc V28 (.cells #[.int .i64 lL] 3) none
    have hrw := ints_one V28 (lL)
    obtain ⟨V29, hV29⟩ : ∃ z, World.alloc V28 (.cells #[.int .i64 lL] 3) = z := ⟨_, rfl⟩
    rw [hV29] at g hrw  ⊢
    clear hV29
    obtain ⟨p29, hp29⟩ : ∃ b, V28.heap.size = b := ⟨_, rfl⟩
    rw [hp29] at hrw  ⊢
    clear hp29
    replace Hc := gC Hc g
    replace HSo := gC HSo g
    replace HT := gC HT g
    replace HP := gC HP g
    replace HU := gC HU g
    replace HV := gC HV g
    replace HJ := gC HJ g
    replace HLb := gC HLb g
    replace HX := gX HX g
    replace HI := gI HI g
    replace Rla := gR Rla g
    replace Rlb := gR Rlb g
    replace RlS := gR RlS g
    replace RlT := gR RlT g
    replace RlU := gR RlU g
    replace RlV := gR RlV g
    replace RlJ := gR RlJ g
    replace HG := gG HG g
    clear g
    have RrL := Lib.hid hrw
    clear hrw
    refine (valid24_o (n := 1) rfl OX.out.2.2.2.2 (by have := GXs.out.2.2.2.2.2; omega) HLb.out.2.2 RrL.out (by omega)).mono ?_
    rintro e V30 ⟨rfl, g⟩
    replace Hc := gC Hc g
    replace HSo := gC HSo g
    replace HT := gC HT g
    replace HP := gC HP g
    replace HU := gC HU g
    replace HV := gC HV g
    replace HJ := gC HJ g
    replace HLb := gC HLb g
    replace HX := gX HX g
    replace HI := gI HI g
    replace Rla := gR Rla g
    replace Rlb := gR Rlb g
    replace RlS := gR RlS g
    replace RlT := gR RlT g
    replace RlU := gR RlU g
    replace RlV := gR RlV g
    replace RlJ := gR RlJ g
    replace RrL := gR RrL g
    replace HG := gG HG g
    clear g
    have qc := Hc.out.1
    have qSo := HSo.out.1
    have qT := HT.out.1
    have qP := HP.out.1
    have qU := HU.out.1
    have qV := HV.out.1
    have qJ := HJ.out.1
    have qLb := HLb.out.1
    have x3 := HX.out.c3
    have x4 := HX.out.c4
    go_wp2_with fail
    clear qc qSo qT qP qU qV qJ qLb x3 x4
    refine (constant_calls g0 la lb vals y _ _ _ _ _ _ _ _ _ NA.out NB.out HN.out.2.2.2 Hc.out.2.2 Rla.out Rlb.out HI.out.v HGD.out (by have := HL.out; omega) HB.out (by have := HGN.out; omega) (ok_le (by have := HL.out; omega) OA.out) (ok_le (by have := HL.out; omega) OB.out) HI.out.oky).mono ?_
    rintro e V31 ⟨rfl, g⟩
    replace Hc := gC Hc g
    replace HSo := gC HSo g
    replace HT := gC HT g
    replace HP := gC HP g
    replace HU := gC HU g
    replace HV := gC HV g
    replace HJ := gC HJ g
    replace HLb := gC HLb g
    replace HX := gX HX g
    replace HI := gI HI g
    replace Rla := gR Rla g
    replace Rlb := gR Rlb g
    replace RlS := gR RlS g
    replace RlT := gR RlT g
    replace RlU := gR RlU g
    replace RlV := gR RlV g
    replace RlJ := gR RlJ g
    replace HG := gG HG g
    clear g
    have qc := Hc.out.1
    have qSo := HSo.out.1
    have qT := HT.out.1
    have qP := HP.out.1
    have qU := HU.out.1
    have qV := HV.out.1
    have qJ := HJ.out.1
    have qLb := HLb.out.1
    go_wp2_with fail
    clear qc qSo qT qP qU qV qJ qLb
    refine (HDS.out _ _ _ _ _ HSo.out.2.2 Rla.out).mono ?_
    rintro e V32 ⟨a32, c32, b32, d32, rfl, hr, hrow, g⟩
    replace Hc := gC Hc g
    replace HSo := gC HSo g
    replace HT := gC HT g
    replace HP := gC HP g
    replace HU := gC HU g
    replace HV := gC HV g
    replace HJ := gC HJ g
    replace HLb := gC HLb g
    replace HX := gX HX g
    replace HI := gI HI g
    replace Rla := gR Rla g
    replace Rlb := gR Rlb g
    replace RlS := gR RlS g
    replace RlT := gR RlT g
    replace RlU := gR RlU g
    replace RlV := gR RlV g
    replace RlJ := gR RlJ g
    replace HG := gG HG g
    clear g
    have RlS2 := Lib.hid hrow
    clear hrow
    have qc := Hc.out.1
    have qSo := HSo.out.1
    have qT := HT.out.1
    have qP := HP.out.1
    have qU := HU.out.1
    have qV := HV.out.1
    have qJ := HJ.out.1
    have qLb := HLb.out.1
    go_upto_region 19 with fail
    clear qc qSo qT qP qU qV qJ qLb
    have hb := CB.new hr
    have g := World.grownBy_alloc V32 (.cells #[.slice a32 gS.length c32] 32) none
    obtain ⟨V33, hV33⟩ : ∃ z, World.alloc V32 (.cells #[.slice a32 gS.length c32] 32) = z := ⟨_, rfl⟩
    rw [hV33] at g hb ⊢
    clear hV33 hr
    obtain ⟨bSo2, hbb⟩ : ∃ b, V32.heap.size = b := ⟨_, rfl⟩
    rw [hbb] at hb ⊢
    clear hbb
    replace Hc := gC Hc g
    replace HSo := gC HSo g
    replace HT := gC HT g
    replace HP := gC HP g
    replace HU := gC HU g
    replace HV := gC HV g
    replace HJ := gC HJ g
    replace HLb := gC HLb g
    replace HX := gX HX g
    replace HI := gI HI g
    replace Rla := gR Rla g
    replace Rlb := gR Rlb g
    replace RlS := gR RlS g
    replace RlT := gR RlT g
    replace RlU := gR RlU g
    replace RlV := gR RlV g
    replace RlJ := gR RlJ g
    replace RlS2 := gR RlS2 g
    replace HG := gG HG g
    clear g
    have HSo2 := Lib.hid hb
    clear hb
    have qc := Hc.out.1
    have qSo := HSo.out.1
    have qT := HT.out.1
    have qP := HP.out.1
    have qU := HU.out.1
    have qV := HV.out.1
    have qJ := HJ.out.1
    have qLb := HLb.out.1
    have qSo2 := HSo2.out.1
    go_wp2_with fail
    clear qc qSo qT qP qU qV qJ qLb qSo2
    refine (HDT.out _ _ _ _ _ HT.out.2.2 Rla.out).mono ?_
    rintro e V34 ⟨a34, c34, b34, d34, rfl, hr, hrow, g⟩
    replace Hc := gC Hc g
    replace HSo := gC HSo g
    replace HT := gC HT g
    replace HP := gC HP g
    replace HU := gC HU g
    replace HV := gC HV g
    replace HJ := gC HJ g
    replace HLb := gC HLb g
    replace HSo2 := gC HSo2 g
    replace HX := gX HX g
    replace HI := gI HI g
    replace Rla := gR Rla g
    replace Rlb := gR Rlb g
    replace RlS := gR RlS g
    replace RlT := gR RlT g
    replace RlU := gR RlU g
    replace RlV := gR RlV g
    replace RlJ := gR RlJ g
    replace RlS2 := gR RlS2 g
    replace HG := gG HG g
    clear g
    have RlT2 := Lib.hid hrow
    clear hrow
    have qc := Hc.out.1
    have qSo := HSo.out.1
    have qT := HT.out.1
    have qP := HP.out.1
    have qU := HU.out.1
    have qV := HV.out.1
    have qJ := HJ.out.1
    have qLb := HLb.out.1
    have qSo2 := HSo2.out.1
    go_upto_region 20 with fail
    clear qc qSo qT qP qU qV qJ qLb qSo2
    have hb := CB.new hr
    have g := World.grownBy_alloc V34 (.cells #[.slice a34 gT.length c34] 32) none
    obtain ⟨V35, hV35⟩ : ∃ z, World.alloc V34 (.cells #[.slice a34 gT.length c34] 32) = z := ⟨_, rfl⟩
    rw [hV35] at g hb ⊢
    clear hV35 hr
    obtain ⟨bT2, hbb⟩ : ∃ b, V34.heap.size = b := ⟨_, rfl⟩
    rw [hbb] at hb ⊢
    clear hbb
    replace Hc := gC Hc g
    replace HSo := gC HSo g
    replace HT := gC HT g
    replace HP := gC HP g
    replace HU := gC HU g
    replace HV := gC HV g
    replace HJ := gC HJ g
    replace HLb := gC HLb g
    replace HSo2 := gC HSo2 g
    replace HX := gX HX g
    replace HI := gI HI g
    replace Rla := gR Rla g
    replace Rlb := gR Rlb g
    replace RlS := gR RlS g
    replace RlT := gR RlT g
    replace RlU := gR RlU g
    replace RlV := gR RlV g
    replace RlJ := gR RlJ g
    replace RlS2 := gR RlS2 g
    replace RlT2 := gR RlT2 g
    replace HG := gG HG g
    clear g
    have HT2 := Lib.hid hb
    clear hb
    have qc := Hc.out.1
    have qSo := HSo.out.1
    have qT := HT.out.1
    have qP := HP.out.1
    have qU := HU.out.1
    have qV := HV.out.1
    have qJ := HJ.out.1
    have qLb := HLb.out.1
    have qSo2 := HSo2.out.1
    have qT2 := HT2.out.1
    go_wp2_with fail
    clear qc qSo qT qP qU qV qJ qLb qSo2 qT2
    refine (HDP.out _ _ _ _ _ HP.out.2.2 Rla.out).mono ?_
    rintro e V36 ⟨a36, c36, rfl, hr, g⟩
    replace Hc := gC Hc g
    replace HSo := gC HSo g
    replace HT := gC HT g
    replace HP := gC HP g
    replace HU := gC HU g
    replace HV := gC HV g
    replace HJ := gC HJ g
    replace HLb := gC HLb g
    replace HSo2 := gC HSo2 g
    replace HT2 := gC HT2 g
    replace HX := gX HX g
    replace HI := gI HI g
    replace Rla := gR Rla g
    replace Rlb := gR Rlb g
    replace RlS := gR RlS g
    replace RlT := gR RlT g
    replace RlU := gR RlU g
    replace RlV := gR RlV g
    replace RlJ := gR RlJ g
    replace RlS2 := gR RlS2 g
    replace RlT2 := gR RlT2 g
    replace HG := gG HG g
    clear g
    have qc := Hc.out.1
    have qSo := HSo.out.1
    have qT := HT.out.1
    have qP := HP.out.1
    have qU := HU.out.1
    have qV := HV.out.1
    have qJ := HJ.out.1
    have qLb := HLb.out.1
    have qSo2 := HSo2.out.1
    have qT2 := HT2.out.1
    go_upto_region 21 with fail
    clear qc qSo qT qP qU qV qJ qLb qSo2 qT2
    have hb := CB.new hr
    have g := World.grownBy_alloc V36 (.cells #[.slice a36 gP.length c36] 32) none
    obtain ⟨V37, hV37⟩ : ∃ z, World.alloc V36 (.cells #[.slice a36 gP.length c36] 32) = z := ⟨_, rfl⟩
    rw [hV37] at g hb ⊢
    clear hV37 hr
    obtain ⟨bP2, hbb⟩ : ∃ b, V36.heap.size = b := ⟨_, rfl⟩
    rw [hbb] at hb ⊢
    clear hbb
    replace Hc := gC Hc g
    replace HSo := gC HSo g
    replace HT := gC HT g
    replace HP := gC HP g
    replace HU := gC HU g
    replace HV := gC HV g
    replace HJ := gC HJ g
    replace HLb := gC HLb g
    replace HSo2 := gC HSo2 g
    replace HT2 := gC HT2 g
    replace HX := gX HX g
    replace HI := gI HI g
    replace Rla := gR Rla g
    replace Rlb := gR Rlb g
    replace RlS := gR RlS g
    replace RlT := gR RlT g
    replace RlU := gR RlU g
    replace RlV := gR RlV g
    replace RlJ := gR RlJ g
    replace RlS2 := gR RlS2 g
    replace RlT2 := gR RlT2 g
    replace HG := gG HG g
    clear g
    have HP2 := Lib.hid hb
    clear hb
    have qc := Hc.out.1
    have qSo := HSo.out.1
    have qT := HT.out.1
    have qP := HP.out.1
    have qU := HU.out.1
    have qV := HV.out.1
    have qJ := HJ.out.1
    have qLb := HLb.out.1
    have qSo2 := HSo2.out.1
    have qT2 := HT2.out.1
    have qP2 := HP2.out.1
    go_wp2_with fail
    clear qc qSo qT qP qU qV qJ qLb qSo2 qT2 qP2
    refine (HDJ.out _ _ _ _ _ _ _ HJ.out.2.2 RlU.out RlV.out).mono ?_
    rintro e V38 ⟨a38, c38, b38, d38, rfl, hr, hrow, g⟩
    replace Hc := gC Hc g
    replace HSo := gC HSo g
    replace HT := gC HT g
    replace HP := gC HP g
    replace HU := gC HU g
    replace HV := gC HV g
    replace HJ := gC HJ g
    replace HLb := gC HLb g
    replace HSo2 := gC HSo2 g
    replace HT2 := gC HT2 g
    replace HP2 := gC HP2 g
    replace HX := gX HX g
    replace HI := gI HI g
    replace Rla := gR Rla g
    replace Rlb := gR Rlb g
    replace RlS := gR RlS g
    replace RlT := gR RlT g
    replace RlU := gR RlU g
    replace RlV := gR RlV g
    replace RlJ := gR RlJ g
    replace RlS2 := gR RlS2 g
    replace RlT2 := gR RlT2 g
    replace HG := gG HG g
    clear g
    have RlJ2 := Lib.hid hrow
    clear hrow
    have qc := Hc.out.1
    have qSo := HSo.out.1
    have qT := HT.out.1
    have qP := HP.out.1
    have qU := HU.out.1
    have qV := HV.out.1
    have qJ := HJ.out.1
    have qLb := HLb.out.1
    have qSo2 := HSo2.out.1
    have qT2 := HT2.out.1
    have qP2 := HP2.out.1
    go_upto_region 22 with fail
    clear qc qSo qT qP qU qV qJ qLb qSo2 qT2 qP2
    have hb := CB.new hr
    have g := World.grownBy_alloc V38 (.cells #[.slice a38 gJ.length c38] 32) none
    obtain ⟨V39, hV39⟩ : ∃ z, World.alloc V38 (.cells #[.slice a38 gJ.length c38] 32) = z := ⟨_, rfl⟩
    rw [hV39] at g hb ⊢
    clear hV39 hr
    obtain ⟨bJ2, hbb⟩ : ∃ b, V38.heap.size = b := ⟨_, rfl⟩
    rw [hbb] at hb ⊢
    clear hbb
    replace Hc := gC Hc g
    replace HSo := gC HSo g
    replace HT := gC HT g
    replace HP := gC HP g
    replace HU := gC HU g
    replace HV := gC HV g
    replace HJ := gC HJ g
    replace HLb := gC HLb g
    replace HSo2 := gC HSo2 g
    replace HT2 := gC HT2 g
    replace HP2 := gC HP2 g
    replace HX := gX HX g
    replace HI := gI HI g
    replace Rla := gR Rla g
    replace Rlb := gR Rlb g
    replace RlS := gR RlS g
    replace RlT := gR RlT g
    replace RlU := gR RlU g
    replace RlV := gR RlV g
    replace RlJ := gR RlJ g
    replace RlS2 := gR RlS2 g
    replace RlT2 := gR RlT2 g
    replace RlJ2 := gR RlJ2 g
    replace HG := gG HG g
    clear g
    have HJ2 := Lib.hid hb
    clear hb
    have qc := Hc.out.1
    have qSo := HSo.out.1
    have qT := HT.out.1
    have qP := HP.out.1
    have qU := HU.out.1
    have qV := HV.out.1
    have qJ := HJ.out.1
    have qLb := HLb.out.1
    have qSo2 := HSo2.out.1
    have qT2 := HT2.out.1
    have qP2 := HP2.out.1
    have qJ2 := HJ2.out.1
    have x4 := HX.out.c4
    go_wp2_with fail
    clear qc qSo qT qP qU qV qJ qLb qSo2 qT2 qP2 qJ2 x4
    refine (HDL.out _ _ _ _ _ _ _ HLb.out.2.2 RlU.out RlV.out).mono ?_
    rintro e V40 ⟨a40, c40, rfl, hr, g⟩
    replace Hc := gC Hc g
    replace HSo := gC HSo g
    replace HT := gC HT g
    replace HP := gC HP g
    replace HU := gC HU g
    replace HV := gC HV g
    replace HJ := gC HJ g
    replace HLb := gC HLb g
    replace HSo2 := gC HSo2 g
    replace HT2 := gC HT2 g
    replace HP2 := gC HP2 g
    replace HJ2 := gC HJ2 g
    replace HX := gX HX g
    replace HI := gI HI g
    replace Rla := gR Rla g
    replace Rlb := gR Rlb g
    replace RlS := gR RlS g
    replace RlT := gR RlT g
    replace RlU := gR RlU g
    replace RlV := gR RlV g
    replace RlJ := gR RlJ g
    replace RlS2 := gR RlS2 g
    replace RlT2 := gR RlT2 g
    replace RlJ2 := gR RlJ2 g
    replace HG := gG HG g
    clear g
    have qc := Hc.out.1
    have qSo := HSo.out.1
    have qT := HT.out.1
    have qP := HP.out.1
    have qU := HU.out.1
    have qV := HV.out.1
    have qJ := HJ.out.1
    have qLb := HLb.out.1
    have qSo2 := HSo2.out.1
    have qT2 := HT2.out.1
    have qP2 := HP2.out.1
    have qJ2 := HJ2.out.1
    go_upto_region 23 with fail
    clear qc qSo qT qP qU qV qJ qLb qSo2 qT2 qP2 qJ2
    have hb := CB.new hr
    have g := World.grownBy_alloc V40 (.cells #[.slice a40 gL.length c40] 32) none
    obtain ⟨V41, hV41⟩ : ∃ z, World.alloc V40 (.cells #[.slice a40 gL.length c40] 32) = z := ⟨_, rfl⟩
    rw [hV41] at g hb ⊢
    clear hV41 hr
    obtain ⟨bLb2, hbb⟩ : ∃ b, V40.heap.size = b := ⟨_, rfl⟩
    rw [hbb] at hb ⊢
    clear hbb
    replace Hc := gC Hc g
    replace HSo := gC HSo g
    replace HT := gC HT g
    replace HP := gC HP g
    replace HU := gC HU g
    replace HV := gC HV g
    replace HJ := gC HJ g
    replace HLb := gC HLb g
    replace HSo2 := gC HSo2 g
    replace HT2 := gC HT2 g
    replace HP2 := gC HP2 g
    replace HJ2 := gC HJ2 g
    replace HX := gX HX g
    replace HI := gI HI g
    replace Rla := gR Rla g
    replace Rlb := gR Rlb g
    replace RlS := gR RlS g
    replace RlT := gR RlT g
    replace RlU := gR RlU g
    replace RlV := gR RlV g
    replace RlJ := gR RlJ g
    replace RlS2 := gR RlS2 g
    replace RlT2 := gR RlT2 g
    replace RlJ2 := gR RlJ2 g
    replace HG := gG HG g
    clear g
    have HLb2 := Lib.hid hb
    clear hb
    have qc := Hc.out.1
    have qSo := HSo.out.1
    have qT := HT.out.1
    have qP := HP.out.1
    have qU := HU.out.1
    have qV := HV.out.1
    have qJ := HJ.out.1
    have qLb := HLb.out.1
    have qSo2 := HSo2.out.1
    have qT2 := HT2.out.1
    have qP2 := HP2.out.1
    have qJ2 := HJ2.out.1
    have qLb2 := HLb2.out.1
    go_wp2_with fail
    clear qc qSo qT qP qU qV qJ qLb qSo2 qT2 qP2 qJ2 qLb2
    refine (same_n rfl (by have := GXs.out.1.2; omega) HSo.out.2.2 HSo2.out.2.2).mono ?_
    rintro e V42 ⟨rfl, g⟩
    replace Hc := gC Hc g
    replace HSo := gC HSo g
    replace HT := gC HT g
    replace HP := gC HP g
    replace HU := gC HU g
    replace HV := gC HV g
    replace HJ := gC HJ g
    replace HLb := gC HLb g
    replace HSo2 := gC HSo2 g
    replace HT2 := gC HT2 g
    replace HP2 := gC HP2 g
    replace HJ2 := gC HJ2 g
    replace HLb2 := gC HLb2 g
    replace HX := gX HX g
    replace HI := gI HI g
    replace Rla := gR Rla g
    replace Rlb := gR Rlb g
    replace RlS := gR RlS g
    replace RlT := gR RlT g
    replace RlU := gR RlU g
    replace RlV := gR RlV g
    replace RlJ := gR RlJ g
    replace RlS2 := gR RlS2 g
    replace RlT2 := gR RlT2 g
    replace RlJ2 := gR RlJ2 g
    replace HG := gG HG g
    clear g
    have qc := Hc.out.1
    have qSo := HSo.out.1
    have qT := HT.out.1
    have qP := HP.out.1
    have qU := HU.out.1
    have qV := HV.out.1
    have qJ := HJ.out.1
    have qLb := HLb.out.1
    have qSo2 := HSo2.out.1
    have qT2 := HT2.out.1
    have qP2 := HP2.out.1
    have qJ2 := HJ2.out.1
    have qLb2 := HLb2.out.1
    go_wp2_with fail
    clear qc qSo qT qP qU qV qJ qLb qSo2 qT2 qP2 qJ2 qLb2
    refine (same_n rfl (by have := GXs.out.2.1.2; omega) HT.out.2.2 HT2.out.2.2).mono ?_
    rintro e V43 ⟨rfl, g⟩
    replace Hc := gC Hc g
    replace HSo := gC HSo g
    replace HT := gC HT g
    replace HP := gC HP g
    replace HU := gC HU g
    replace HV := gC HV g
    replace HJ := gC HJ g
    replace HLb := gC HLb g
    replace HSo2 := gC HSo2 g
    replace HT2 := gC HT2 g
    replace HP2 := gC HP2 g
    replace HJ2 := gC HJ2 g
    replace HLb2 := gC HLb2 g
    replace HX := gX HX g
    replace HI := gI HI g
    replace Rla := gR Rla g
    replace Rlb := gR Rlb g
    replace RlS := gR RlS g
    replace RlT := gR RlT g
    replace RlU := gR RlU g
    replace RlV := gR RlV g
    replace RlJ := gR RlJ g
    replace RlS2 := gR RlS2 g
    replace RlT2 := gR RlT2 g
    replace RlJ2 := gR RlJ2 g
    replace HG := gG HG g
    clear g
    have qc := Hc.out.1
    have qSo := HSo.out.1
    have qT := HT.out.1
    have qP := HP.out.1
    have qU := HU.out.1
    have qV := HV.out.1
    have qJ := HJ.out.1
    have qLb := HLb.out.1
    have qSo2 := HSo2.out.1
    have qT2 := HT2.out.1
    have qP2 := HP2.out.1
    have qJ2 := HJ2.out.1
    have qLb2 := HLb2.out.1
    go_wp2_with fail
    clear qc qSo qT qP qU qV qJ qLb qSo2 qT2 qP2 qJ2 qLb2
    refine (same_n rfl (by have := GXs.out.2.2.1.2; omega) HP.out.2.2 HP2.out.2.2).mono ?_
    rintro e V44 ⟨rfl, g⟩
    replace Hc := gC Hc g
    replace HSo := gC HSo g
    replace HT := gC HT g
    replace HP := gC HP g
    replace HU := gC HU g
    replace HV := gC HV g
    replace HJ := gC HJ g
    replace HLb := gC HLb g
    replace HSo2 := gC HSo2 g
    replace HT2 := gC HT2 g
    replace HP2 := gC HP2 g
    replace HJ2 := gC HJ2 g
    replace HLb2 := gC HLb2 g
    replace HX := gX HX g
    replace HI := gI HI g
    replace Rla := gR Rla g
    replace Rlb := gR Rlb g
    replace RlS := gR RlS g
    replace RlT := gR RlT g
    replace RlU := gR RlU g
    replace RlV := gR RlV g
    replace RlJ := gR RlJ g
    replace RlS2 := gR RlS2 g
    replace RlT2 := gR RlT2 g
    replace RlJ2 := gR RlJ2 g
    replace HG := gG HG g
    clear g
    have qc := Hc.out.1
    have qSo := HSo.out.1
    have qT := HT.out.1
    have qP := HP.out.1
    have qU := HU.out.1
    have qV := HV.out.1
    have qJ := HJ.out.1
    have qLb := HLb.out.1
    have qSo2 := HSo2.out.1
    have qT2 := HT2.out.1
    have qP2 := HP2.out.1
    have qJ2 := HJ2.out.1
    have qLb2 := HLb2.out.1
    go_wp2_with fail
    clear qc qSo qT qP qU qV qJ qLb qSo2 qT2 qP2 qJ2 qLb2
    refine (same_n rfl (by have := GXs.out.2.2.2.1.2; omega) HJ.out.2.2 HJ2.out.2.2).mono ?_
    rintro e V45 ⟨rfl, g⟩
    replace Hc := gC Hc g
    replace HSo := gC HSo g
    replace HT := gC HT g
    replace HP := gC HP g
    replace HU := gC HU g
    replace HV := gC HV g
    replace HJ := gC HJ g
    replace HLb := gC HLb g
    replace HSo2 := gC HSo2 g
    replace HT2 := gC HT2 g
    replace HP2 := gC HP2 g
    replace HJ2 := gC HJ2 g
    replace HLb2 := gC HLb2 g
    replace HX := gX HX g
    replace HI := gI HI g
    replace Rla := gR Rla g
    replace Rlb := gR Rlb g
    replace RlS := gR RlS g
    replace RlT := gR RlT g
    replace RlU := gR RlU g
    replace RlV := gR RlV g
    replace RlJ := gR RlJ g
    replace RlS2 := gR RlS2 g
    replace RlT2 := gR RlT2 g
    replace RlJ2 := gR RlJ2 g
    replace HG := gG HG g
    clear g
    have qc := Hc.out.1
    have qSo := HSo.out.1
    have qT := HT.out.1
    have qP := HP.out.1
    have qU := HU.out.1
    have qV := HV.out.1
    have qJ := HJ.out.1
    have qLb := HLb.out.1
    have qSo2 := HSo2.out.1
    have qT2 := HT2.out.1
    have qP2 := HP2.out.1
    have qJ2 := HJ2.out.1
    have qLb2 := HLb2.out.1
    go_wp2_with fail
    clear qc qSo qT qP qU qV qJ qLb qSo2 qT2 qP2 qJ2 qLb2
    refine (same_n rfl (by have := GXs.out.2.2.2.2.2; omega) HLb.out.2.2 HLb2.out.2.2).mono ?_
    rintro e V46 ⟨rfl, g⟩
    replace Hc := gC Hc g
    replace HSo := gC HSo g
    replace HT := gC HT g
    replace HP := gC HP g
    replace HU := gC HU g
    replace HV := gC HV g
    replace HJ := gC HJ g
    replace HLb := gC HLb g
    replace HSo2 := gC HSo2 g
    replace HT2 := gC HT2 g
    replace HP2 := gC HP2 g
    replace HJ2 := gC HJ2 g
    replace HLb2 := gC HLb2 g
    replace HX := gX HX g
    replace HI := gI HI g
    replace Rla := gR Rla g
    replace Rlb := gR Rlb g
    replace RlS := gR RlS g
    replace RlT := gR RlT g
    replace RlU := gR RlU g
    replace RlV := gR RlV g
    replace RlJ := gR RlJ g
    replace RlS2 := gR RlS2 g
    replace RlT2 := gR RlT2 g
    replace RlJ2 := gR RlJ2 g
    replace HG := gG HG g
    clear g
    have qc := Hc.out.1
    have qSo := HSo.out.1
    have qT := HT.out.1
    have qP := HP.out.1
    have qU := HU.out.1
    have qV := HV.out.1
    have qJ := HJ.out.1
    have qLb := HLb.out.1
    have qSo2 := HSo2.out.1
    have qT2 := HT2.out.1
    have qP2 := HP2.out.1
    have qJ2 := HJ2.out.1
    have qLb2 := HLb2.out.1
    go_wp2_with fail
    clear qc qSo qT qP qU qV qJ qLb qSo2 qT2 qP2 qJ2 qLb2
    refine (sameI_n LX.out.1 (by have := HNM.out; omega) RlS.out RlS2.out).mono ?_
    rintro e V47 ⟨rfl, g⟩
    replace Hc := gC Hc g
    replace HSo := gC HSo g
    replace HT := gC HT g
    replace HP := gC HP g
    replace HU := gC HU g
    replace HV := gC HV g
    replace HJ := gC HJ g
    replace HLb := gC HLb g
    replace HSo2 := gC HSo2 g
    replace HT2 := gC HT2 g
    replace HP2 := gC HP2 g
    replace HJ2 := gC HJ2 g
    replace HLb2 := gC HLb2 g
    replace HX := gX HX g
    replace HI := gI HI g
    replace Rla := gR Rla g
    replace Rlb := gR Rlb g
    replace RlS := gR RlS g
    replace RlT := gR RlT g
    replace RlU := gR RlU g
    replace RlV := gR RlV g
    replace RlJ := gR RlJ g
    replace RlS2 := gR RlS2 g
    replace RlT2 := gR RlT2 g
    replace RlJ2 := gR RlJ2 g
    replace HG := gG HG g
    clear g
    have qc := Hc.out.1
    have qSo := HSo.out.1
    have qT := HT.out.1
    have qP := HP.out.1
    have qU := HU.out.1
    have qV := HV.out.1
    have qJ := HJ.out.1
    have qLb := HLb.out.1
    have qSo2 := HSo2.out.1
    have qT2 := HT2.out.1
    have qP2 := HP2.out.1
    have qJ2 := HJ2.out.1
    have qLb2 := HLb2.out.1
    go_wp2_with fail
    clear qc qSo qT qP qU qV qJ qLb qSo2 qT2 qP2 qJ2 qLb2
    refine (sameI_n LX.out.2.1 (by have := HNM.out; omega) RlT.out RlT2.out).mono ?_
    rintro e V48 ⟨rfl, g⟩
    replace Hc := gC Hc g
    replace HSo := gC HSo g
    replace HT := gC HT g
    replace HP := gC HP g
    replace HU := gC HU g
    replace HV := gC HV g
    replace HJ := gC HJ g
    replace HLb := gC HLb g
    replace HSo2 := gC HSo2 g
    replace HT2 := gC HT2 g
    replace HP2 := gC HP2 g
    replace HJ2 := gC HJ2 g
    replace HLb2 := gC HLb2 g
    replace HX := gX HX g
    replace HI := gI HI g
    replace Rla := gR Rla g
    replace Rlb := gR Rlb g
    replace RlS := gR RlS g
    replace RlT := gR RlT g
    replace RlU := gR RlU g
    replace RlV := gR RlV g
    replace RlJ := gR RlJ g
    replace RlS2 := gR RlS2 g
    replace RlT2 := gR RlT2 g
    replace RlJ2 := gR RlJ2 g
    replace HG := gG HG g
    clear g
    have qc := Hc.out.1
    have qSo := HSo.out.1
    have qT := HT.out.1
    have qP := HP.out.1
    have qU := HU.out.1
    have qV := HV.out.1
    have qJ := HJ.out.1
    have qLb := HLb.out.1
    have qSo2 := HSo2.out.1
    have qT2 := HT2.out.1
    have qP2 := HP2.out.1
    have qJ2 := HJ2.out.1
    have qLb2 := HLb2.out.1
    go_wp2_with fail
    clear qc qSo qT qP qU qV qJ qLb qSo2 qT2 qP2 qJ2 qLb2
    refine (sameI_n LX.out.2.2 (by have := HNM.out; omega) RlJ.out RlJ2.out).mono ?_
    rintro e V49 ⟨rfl, g⟩
    replace Hc := gC Hc g
    replace HSo := gC HSo g
    replace HT := gC HT g
    replace HP := gC HP g
    replace HU := gC HU g
    replace HV := gC HV g
    replace HJ := gC HJ g
    replace HLb := gC HLb g
    replace HSo2 := gC HSo2 g
    replace HT2 := gC HT2 g
    replace HP2 := gC HP2 g
    replace HJ2 := gC HJ2 g
    replace HLb2 := gC HLb2 g
    replace HX := gX HX g
    replace HI := gI HI g
    replace Rla := gR Rla g
    replace Rlb := gR Rlb g
    replace RlS := gR RlS g
    replace RlT := gR RlT g
    replace RlU := gR RlU g
    replace RlV := gR RlV g
    replace RlJ := gR RlJ g
    replace RlS2 := gR RlS2 g
    replace RlT2 := gR RlT2 g
    replace RlJ2 := gR RlJ2 g
    replace HG := gG HG g
    clear g
    go_wp2_with fail
    go_ret
    exact ⟨rfl, HG.out⟩
end Go.Proofs.Ythagoihpppppkaa

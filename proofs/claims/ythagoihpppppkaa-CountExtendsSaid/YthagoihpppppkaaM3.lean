/- The search that makes the index first. -/
import Derived.Test.YthagoihpppppkaaM2
import Derived.StillTailTactics
namespace Go.Proofs.Ythagoihpppppkaa
open Go.RowKit Go.Maps

/-- A growing circuit without its index. -/
structure Core (p : Nat) (w : World) (owned : Bool) (va : Option Addr) (vc : Nat) (gs : List Gt) (vis : Int) : Prop where
  c0 : w.cell? ⟨p, 0, none⟩ = some (.slice va gs.length vc)
  c1 : w.cell? ⟨p, 1, none⟩ = some (.bool owned)
  c3 : w.cell? ⟨p, 3, none⟩ = some (.int .i64 vis)
  fr : ∀ o, w.frozen? ⟨p, o, none⟩ = false
  row : GRow (p + 1) p w owned va vc gs
theorem Grw.core {p : Nat} {w : World} {owned : Bool} {va : Option Addr} {vc : Nat} {gs : List Gt} {mb : Option Nat} {vis : Int} (h : Grw p w owned va vc gs mb vis) : Core p w owned va vc gs vis := ⟨h.c0, h.c1, h.c3, h.fr, h.row⟩
theorem Core.grw {p b : Nat} {w : World} {owned : Bool} {va : Option Addr} {vc : Nat} {gs : List Gt} {vis : Int} (h : Core p w owned va vc gs vis) (h2 : w.cell? ⟨p, 2, none⟩ = some (.map (some b))) (hb : p < b) (hm : MapG w b gs) : Grw p w owned va vc gs (some b) vis :=
  ⟨h.c0, h.c1, h2, h.c3, h.fr, h.row, fun b' e => by injection e with e; subst e; exact ⟨hb, hm⟩⟩
theorem MapG.ne_row {p b : Nat} {w : World} {owned : Bool} {va : Option Addr} {vc : Nat} {gs S : List Gt} (h : GRow (p + 1) p w owned va vc gs) (hm : MapG w b S) : ¬ (owned = true ∧ ∃ a, va = some a ∧ a.block = b) := by
  rintro ⟨rfl, a, rfl, e⟩
  unfold GRow at h
  simp only [if_true] at h
  obtain ⟨D, ⟨es, clock, hb, _⟩, _⟩ := hm
  rcases h.2 with ⟨h0, _⟩ | ⟨g, cap, cur, e1, _, h2, _⟩
  · cases h0
  · injection e1 with e1 _ _
    injection e1 with e1
    rw [e1] at e
    subst e
    rw [hb] at h2
    cases h2
theorem Core.far {p : Nat} {w w' : World} {owned : Bool} {va : Option Addr} {vc : Nat} {gs : List Gt} {vis : Int} {r : Option Nat} (h : Core p w owned va vc gs vis) (hg : w.grownBy w' r) (hr : ∀ x, r = some x → p < x ∧ ¬ (owned = true ∧ ∃ a, va = some a ∧ a.block = x)) : Core p w' owned va vc gs vis := by
  have hp : some p ≠ r := fun e => by have := (hr p e.symm).1; omega
  exact ⟨hg.cell h.c0 hp, hg.cell h.c1 hp, hg.cell h.c3 hp, fun o => (World.frozen?_of_block (a := ⟨p, o, none⟩) (hg.block p (lies_lt h.c0) hp)).trans (h.fr o), h.row.far hg (fun x e => ⟨by have := (hr x e).1; omega, (hr x e).2⟩)⟩
theorem Core.setIx {p : Nat} {w : World} {owned : Bool} {va : Option Addr} {vc : Nat} {gs : List Gt} {vis : Int} (h : Core p w owned va vc gs vis) (v : Value) : Core p (w.setCell ⟨p, 2, none⟩ v) owned va vc gs vis := by
  refine ⟨?_, ?_, ?_, fun o => by rw [World.frozen?_setCell]; exact h.fr o, h.row.far (grown_set _ _ _ _) (fun x e => by cases e; exact ⟨Nat.le_refl _, h.row.ne⟩)⟩
  · rw [World.cell?_setCell_other _ _ _ _ (ne_at (by decide))]; exact h.c0
  · rw [World.cell?_setCell_other _ _ _ _ (ne_at (by decide))]; exact h.c1
  · rw [World.cell?_setCell_other _ _ _ _ (ne_at (by decide))]; exact h.c3

/-- A gate's place is put into the index. -/
theorem wpList_setM {ops : Array Oper} {rest : List Oper} {o : Oper} {a : Act} {Q : Exit → Act → World → Prop} {w : World} (hg : o.guard = none) (m x y : Operand) (hop : o.op = Op.mapUpdate 78 m x y)
    (b : Nat) (S : List Gt) (hm : a.eval m = .map (some b)) (hown : MapG w b S) (hl : S.length ≤ 1000000) (k : Gt) (hx : a.eval x = gv k) (hk : WfG k) (hn : k ∉ S) (hy : a.eval y = .int .i64 (S.length : Int))
    (hK : ∀ w', MapG w' b (S ++ [k]) → w.grownBy w' (some b) → wpList Try.prog ops Q rest (a.put o.dst undef) w') : wpList Try.prog ops Q (o :: rest) a w := by
  refine wpList_plain hg fun K' hK' => ?_
  obtain ⟨w', hr, h2, h3⟩ := hown.store hl hk hn
  unfold Oper.wp
  simp [execOp, hop, hm, hx, hy, hr, Result.andThen]
  exact hK' _ _ (hK w' h2 h3)
theorem not_take {gs : List Gt} {k : Nat} {g : Gt} (hone : ∀ (i j : Nat) (g : Gt), gs[i]? = some g → gs[j]? = some g → i = j) (hg : gs[k]? = some g) : g ∉ gs.take k := fun h => by
  obtain ⟨j, hj⟩ := List.mem_iff_getElem?.1 h
  have hjk : j < k := by have := (List.getElem?_eq_some_iff.1 hj).1; rw [List.length_take] at this; omega
  rw [List.getElem?_take_of_lt hjk] at hj
  have := hone j k g hj hg
  omega
theorem make78 {n : Nat} (_h : n ≤ 1000) (w : World) : (Instr.makeMap 78 (some (.int .i64 (n : Int)))).run Try.prog w = .ok (.map (some w.heap.size)) (w.alloc (.map #[] 0)) := by
  unfold Instr.makeMap
  go_simp

set_option maxRecDepth 100000 in
set_option maxHeartbeats 4000000 in
theorem find_make (gs : List Gt) (x : Gt) (fm : Nat) (p : Nat) (owned : Bool) (va : Option Addr) (vc : Nat) (vis : Int) (w : World) (h : Grw p w owned va vc gs none vis) (hl : gs.length ≤ 1000) (hv : 8 * (gs.length : Int) < vis)
    (hx : WfG x) (hwf : ∀ g ∈ gs, WfG g) (hone : ∀ (i j : Nat) (g : Gt), gs[i]? = some g → gs[j]? = some g → i = j) :
    Calls Try.prog 64 #[.pointer (some ⟨p, 0, none⟩), gv x, .int .i64 (fm : Int)] w fun e w' => e = .returned (.int .i64 (locI x gs)) ∧ ∃ b, w.heap.size ≤ b ∧ Grw p w' owned va vc gs (some b) vis ∧ Off (fun k => k = p) w w' := by
  have hg := World.grownBy_alloc w (.cells #[.int .i64 x.1, .int .i64 x.2.1, .int .i64 x.2.2] 69) none
  have hxc := gate_cells w x
  obtain ⟨W, hW⟩ : ∃ W, w.alloc (.cells #[.int .i64 x.1, .int .i64 x.2.1, .int .i64 x.2.2] 69) = W := ⟨_, rfl⟩
  rw [hW] at hg hxc
  have HX := Lib.hid hxc
  have HG := Lib.hid hg
  have HW := Lib.hid (h.grown hg)
  have HONE := Lib.hid (And.intro hone (And.intro hx hwf))
  have HPS := Lib.hid (show p < w.heap.size from lies_lt h.c0)
  have k0 := HW.out.c0; have k2 := HW.out.c2; have k3 := HW.out.c3
  obtain ⟨n, hn⟩ : ∃ n, gs.length = n := ⟨_, rfl⟩
  rw [hn] at hl hv k0
  have HN := Lib.hid hn
  have hw8 : IntKind.i64.wrap (8 * (n : Int)) = 8 * (n : Int) := IntWalk.i64_in _ (by omega)
  have hcmp : decide (8 * (n : Int) < vis) = true := decide_eq_true hv
  have hE := nilmap_eq
  have hMk := make78 hl
  have kf := HW.out.fr 2
  clear h hone hg hxc hx hwf hv hn
  go_enter Try.func64, Try.ntmps64
  go_wp2_with fail
  go_quiet (fail)
  clear hE hMk hcmp hw8 k0 k2 k3 kf
  obtain ⟨W0, hW0⟩ : ∃ z, W.drewN nq = z := ⟨_, rfl⟩
  have hG0 : W.grownBy W0 none := by rw [← hW0]; exact grown_drewN W nq none
  rw [hW0]
  clear hW hW0
  have HG0 := Lib.hid (World.grownBy.trans HG.out hG0)
  have HWW0 := Lib.hid hG0
  have HLT0 := Lib.hid (show w.heap.size < W0.heap.size from Nat.lt_of_lt_of_le (lies_lt HX.out.1) hG0.size)
  have HW0 := Lib.hid (HW.out.grown hG0).core
  have k0 := HW0.out.c0; have k2 := (HW.out.grown hG0).c2; have kf := HW0.out.fr 2
  have HPW := Lib.hid (show p < W0.heap.size from lies_lt k0)
  rw [HN.out] at k0
  have hm1 := World.grownBy_alloc W0 (.map #[] 0) none
  have hMk := make78 hl W0
  have q0 := hm1.cell k0 (by simp); have q2 := hm1.cell k2 (by simp)
  have qf := (grown_frozen hm1 HPW.out 2).trans kf
  have HM1 := Lib.hid (MapG.made W0)
  have HC1 := Lib.hid (HW0.out.far hm1 (fun x e => by cases e))
  have HGm := Lib.hid hm1; clear hm1
  obtain ⟨W1, hW1⟩ : ∃ z, W0.alloc (.map #[] 0) = z := ⟨_, rfl⟩
  rw [hW1] at q0 q2 qf HM1 HC1 HGm hMk
  obtain ⟨b, hb⟩ : ∃ z, W0.heap.size = z := ⟨_, rfl⟩
  rw [hb] at hMk HM1 HPW
  have HB := Lib.hid hb; clear hb
  go_wp2_with fail
  have HC2 := Lib.hid (HC1.out.setIx (.map (some b)))
  have HM2 := Lib.hid (HM1.out.kept (grown_set W1 p 2 (.map (some b))) (fun e => by injection e with e; have := HPW.out; omega))
  have HI2 := Lib.hid (World.cell?_setCell_same W1 ⟨p, 2, none⟩ (.map (some b)) q2)
  have HG2 := Lib.hid (grown_set W1 p 2 (.map (some b)))
  clear q0 q2 qf k0 k2 kf hG0 hMk hW1
  obtain ⟨W2, hW2⟩ : ∃ z, W1.setCell ⟨p, 2, none⟩ (.map (some b)) = z := ⟨_, rfl⟩
  rw [hW2] at HC2 HM2 HI2 HG2 ⊢
  clear hW2
  go_loopg [44] n (fun g s44 wr => ∃ (k : Nat), s44 = .int .i64 (k : Int) ∧ g = n - k ∧ k ≤ n ∧ Core p wr owned va vc gs vis ∧ wr.cell? ⟨p, 2, none⟩ = some (.map (some b)) ∧ MapG wr b (gs.take k) ∧ W2.grownBy wr (some b))
  case atStart => exact ⟨0, rfl, by omega, Nat.zero_le _, HC2.out, HI2.out, HM2.out, grown_refl _ _⟩
  case round =>
    obtain ⟨k, rfl, hgk, hk, hco, hci, hma, hgr⟩ := hrel
    have HI := Lib.hid hgk; clear hgk
    have HCO := Lib.hid hco; clear hco
    have HCI := Lib.hid hci; clear hci
    have HMA := Lib.hid hma; clear hma
    have HGR := Lib.hid hgr; clear hgr
    by_cases hkn : k < n
    · have hc : decide ((k : Int) < (n : Int)) = true := decide_eq_true (by omega)
      have hc2 : decide (k < n) = true := decide_eq_true hkn
      obtain ⟨g, hg⟩ : ∃ g, gs[k]? = some g := ⟨_, List.getElem?_eq_getElem (by rw [HN.out]; omega)⟩
      obtain ⟨bb, o, rfl, g0, g1, g2⟩ := (GRow.gates HCO.out.row).at hg
      have HGG := Lib.hid hg; clear hg
      have hwk : IntKind.i64.wrap ((k : Int) + 1) = ((k + 1 : Nat) : Int) := by rw [IntWalk.i64_in _ (by omega)]; omega
      have hgc := gate_cells wr g
      have hga2 := World.grownBy_alloc wr (.cells #[.int .i64 g.1, .int .i64 g.2.1, .int .i64 g.2.2] 69) none
      have HT := Lib.hid (show (gs.take k).length = k by rw [List.length_take, HN.out]; omega)
      have HTS := Lib.hid (show gs.take k ++ [g] = gs.take (k + 1) by rw [List.take_add_one, HGG.out]; rfl)
      go_wp2_with fail
      clear g0 g1 g2 hc hc2
      have HMA2 := Lib.hid (HMA.out.grown hga2)
      have a2 := hga2.cell HCI.out (by simp)
      have HGA := Lib.hid (World.grownBy.trans HGR.out (grown_any hga2 (some b)))
      have HCA := Lib.hid (HCO.out.far hga2 (fun x e => by cases e))
      have hlt : p < wr.heap.size := lies_lt HCI.out
      have HPB := Lib.hid (show b < wr.heap.size ∧ p < wr.heap.size from ⟨HMA.out.lt, hlt⟩)
      clear hlt hga2
      obtain ⟨wA, hwA⟩ : ∃ W, wr.alloc (.cells #[.int .i64 g.1, .int .i64 g.2.1, .int .i64 g.2.2] 69) = W := ⟨_, rfl⟩
      rw [hwA] at HMA2 a2 HGA HCA hgc ⊢
      obtain ⟨y0, y1, y2⟩ := hgc
      clear hwA
      have hd : wA.grownBy wA.drew none := ⟨rfl, rfl, rfl, Nat.le_refl _, fun _ _ _ => rfl⟩
      have HMD := Lib.hid (HMA2.out.grown hd)
      have HGD := Lib.hid (World.grownBy.trans HGA.out (grown_any hd (some b)))
      have HCD := Lib.hid (HCA.out.far hd (fun x e => by cases e))
      have HAD := Lib.hid (hd.cell a2 (by simp))
      clear hd
      go_still_tail 6, (by kernel_rfl)
      change wpList _ _ _ _ _ wA.drew
      obtain ⟨wD, hwD⟩ : ∃ W, wA.drew = W := ⟨_, rfl⟩
      rw [hwD] at HMD HGD HCD HAD ⊢
      clear hwD y0 y1 y2 a2 hwk
      refine wpList_setM rfl _ _ _ rfl b (gs.take k) rfl HMD.out (by rw [HT.out]; omega) g rfl (HONE.out.2.2 g (List.mem_of_getElem? HGG.out)) (not_take HONE.out.1 HGG.out) (by rw [HT.out]; rfl) ?_
      intro w6 hset6 hgr6
      have HC6 := Lib.hid (HCD.out.far hgr6 (fun x e => by cases e; exact ⟨HPW.out, MapG.ne_row HCD.out.row HMD.out⟩))
      have HA6 := Lib.hid (hgr6.cell HAD.out (fun e => Nat.ne_of_lt HPW.out (Option.some.inj e)))
      have HG6 := Lib.hid (World.grownBy.trans HGD.out hgr6)
      rw [HTS.out] at hset6
      have HS6 := Lib.hid hset6
      clear hset6 hgr6
      have hwk : IntKind.i64.wrap ((k : Int) + 1) = ((k + 1 : Nat) : Int) := by rw [IntWalk.i64_in _ (by omega)]; omega
      go_wp2_with fail
      go_roundg (n - (k + 1))
      case measure => rw [HI.out]; omega
      case rel => exact ⟨k + 1, rfl, rfl, by omega, HC6.out, HA6.out, HS6.out, HG6.out⟩
    · have hkk : k = n := by omega
      have hc : decide ((k : Int) < (n : Int)) = false := decide_eq_false (by omega)
      have hc2 : decide (k < n) = false := decide_eq_false hkn
      have hc3 : decide (n < n) = false := decide_eq_false (by omega)
      subst hkk
      have HALL := Lib.hid (show gs.take k = gs from List.take_of_length_le (by rw [HN.out]; exact Nat.le_refl _))
      have HM3 := Lib.hid (show MapG wr b gs by have := HMA.out; rw [HALL.out] at this; exact this)
      have HGW := Lib.hid (HCO.out.grw HCI.out HPW.out HM3.out)
      have hNe := mapnil_ne b
      have k2 := HCI.out
      have HOFF : Hid (Off (fun z => z = p) w wr) := Lib.hid ((((Off.of HG0.out (fun z e => by cases e)).trans (Off.of HGm.out (fun z e => by cases e)) (fun z _ e => e)).trans (Off.of HG2.out (fun z e => by cases e; rfl)) (fun z _ e => e)).trans (Off.of (M := fun z => z = b) HGR.out (fun z e => by cases e; rfl)) (fun z hz e => by have := HB.out; have := HG0.out.size; omega))
      have X0 := HG0.out
      have hxx : GateAt wr w.heap.size 0 x := by
        have h0 := HX.out.moved (World.grownBy.trans (grown_refl W none) (HWW0.out)) (by simp)
        exact ((h0.moved HGm.out (by simp)).moved HG2.out (fun e => by injection e with e; have := HPS.out; omega)).moved HGR.out (fun e => by injection e with e; have := HB.out; have := HLT0.out; omega)
      obtain ⟨x0, x1, x2⟩ := hxx
      clear X0
      obtain ⟨c, hL, hcc⟩ := HM3.out.looks HONE.out.2.1
      have HC := Lib.hid hcc; clear hcc
      by_cases hxm : x ∈ gs
      · have hL' := hL
        rw [decide_eq_true hxm] at hL'
        clear hL
        have HR := Lib.hid (locI_mem HONE.out.1 HC.out hxm)
        clear hxm
        go_wp2_with fail
        go_quiet (fail)
        go_wp2_with fail
        go_ret
        exact ⟨by rw [HR.out]; rfl, b, by have := HB.out; have := HG0.out.size; omega, HGW.out.grown (grown_drewN wr nq none), HOFF.out.trans (Off.of (grown_drewN wr nq none) (fun z e => by cases e)) (fun z _ e => e)⟩
      · have hL' := hL
        rw [decide_eq_false hxm] at hL'
        clear hL
        have HR := Lib.hid (locI_not hxm)
        clear hxm
        go_wp2_with fail
        go_quiet (fail)
        go_wp2_with fail
        go_ret
        exact ⟨by rw [HR.out]; rfl, b, by have := HB.out; have := HG0.out.size; omega, HGW.out.grown (grown_drewN wr nq none), HOFF.out.trans (Off.of (grown_drewN wr nq none) (fun z e => by cases e)) (fun z _ e => e)⟩
end Go.Proofs.Ythagoihpppppkaa

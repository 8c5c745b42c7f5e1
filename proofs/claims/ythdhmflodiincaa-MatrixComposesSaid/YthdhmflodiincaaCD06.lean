/- Texts of the proof: M3 M4 M5a. -/
import Derived.Test.YthdhmflodiincaaCD05
import Derived.StillTailTactics
import Derived.Test.YthdhmflodiincaaCD00
import Derived.Deep.DeepCutAuto
set_option maxRecDepth 100000
set_option maxHeartbeats 8000000
namespace Go.Proofs.Ythdhmflodiincaa
open Lib (hid)
open Go.RowKit Go.Maps
set_option maxRecDepth 100000

structure Core (p : Nat) (w : World) (owned : Bool) (va : Option Addr) (vc : Nat) (gs : List Gt) (vis : Int) : Prop where
 c0 : w.cell? ⟨p, 0, none⟩ = some (.slice va gs.length vc)
 c1 : w.cell? ⟨p, 1, none⟩ = some (.bool owned)
 c3 : w.cell? ⟨p, 3, none⟩ = some (.int .i64 vis)
 fr : ∀ o, w.frozen? ⟨p, o, none⟩ = false
 row : GRow (p + 1) p w owned va vc gs
theorem Grw.core {p : Nat} {w : World} {owned : Bool} {va : Option Addr} {vc : Nat} {gs : List Gt} {mb : Option Nat} {vis : Int} (h : Grw p w owned va vc gs mb vis) : Core p w owned va vc gs vis := ⟨h.c0, h.c1, h.c3, h.fr, h.row⟩
theorem Core.grw {p b : Nat} {w : World} {owned : Bool} {va : Option Addr} {vc : Nat} {gs : List Gt} {vis : Int} (h : Core p w owned va vc gs vis) (h2 : w.cell? ⟨p, 2, none⟩ = some (.map (some b))) (hb : p < b) (hm : MapG w b gs) : Grw p w owned va vc gs (some b) vis :=
 ⟨h.c0, h.c1, h2, h.c3, h.fr, h.row, fun b' e => by injection e with e; subst e; exact ⟨hb, hm⟩⟩
theorem MapG.ne_row {p b : Nat} {w : World} {owned : Bool} {va : Option Addr} {vc : Nat} {gs S : List Gt} (h : GRow (p + 1) p w owned va vc gs) (hm : MapG w b S) : ¬ (owned = true ∧ ∃ a, va = some a ∧ a.block = b) := by
 rintro ⟨rfl, a, rfl, e⟩
 unfold GRow at h
 simp only [if_true] at h
 obtain ⟨D, ⟨es, clock, hb, _⟩, _⟩ := hm
 rcases h.2 with ⟨h0, _⟩ | ⟨g, cap, cur, e1, _, h2, _⟩
 · cases h0
 ·
  injection e1 with e1 _ _
  injection e1 with e1
  rw [e1] at e
  subst e
  rw [hb] at h2
  cases h2
theorem Core.far {p : Nat} {w w' : World} {owned : Bool} {va : Option Addr} {vc : Nat} {gs : List Gt} {vis : Int} {r : Option Nat} (h : Core p w owned va vc gs vis) (hg : w.grownBy w' r) (hr : ∀ x, r = some x → p < x ∧ ¬ (owned = true ∧ ∃ a, va = some a ∧ a.block = x)) : Core p w' owned va vc gs vis := by
 have hp : some p ≠ r := fun e => by have := (hr p e.symm).1; omega
 exact ⟨hg.cell h.c0 hp, hg.cell h.c1 hp, hg.cell h.c3 hp, fun o => (World.frozen?_of_block (a := ⟨p, o, none⟩) (hg.block p (lies_lt h.c0) hp)).trans (h.fr o), h.row.far hg (fun x e => ⟨by have := (hr x e).1; omega, (hr x e).2⟩)⟩
theorem Core.setIx {p : Nat} {w : World} {owned : Bool} {va : Option Addr} {vc : Nat} {gs : List Gt} {vis : Int} (h : Core p w owned va vc gs vis) (v : Value) : Core p (w.setCell ⟨p, 2, none⟩ v) owned va vc gs vis := by
 refine ⟨?_, ?_, ?_, fun o => by rw [World.frozen?_setCell]; exact h.fr o, h.row.far (grown_set _ _ _ _) (fun x e => by cases e; exact ⟨Nat.le_refl _, h.row.ne⟩)⟩
 · rw [World.cell?_setCell_other _ _ _ _ (ne_at (by decide))]; exact h.c0
 · rw [World.cell?_setCell_other _ _ _ _ (ne_at (by decide))]; exact h.c1
 · rw [World.cell?_setCell_other _ _ _ _ (ne_at (by decide))]; exact h.c3

theorem wpList_setM {ops : Array Oper} {rest : List Oper} {o : Oper} {a : Act} {Q : Exit → Act → World → Prop} {w : World} (hg : o.guard = none) (m x y : Operand) (hop : o.op = Op.mapUpdate 120 m x y)
  (b : Nat) (S : List Gt) (hm : a.eval m = .map (some b)) (hown : MapG w b S) (hl : S.length ≤ 1000000) (k : Gt) (hx : a.eval x = gv k) (hk : WfG k) (hn : k ∉ S) (hy : a.eval y = .int .i64 (S.length : Int))
  (hK : ∀ w', MapG w' b (S ++ [k]) → w.grownBy w' (some b) → wpList Try.prog ops Q rest (a.put o.dst undef) w') : wpList Try.prog ops Q (o :: rest) a w := by
 refine wpList_plain hg fun K' hK' => ?_
 obtain ⟨w', hr, h2, h3⟩ := hown.store hl hk hn
 unfold Oper.wp
 simp [execOp, hop, hm, hx, hy, hr, Result.andThen]
 exact hK' _ _ (hK w' h2 h3)
theorem not_take {gs : List Gt} {k : Nat} {g : Gt} (hone : ∀ (i j : Nat) (g : Gt), gs[i]? = some g → gs[j]? = some g → i = j) (hg : gs[k]? = some g) : g ∉ gs.take k := fun h => by
 obtain ⟨j, hj⟩ := List.mem_iff_getElem?.1 h
 have hjk : j < k := by have := (List.getElem?_eq_some_iff.1 hj).1; rw [List.length_take] at this; omega
 rw [List.getElem?_take_of_lt hjk] at hj
 have := hone j k g hj hg
 omega
theorem make78 {n : Nat} (_h : n ≤ 1000) (w : World) : (Instr.makeMap 120 (some (.int .i64 (n : Int)))).run Try.prog w = .ok (.map (some w.heap.size)) (w.alloc (.map #[] 0)) := by
 unfold Instr.makeMap
 go_simp

theorem find_make (gs : List Gt) (x : Gt) (fm : Nat) (p : Nat) (owned : Bool) (va : Option Addr) (vc : Nat) (vis : Int) (w : World) (h : Grw p w owned va vc gs none vis) (hl : gs.length ≤ 1000) (hv : 8 * (gs.length : Int) < vis)
  (hx : WfG x) (hwf : ∀ g ∈ gs, WfG g) (hone : ∀ (i j : Nat) (g : Gt), gs[i]? = some g → gs[j]? = some g → i = j) :
  Calls Try.prog 128 #[.pointer (some ⟨p, 0, none⟩), gv x, .int .i64 (fm : Int)] w fun e w' => e = .returned (.int .i64 (locI x gs)) ∧ ∃ b, w.heap.size ≤ b ∧ Grw p w' owned va vc gs (some b) vis ∧ Off (fun k => k = p) w w' := by
 have hg := gAl w (.cells #[.int .i64 x.1, .int .i64 x.2.1, .int .i64 x.2.2] 99) none
 have hxc := gate_cells w x
 obtain ⟨W, hW⟩ : ∃ W, w.alloc (.cells #[.int .i64 x.1, .int .i64 x.2.1, .int .i64 x.2.2] 99) = W := ⟨_, rfl⟩
 rw [hW] at hg hxc
 have HX := hid hxc
 have HG := hid hg
 have HW := hid (h.grown hg)
 have HONE := hid (And.intro hone (And.intro hx hwf))
 have HPS := hid (show p < w.heap.size from lies_lt h.c0)
 have k0 := HW.out.c0; have k2 := HW.out.c2; have k3 := HW.out.c3
 obtain ⟨n, hn⟩ : ∃ n, gs.length = n := ⟨_, rfl⟩
 rw [hn] at hl hv k0
 have HN := hid hn
 have hw8 : IntKind.i64.wrap (8 * (n : Int)) = 8 * (n : Int) := IntWalk.i64_in _ (by omega)
 have hcmp : decide (8 * (n : Int) < vis) = true := decide_eq_true hv
 have hE := nilmap_eq
 have hMk := make78 hl
 have kf := HW.out.fr 2
 clear h hone hg hxc hx hwf hv hn
 go_enter Try.func128, Try.ntmps128
 go_wp2_with fail
 go_quiet (fail)
 clear hE hMk hcmp hw8 k0 k2 k3 kf
 obtain ⟨W0, hW0⟩ : ∃ z, W.drewN nq = z := ⟨_, rfl⟩
 have hG0 : W.grownBy W0 none := by rw [← hW0]; exact grown_drewN W nq none
 rw [hW0]
 clear hW hW0
 have HG0 := hid (gT HG.out hG0)
 have HWW0 := hid hG0
 have HLT0 := hid (show w.heap.size < W0.heap.size from Nat.lt_of_lt_of_le (lies_lt HX.out.1) hG0.size)
 have HW0 := hid (HW.out.grown hG0).core
 have k0 := HW0.out.c0; have k2 := (HW.out.grown hG0).c2; have kf := HW0.out.fr 2
 have HPW := hid (show p < W0.heap.size from lies_lt k0)
 rw [HN.out] at k0
 have hm1 := gAl W0 (.map #[] 0) none
 have hMk := make78 hl W0
 have q0 := hm1.cell k0 (by simp); have q2 := hm1.cell k2 (by simp)
 have qf := (grown_frozen hm1 HPW.out 2).trans kf
 have HM1 := hid (MapG.made W0)
 have HC1 := hid (HW0.out.far hm1 (fun x e => by cases e))
 have HGm := hid hm1; clear hm1
 obtain ⟨W1, hW1⟩ : ∃ z, W0.alloc (.map #[] 0) = z := ⟨_, rfl⟩
 rw [hW1] at q0 q2 qf HM1 HC1 HGm hMk
 obtain ⟨b, hb⟩ : ∃ z, W0.heap.size = z := ⟨_, rfl⟩
 rw [hb] at hMk HM1 HPW
 have HB := hid hb; clear hb
 go_wp2_with fail
 have HC2 := hid (HC1.out.setIx (.map (some b)))
 have HM2 := hid (HM1.out.kept (grown_set W1 p 2 (.map (some b))) (fun e => by injection e with e; have := HPW.out; omega))
 have HI2 := hid (World.cell?_setCell_same W1 ⟨p, 2, none⟩ (.map (some b)) q2)
 have HG2 := hid (grown_set W1 p 2 (.map (some b)))
 clear q0 q2 qf k0 k2 kf hG0 hMk hW1
 obtain ⟨W2, hW2⟩ : ∃ z, W1.setCell ⟨p, 2, none⟩ (.map (some b)) = z := ⟨_, rfl⟩
 rw [hW2] at HC2 HM2 HI2 HG2 ⊢
 clear hW2
 go_loopg [44] n (fun g s44 wr => ∃ (k : Nat), s44 = .int .i64 (k : Int) ∧ g = n - k ∧ k ≤ n ∧ Core p wr owned va vc gs vis ∧ wr.cell? ⟨p, 2, none⟩ = some (.map (some b)) ∧ MapG wr b (gs.take k) ∧ W2.grownBy wr (some b))
 case atStart => exact ⟨0, rfl, by omega, Nat.zero_le _, HC2.out, HI2.out, HM2.out, grown_refl _ _⟩
 case round =>
  obtain ⟨k, rfl, hgk, hk, hco, hci, hma, hgr⟩ := hrel
  have HI := hid hgk; clear hgk
  have HCO := hid hco; clear hco
  have HCI := hid hci; clear hci
  have HMA := hid hma; clear hma
  have HGR := hid hgr; clear hgr
  by_cases hkn : k < n
  ·
   have hc : decide ((k : Int) < (n : Int)) = true := decide_eq_true (by omega)
   have hc2 : decide (k < n) = true := decide_eq_true hkn
   obtain ⟨g, hg⟩ : ∃ g, gs[k]? = some g := ⟨_, List.getElem?_eq_getElem (by rw [HN.out]; omega)⟩
   obtain ⟨bb, o, rfl, g0, g1, g2⟩ := (GRow.gates HCO.out.row).at hg
   have HGG := hid hg; clear hg
   have hwk : IntKind.i64.wrap ((k : Int) + 1) = ((k + 1 : Nat) : Int) := by rw [IntWalk.i64_in _ (by omega)]; omega
   have hgc := gate_cells wr g
   have hga2 := gAl wr (.cells #[.int .i64 g.1, .int .i64 g.2.1, .int .i64 g.2.2] 99) none
   have HT := hid (show (gs.take k).length = k by rw [List.length_take, HN.out]; omega)
   have HTS := hid (show gs.take k ++ [g] = gs.take (k + 1) by rw [List.take_add_one, HGG.out]; rfl)
   go_wp2_with fail
   clear g0 g1 g2 hc hc2
   have HMA2 := hid (HMA.out.grown hga2)
   have a2 := hga2.cell HCI.out (by simp)
   have HGA := hid (gT HGR.out (grown_any hga2 (some b)))
   have HCA := hid (HCO.out.far hga2 (fun x e => by cases e))
   have hlt : p < wr.heap.size := lies_lt HCI.out
   have HPB := hid (show b < wr.heap.size ∧ p < wr.heap.size from ⟨HMA.out.lt, hlt⟩)
   clear hlt hga2
   obtain ⟨wA, hwA⟩ : ∃ W, wr.alloc (.cells #[.int .i64 g.1, .int .i64 g.2.1, .int .i64 g.2.2] 99) = W := ⟨_, rfl⟩
   rw [hwA] at HMA2 a2 HGA HCA hgc ⊢
   obtain ⟨y0, y1, y2⟩ := hgc
   clear hwA
   have hd : wA.grownBy wA.drew none := ⟨rfl, rfl, rfl, Nat.le_refl _, fun _ _ _ => rfl⟩
   have HMD := hid (HMA2.out.grown hd)
   have HGD := hid (gT HGA.out (grown_any hd (some b)))
   have HCD := hid (HCA.out.far hd (fun x e => by cases e))
   have HAD := hid (hd.cell a2 (by simp))
   clear hd
   go_still_tail 6, (by kernel_rfl)
   change wpList _ _ _ _ _ wA.drew
   obtain ⟨wD, hwD⟩ : ∃ W, wA.drew = W := ⟨_, rfl⟩
   rw [hwD] at HMD HGD HCD HAD ⊢
   clear hwD y0 y1 y2 a2 hwk
   refine wpList_setM rfl _ _ _ rfl b (gs.take k) rfl HMD.out (by rw [HT.out]; omega) g rfl (HONE.out.2.2 g (List.mem_of_getElem? HGG.out)) (not_take HONE.out.1 HGG.out) (by rw [HT.out]; rfl) ?_
   intro w6 hset6 hgr6
   have HC6 := hid (HCD.out.far hgr6 (fun x e => by cases e; exact ⟨HPW.out, MapG.ne_row HCD.out.row HMD.out⟩))
   have HA6 := hid (hgr6.cell HAD.out (fun e => Nat.ne_of_lt HPW.out (Option.some.inj e)))
   have HG6 := hid (gT HGD.out hgr6)
   rw [HTS.out] at hset6
   have HS6 := hid hset6
   clear hset6 hgr6
   have hwk : IntKind.i64.wrap ((k : Int) + 1) = ((k + 1 : Nat) : Int) := by rw [IntWalk.i64_in _ (by omega)]; omega
   go_wp2_with fail
   go_roundg (n - (k + 1))
   case measure => rw [HI.out]; omega
   case rel => exact ⟨k + 1, rfl, rfl, by omega, HC6.out, HA6.out, HS6.out, HG6.out⟩
  ·
   have hkk : k = n := by omega
   have hc : decide ((k : Int) < (n : Int)) = false := decide_eq_false (by omega)
   have hc2 : decide (k < n) = false := decide_eq_false hkn
   have hc3 : decide (n < n) = false := decide_eq_false (by omega)
   subst hkk
   have HALL := hid (show gs.take k = gs from List.take_of_length_le (by rw [HN.out]; exact Nat.le_refl _))
   have HM3 := hid (show MapG wr b gs by have := HMA.out; rw [HALL.out] at this; exact this)
   have HGW := hid (HCO.out.grw HCI.out HPW.out HM3.out)
   have hNe := mapnil_ne b
   have k2 := HCI.out
   have HOFF : Hid (Off (fun z => z = p) w wr) := hid ((((Off.of HG0.out (fun z e => by cases e)).trans (Off.of HGm.out (fun z e => by cases e)) (fun z _ e => e)).trans (Off.of HG2.out (fun z e => by cases e; rfl)) (fun z _ e => e)).trans (Off.of (M := fun z => z = b) HGR.out (fun z e => by cases e; rfl)) (fun z hz e => by have := HB.out; have := HG0.out.size; omega))
   have X0 := HG0.out
   have hxx : GateAt wr w.heap.size 0 x := by
    have h0 := HX.out.moved (gT (grown_refl W none) (HWW0.out)) (by simp)
    exact ((h0.moved HGm.out (by simp)).moved HG2.out (fun e => by injection e with e; have := HPS.out; omega)).moved HGR.out (fun e => by injection e with e; have := HB.out; have := HLT0.out; omega)
   obtain ⟨x0, x1, x2⟩ := hxx
   clear X0
   obtain ⟨c, hL, hcc⟩ := HM3.out.looks HONE.out.2.1
   have HC := hid hcc; clear hcc
   by_cases hxm : x ∈ gs
   ·
    have hL' := hL
    rw [decide_eq_true hxm] at hL'
    clear hL
    have HR := hid (locI_mem HONE.out.1 HC.out hxm)
    clear hxm
    go_wp2_with fail
    go_quiet (fail)
    go_wp2_with fail
    go_ret
    exact ⟨by rw [HR.out]; rfl, b, by have := HB.out; have := HG0.out.size; omega, HGW.out.grown (grown_drewN wr nq none), HOFF.out.trans (Off.of (grown_drewN wr nq none) (fun z e => by cases e)) (fun z _ e => e)⟩
   ·
    have hL' := hL
    rw [decide_eq_false hxm] at hL'
    clear hL
    have HR := hid (locI_not hxm)
    clear hxm
    go_wp2_with fail
    go_quiet (fail)
    go_wp2_with fail
    go_ret
    exact ⟨by rw [HR.out]; rfl, b, by have := HB.out; have := HG0.out.size; omega, HGW.out.grown (grown_drewN wr nq none), HOFF.out.trans (Off.of (grown_drewN wr nq none) (fun z e => by cases e)) (fun z _ e => e)⟩
set_option maxRecDepth 100000

theorem Grw.grow {p : Nat} {w : World} {owned : Bool} {va : Option Addr} {vc : Nat} {gs : List Gt} {vis : Int} (h : Grw p w owned va vc gs none vis) : Grow (p + 1) p w owned va vc gs vis :=
 ⟨h.c0, h.c1, h.c2, h.c3, h.fr, ⟨Nat.lt_succ_self _, lies_lt h.c0⟩, h.row⟩
theorem Grow.grw {p : Nat} {w : World} {owned : Bool} {va : Option Addr} {vc : Nat} {gs : List Gt} {vis : Int} (h : Grow (p + 1) p w owned va vc gs vis) : Grw p w owned va vc gs none vis :=
 ⟨h.c0, h.c1, h.c2, h.c3, h.fr, h.row, fun b e => by cases e⟩
theorem gfind_calls (gs : List Gt) (x : Gt) (fm p : Nat) (owned : Bool) (va : Option Addr) (vc : Nat) (mb : Option Nat) (vis : Int) (w : World) (h : Grw p w owned va vc gs mb vis) (hl : gs.length ≤ 1000) (hv : 0 ≤ vis)
  (hx : WfG x) (hwf : ∀ g ∈ gs, WfG g) (hone : ∀ (i j : Nat) (g : Gt), gs[i]? = some g → gs[j]? = some g → i = j) (hfrom : ∀ i : Nat, gs[i]? = some x → fm ≤ i) :
  Calls Try.prog 128 #[.pointer (some ⟨p, 0, none⟩), gv x, .int .i64 (fm : Int)] w fun e w' => ∃ mb' vis', e = .returned (.int .i64 (locI x gs)) ∧ Grw p w' owned va vc gs mb' vis' ∧ (vis ≤ vis' ∧ vis' ≤ vis + (gs.length : Int)) ∧ Off (fun k => k = p) w w' ∧ ∀ k, k < w.heap.size → mb' = some k → mb = some k := by
 cases mb with
 | some b =>
  refine (find_ix gs x fm p b owned va vc vis w h hx hone).mono ?_
  rintro e w' ⟨rfl, hg⟩
  exact ⟨some b, vis, rfl, h.grown hg, ⟨Int.le_refl _, by omega⟩, Off.of hg (fun k e => by cases e), fun k _ e => e⟩
 | none =>
  by_cases hc : 8 * (gs.length : Int) < vis
  ·
   refine (find_make gs x fm p owned va vc vis w h hl hc hx hwf hone).mono ?_
   rintro e w' ⟨rfl, b, hb, hg, ho⟩
   exact ⟨some b, vis, rfl, hg, ⟨Int.le_refl _, by omega⟩, ho, fun k hk e => by injection e with e; omega⟩
  ·
   refine (find_calls gs x fm (p + 1) p owned va vc vis w h.grow hl ⟨hv, by omega⟩ hone hfrom).mono ?_
   rintro e w' ⟨vis', rfl, hg, hv', hf⟩
   exact ⟨none, vis', rfl, hg.grw, hv', Off.of hf (fun k e => by cases e; rfl), fun k _ e => by cases e⟩
structure Pre (p : Nat) (w : World) (owned : Bool) (va : Option Addr) (vc : Nat) (gs : List Gt) (mb : Option Nat) (is : List Gt) (vis : Int) : Prop where
 core : Core p w owned va vc gs vis
 c2 : w.cell? ⟨p, 2, none⟩ = some (.map mb)
 ix : ∀ b, mb = some b → p < b ∧ MapG w b is
theorem Grw.pre {p : Nat} {w : World} {owned : Bool} {va : Option Addr} {vc : Nat} {gs : List Gt} {mb : Option Nat} {vis : Int} (h : Grw p w owned va vc gs mb vis) : Pre p w owned va vc gs mb gs vis := ⟨h.core, h.c2, h.ix⟩
theorem Pre.grw {p : Nat} {w : World} {owned : Bool} {va : Option Addr} {vc : Nat} {gs : List Gt} {mb : Option Nat} {vis : Int} (h : Pre p w owned va vc gs mb gs vis) : Grw p w owned va vc gs mb vis := ⟨h.core.c0, h.core.c1, h.c2, h.core.c3, h.core.fr, h.core.row, h.ix⟩
theorem Pre.bare {p : Nat} {w : World} {owned : Bool} {va : Option Addr} {vc : Nat} {gs is : List Gt} {vis : Int} (h : Grw p w owned va vc gs none vis) : Pre p w owned va vc gs none is vis := ⟨h.core, h.c2, fun b e => by cases e⟩
theorem Pre.far {p : Nat} {w w' : World} {owned : Bool} {va : Option Addr} {vc : Nat} {gs is : List Gt} {mb : Option Nat} {vis : Int} {r : Option Nat} (h : Pre p w owned va vc gs mb is vis) (hg : w.grownBy w' r) (hr : ∀ x, r = some x → p < x ∧ ¬ mine p owned va mb x) : Pre p w' owned va vc gs mb is vis :=
 ⟨h.core.far hg (fun x e => ⟨(hr x e).1, fun c => (hr x e).2 (.inr (.inl c))⟩), hg.cell h.c2 (fun e => by have := (hr p e.symm).1; omega), fun b e => ⟨(h.ix b e).1, (h.ix b e).2.kept hg (fun c => (hr b c.symm).2 (.inr (.inr e)))⟩⟩
theorem Pre.grown {p : Nat} {w w' : World} {owned : Bool} {va : Option Addr} {vc : Nat} {gs is : List Gt} {mb : Option Nat} {vis : Int} (h : Pre p w owned va vc gs mb is vis) (hg : w.grownBy w' none) : Pre p w' owned va vc gs mb is vis := h.far hg (fun x e => by cases e)
theorem Off.own {M : Nat → Prop} {w0 w w' : World} {r : Option Nat} (h : Off M w0 w) (hg : w.grownBy w' r) (hr : ∀ k, r = some k → M k ∨ w0.heap.size ≤ k) : Off M w0 w' :=
 h.trans (Off.of (M := fun k => r = some k) hg (fun k e => e)) (fun k hk e => (hr k e).resolve_right (by omega))
theorem Pre.put {p : Nat} {w w6 : World} {va a : Option Addr} {vc c : Nat} {gs hs is : List Gt} {mb : Option Nat} {vis : Int} {owned : Bool} {r : Option Nat} {m : Nat} (hm : hs.length = m) (h : Pre p w owned va vc gs mb is vis) (hg : w.grownBy w6 r) (hr : some p ≠ r) (hri : ∀ b, mb = some b → some b ≠ r)
  (hown : w6.ownsRow (p + 1) 99 3 (.slice a m c) m (gateCells hs)) :
  Pre p ((w6.setCell ⟨p, 0, none⟩ (.slice a m c)).setCell ⟨p, 1, none⟩ (.bool true)) true a c hs mb is vis ∧ (owned = true → Pre p (w6.setCell ⟨p, 0, none⟩ (.slice a m c)) true a c hs mb is vis) ∧
  w6.cell? ⟨p, 0, none⟩ = some (.slice va gs.length vc) ∧ w6.frozen? ⟨p, 0, none⟩ = false ∧ (w6.setCell ⟨p, 0, none⟩ (.slice a m c)).cell? ⟨p, 1, none⟩ = some (.bool owned) ∧ (w6.setCell ⟨p, 0, none⟩ (.slice a m c)).frozen? ⟨p, 1, none⟩ = false := by
 subst hm
 have e0 := hg.cell h.core.c0 hr
 have e1 := hg.cell h.core.c1 hr
 have e2 := hg.cell h.c2 hr
 have e3 := hg.cell h.core.c3 hr
 have hf : ∀ o, w6.frozen? ⟨p, o, none⟩ = false := fun o => (World.frozen?_of_block (a := ⟨p, o, none⟩) (hg.block p (lies_lt h.core.c0) hr)).trans (h.core.fr o)
 have hi : ∀ b, mb = some b → p < b ∧ MapG w6 b is := fun b e => ⟨(h.ix b e).1, (h.ix b e).2.kept hg (hri b e)⟩
 have hset : ∀ (U : World) (k : Nat) (v : Value), (∀ b, mb = some b → p < b ∧ MapG U b is) → ∀ b, mb = some b → p < b ∧ MapG (U.setCell ⟨p, k, none⟩ v) b is := fun U k v hU b e => ⟨(hU b e).1, (hU b e).2.kept (grown_set U p k v) (fun c => by injection c with c; have := (hU b e).1; omega)⟩
 have own7 : (w6.setCell ⟨p, 0, none⟩ (.slice a hs.length c)).ownsRow (p + 1) 99 3 (.slice a hs.length c) hs.length (gateCells hs) := hown.kept (grown_set _ _ _ _) (own_ne hown (by omega))
 have own8 : ((w6.setCell ⟨p, 0, none⟩ (.slice a hs.length c)).setCell ⟨p, 1, none⟩ (.bool true)).ownsRow (p + 1) 99 3 (.slice a hs.length c) hs.length (gateCells hs) := own7.kept (grown_set _ _ _ _) (own_ne own7 (by omega))
 have a0 : (w6.setCell ⟨p, 0, none⟩ (.slice a hs.length c)).cell? ⟨p, 0, none⟩ = some (.slice a hs.length c) := World.cell?_setCell_same _ _ _ e0
 have a1 : (w6.setCell ⟨p, 0, none⟩ (.slice a hs.length c)).cell? ⟨p, 1, none⟩ = some (.bool owned) := by rw [World.cell?_setCell_other _ _ _ _ (ne_at (by decide))]; exact e1
 have a2 : (w6.setCell ⟨p, 0, none⟩ (.slice a hs.length c)).cell? ⟨p, 2, none⟩ = some (.map mb) := by rw [World.cell?_setCell_other _ _ _ _ (ne_at (by decide))]; exact e2
 have a3 : (w6.setCell ⟨p, 0, none⟩ (.slice a hs.length c)).cell? ⟨p, 3, none⟩ = some (.int .i64 vis) := by rw [World.cell?_setCell_other _ _ _ _ (ne_at (by decide))]; exact e3
 refine ⟨⟨⟨?_, World.cell?_setCell_same _ _ _ a1, ?_, fun o => by rw [World.frozen?_setCell, World.frozen?_setCell]; exact hf o, by unfold GRow; simp only [if_true]; exact own8⟩, ?_, hset _ _ _ (hset _ _ _ hi)⟩,
  fun ho => ⟨⟨a0, by rw [a1, ho], a3, fun o => by rw [World.frozen?_setCell]; exact hf o, by unfold GRow; simp only [if_true]; exact own7⟩, a2, hset _ _ _ hi⟩, e0, hf 0, a1, by rw [World.frozen?_setCell]; exact hf 1⟩
 · rw [World.cell?_setCell_other _ _ _ _ (ne_at (by decide))]; exact a0
 · rw [World.cell?_setCell_other _ _ _ _ (ne_at (by decide))]; exact a3
 · rw [World.cell?_setCell_other _ _ _ _ (ne_at (by decide))]; exact a2

abbrev m5ao0 : Oper := { dst := some 60, op := Op.move (Operand.tmp 0), type := 86, pos := "gates.go:93", after := #[], guard := none }
abbrev m5ao1 : Oper := { dst := some 61, op := Op.move (Operand.tmp 0), type := 86, pos := "gates.go:93", after := #[], guard := none }
abbrev m5ao2 : Oper := { dst := some 62, op := Op.nilCheck (Operand.tmp 61), type := 0, pos := "gates.go:93", after := #[{ on := 1, ground := Ground.data }], guard := none }
abbrev m5ao3 : Oper := { dst := some 63, op := Op.fieldAddr 122 (Operand.tmp 62) 0, type := 0, pos := "gates.go:93", after := #[{ on := 2, ground := Ground.data }], guard := none }
abbrev m5ao4 : Oper := { dst := some 64, op := Op.load 28 (Operand.tmp 63), type := 28, pos := "gates.go:93", after := #[{ on := 3, ground := Ground.data }], guard := none }
abbrev m5ao5 : Oper := { dst := some 65, op := Op.load 99 (Operand.tmp 4), type := 99, pos := "gates.go:93", after := #[], guard := none }
abbrev m5ao6 : Oper := { dst := some 66, op := Op.buildSlice 28 1 #[(0, Operand.tmp 65)], type := 28, pos := "gates.go:93", after := #[{ on := 5, ground := Ground.data }], guard := none }
abbrev m5ao7 : Oper := { dst := some 67, op := Op.call { callee := Callee.builtin Builtin.append, args := #[Operand.tmp 64, Operand.tmp 66], argTypes := #[28, 28] }, type := 28, pos := "gates.go:93", after := #[{ on := 4, ground := Ground.data }, { on := 6, ground := Ground.data }], guard := none }
abbrev m5ao8 : Oper := { dst := some 68, op := Op.nilCheck (Operand.tmp 60), type := 0, pos := "gates.go:93", after := #[{ on := 0, ground := Ground.data }, { on := 0, ground := Ground.phase }, { on := 1, ground := Ground.phase }, { on := 2, ground := Ground.phase }, { on := 3, ground := Ground.phase }, { on := 4, ground := Ground.phase }, { on := 5, ground := Ground.phase }, { on := 6, ground := Ground.phase }, { on := 7, ground := Ground.phase }], guard := none }
abbrev m5ao9 : Oper := { dst := some 69, op := Op.fieldAddr 122 (Operand.tmp 68) 0, type := 0, pos := "gates.go:93", after := #[{ on := 8, ground := Ground.data }, { on := 0, ground := Ground.phase }, { on := 1, ground := Ground.phase }, { on := 2, ground := Ground.phase }, { on := 3, ground := Ground.phase }, { on := 4, ground := Ground.phase }, { on := 5, ground := Ground.phase }, { on := 6, ground := Ground.phase }, { on := 7, ground := Ground.phase }], guard := none }
abbrev m5ao10 : Oper := { dst := none, op := Op.store 28 (Operand.tmp 69) (Operand.tmp 67), type := 0, pos := "gates.go:93", after := #[{ on := 9, ground := Ground.data }, { on := 7, ground := Ground.data }, { on := 7, ground := Ground.chain }, { on := 0, ground := Ground.phase }, { on := 1, ground := Ground.phase }, { on := 2, ground := Ground.phase }, { on := 3, ground := Ground.phase }, { on := 4, ground := Ground.phase }, { on := 5, ground := Ground.phase }, { on := 6, ground := Ground.phase }, { on := 7, ground := Ground.phase }], guard := none }
def ref11Ops : Array Oper := #[m5ao0,
 m5ao1,
 m5ao2,
 m5ao3,
 m5ao4,
 m5ao5,
 m5ao6,
 m5ao7,
 m5ao8,
 m5ao9,
 m5ao10]
theorem ref_own {p n : Nat} {w W : World} {va1 : Option Addr} {vc1 : Nat} {gs is : List Gt} {mb : Option Nat} {vis : Int} {M : Nat → Prop} (hG : Pre p W true va1 vc1 gs mb is vis) (hn : gs.length = n) (hO : ∀ a, va1 = some a → M a.block ∨ w.heap.size ≤ a.block) :
  ∀ k, (Value.slice va1 n vc1).ownBlock = some k → (p + 1 ≤ k ∧ (M k ∨ w.heap.size ≤ k)) ∧ ∀ b, mb = some b → b ≠ k := fun k hk => by
 have h1 := hG.core.row; unfold GRow at h1; simp only [if_true] at h1; rw [hn] at h1
 have h2 : ∃ a, va1 = some a ∧ a.block = k := by cases hva : va1 with | none => rw [hva] at hk; cases hk | some a => rw [hva] at hk; exact ⟨a, rfl, Option.some.inj hk⟩
 obtain ⟨a, ha1, ha2⟩ := h2
 exact ⟨⟨(h1.lt k hk).1, by rw [← ha2]; exact hO a ha1⟩, fun b e c => by have := MapG.ne_row hG.core.row (hG.ix b e).2; exact this ⟨rfl, a, ha1, by rw [ha2, c]⟩⟩
theorem ref11 {Q : Exit → Act → World → Prop} (hp : ∀ c a d v w, Q (.panic c) (Act.put a d v) w → Q (.panic c) a w) {gs : List Gt} {x : Gt} {n p : Nat} {va1 : Option Addr} {vc1 : Nat} {mb : Option Nat} {vis' : Int} {w V : World} {M : Nat → Prop} {t1 t2 t3 t5 t6 t7 t8 t9 t10 t11 t12 t13 t14 t15 t16 t17 t18 t19 t20 t21 t22 t23 t24 t25 t26 t27 t28 t29 t30 t31 t32 t33 t34 t35 t36 t37 t38 t39 t40 t41 t42 t43 t44 t45 t46 t47 t48 t49 t50 t51 t52 t53 t54 t55 t56 t57 t58 t59 t60 t61 t62 t63 t64 t65 t66 t67 t68 t69 t70 t71 t72 t73 t74 t75 t76 : Value} (hL : n ≤ 990)
  (HN : Hid (gs.length = n)) (HMP : Hid (M p)) (HGV : Hid (Pre p V true va1 vc1 gs mb (gs ++ [x]) vis')) (HV0 : Hid (Off M w V)) (HVX : Hid (GateAt V w.heap.size 0 x)) (HOB : Hid (∀ a, va1 = some a → M a.block ∨ w.heap.size ≤ a.block))
  (HQ : ∀ (u1 u2 u3 u4 u5 u6 u7 u8 u9 u10 u11 u12 u13 u14 u15 u16 u17 u18 u19 u20 u21 u22 u23 u24 u25 u26 u27 u28 u29 u30 u31 u32 u33 u34 u35 u36 u37 u38 u39 u40 u41 u42 u43 u44 u45 u46 u47 u48 u49 u50 u51 u52 u53 u54 u55 u56 u57 u58 u59 u60 u61 u62 u63 u64 u65 u66 u67 u68 u69 u70 u71 u72 u73 u74 u75 u76 : Value) (rgA : Option Addr) (rcA m : Nat) (wF : World), n + 1 = m → Pre p wF true rgA rcA (gs ++ [x]) mb (gs ++ [x]) vis' → Off M w wF → (∀ a, rgA = some a → M a.block ∨ w.heap.size ≤ a.block) → Q .normal ⟨#[.pointer (some ⟨p, 0, none⟩), u1, u2, u3, u4, u5, u6, u7, u8, u9, u10, u11, u12, u13, u14, u15, u16, u17, u18, u19, u20, u21, u22, u23, u24, u25, u26, u27, u28, u29, u30, u31, u32, u33, u34, u35, u36, u37, u38, u39, u40, u41, u42, u43, u44, u45, u46, u47, u48, u49, u50, u51, u52, u53, u54, u55, u56, u57, u58, u59, u60, u61, u62, u63, u64, u65, u66, u67, u68, u69, u70, u71, u72, u73, u74, u75, u76], []⟩ wF) :
  (Code.region 11 ref11Ops true).wp Try.prog Q ⟨#[.pointer (some ⟨p, 0, none⟩), t1, t2, t3, .pointer (some ⟨w.heap.size, 0, none⟩), t5, t6, t7, t8, t9, t10, t11, t12, t13, t14, t15, t16, t17, t18, t19, t20, t21, t22, t23, t24, t25, t26, t27, t28, t29, t30, t31, t32, t33, t34, t35, t36, t37, t38, t39, t40, t41, t42, t43, t44, t45, t46, t47, t48, t49, t50, t51, t52, t53, t54, t55, t56, t57, t58, t59, t60, t61, t62, t63, t64, t65, t66, t67, t68, t69, t70, t71, t72, t73, t74, t75, t76], []⟩ V := by
 have HS : Hid (∀ Wh : World, Off M w Wh → Off M w Wh) := hid (fun _ h => h)
 have hdr : Off M w V.drew := Off.own HV0.out (⟨rfl, rfl, rfl, Nat.le_refl _, fun _ _ _ => rfl⟩ : V.grownBy V.drew none) (fun k e => by cases e)
 refine wp_region_held_drew (S := (fun Wh : World => Off M w Wh)) (by kernel_rfl) (HS.out _ hdr) (fun hH => ?_)
 refine tk 0 m5ao0 ?_ rfl (by kernel_rfl) (fun c a w h => hp c a _ _ w h) (by rfl) ?_ hH ?_
 rotate_left 1
 · (intro W h; (try dsimp only at h); go_simp <;> with_reducible rfl)
 try simp only [Act.put, sA, sB, sC]
 refine tk 1 m5ao1 ?_ rfl (by kernel_rfl) (fun c a w h => hp c a _ _ w h) (by rfl) ?_ hH ?_
 rotate_left 1
 · (intro W h; (try dsimp only at h); go_simp <;> with_reducible rfl)
 try simp only [Act.put, sA, sB, sC]
 refine tk 2 m5ao2 ?_ rfl (by kernel_rfl) (fun c a w h => hp c a _ _ w h) (by rfl) ?_ hH ?_
 rotate_left 1
 · (intro W h; (try dsimp only at h); go_simp <;> with_reducible rfl)
 try simp only [Act.put, sA, sB, sC]
 refine tk 3 m5ao3 ?_ rfl (by kernel_rfl) (fun c a w h => hp c a _ _ w h) (by rfl) ?_ hH ?_
 rotate_left 1
 · (intro W h; (try dsimp only at h); go_simp <;> with_reducible rfl)
 try simp only [Act.put, sA, sB, sC]
 refine wpAnyH_ready (rs := [4, 5]) (by kernel_rfl) (by simp) ?_
 refine (AllReadyH.cons (o := m5ao4) rfl (fun K hK => ?_) (AllReadyH.cons (o := m5ao5) rfl (fun K hK => ?_) AllReadyH.nil))
 ·
  rw [if_pos (by rfl)]
  have hrow := (HGV.out).core.c0
  rw [HN.out] at hrow
  go_simp
  clear hrow
  refine hK.out _ _ (HS.out _ hdr) (fun hH => ?_)
  clear hK K
  try simp only [Act.put, sA, sB, sC]
  refine wpAnyH_ready (rs := [5]) (by kernel_rfl) (by simp) ?_
  refine (AllReadyH.cons (o := m5ao5) rfl (fun K hK => ?_) AllReadyH.nil)
  rw [if_pos (by rfl)]
  obtain ⟨y0, y1, y2⟩ := HVX.out
  go_simp
  clear y0 y1 y2
  refine hK.out _ _ (HS.out _ hdr) (fun hH => ?_)
  clear hK K
  try simp only [Act.put, sA, sB, sC]
  refine wpAnyH_ready (rs := [6]) (by kernel_rfl) (by simp) ?_
  refine (AllReadyH.cons (o := m5ao6) rfl (fun K hK => ?_) AllReadyH.nil)
  rw [if_pos (by rfl)]
  go_simp
  have haA : V.grownBy ((World.alloc V (.cells #[.int .i64 x.1, .int .i64 x.2.1, .int .i64 x.2.2] 99)).drew) none := gT (gAl V _ none) (⟨rfl, rfl, rfl, Nat.le_refl _, fun _ _ _ => rfl⟩ : (World.alloc V (.cells #[.int .i64 x.1, .int .i64 x.2.1, .int .i64 x.2.2] 99)).grownBy ((World.alloc V (.cells #[.int .i64 x.1, .int .i64 x.2.1, .int .i64 x.2.2] 99)).drew) none)
  have hnA : GateAt ((World.alloc V (.cells #[.int .i64 x.1, .int .i64 x.2.1, .int .i64 x.2.2] 99)).drew) V.heap.size 0 x ∧ Ty47 ((World.alloc V (.cells #[.int .i64 x.1, .int .i64 x.2.1, .int .i64 x.2.2] 99)).drew) V.heap.size := ⟨gate_cells V x, ty_alloc V _⟩
  obtain ⟨WA, hWA⟩ : ∃ WA, (World.alloc V (.cells #[.int .i64 x.1, .int .i64 x.2.1, .int .i64 x.2.2] 99)).drew = WA := ⟨_, rfl⟩
  rw [hWA] at haA hnA ⊢
  clear hWA
  have HGA := hid (HGV.out.grown haA)
  have HNA := hid hnA
  clear hnA
  have hgA := Off.own HV0.out haA (fun k e => by cases e)
  refine hK.out _ _ (HS.out _ hgA) (fun hH => ?_)
  clear hK K
  try simp only [Act.put, sA, sB, sC]
  refine wpAnyH_ready (rs := [7]) (by kernel_rfl) (by simp) ?_
  refine (AllReadyH.cons (o := m5ao7) rfl (fun K hK => ?_) AllReadyH.nil)
  refine ready_append_gates (.tmp 64) (.tmp 66) rfl rfl (p + 1) _ n gs rfl (by have := HGA.out.core.row; unfold GRow at this; simp only [if_true] at this; rw [HN.out] at this; exact this) (some ⟨V.heap.size, 0, none⟩) 1 1 [x] rfl rfl (gate_news HNA.out.1 HNA.out.2) (by omega) (show p + 1 ≤ WA.heap.size from lies_lt HGA.out.core.c0) (fun v' w6 hown' hgrow6 hat6 => ?_)
  obtain ⟨m, hm⟩ : ∃ m, n + 1 = m := ⟨_, rfl⟩
  rw [hm] at hown'
  obtain ⟨rgA, rcA, rfl⟩ := own_shape hown'
  have hob := ref_own HGA.out HN.out HOB.out
  have hg6 := Off.own hgA hgrow6 (fun k hk => (hob k hk).1.2)
  have HOR := hid (show ∀ a, rgA = some a → M a.block ∨ w.heap.size ≤ a.block from fun a e => by subst e; rcases hat6 with e1 | e1; exact (hob a.block e1.symm).1.2; have h1 : a.block = WA.heap.size := Option.some.inj e1; have := hgA.size; exact .inr (by omega))
  have HPUT := hid (Pre.put (m := m) (by rw [List.length_append, HN.out]; exact hm) HGA.out hgrow6 (fun e => by have h1 := (hob p e.symm).1.1; omega) (fun b e c => (hob b c.symm).2 b e rfl) hown')
  clear hown' hat6
  have hs1 := HPUT.out.2.2.1
  have hs2 := HPUT.out.2.2.2.1
  refine hK.out _ _ (HS.out _ hg6) (fun hH => ?_)
  clear hK K
  try simp only [Act.put, sA, sB, sC]
  refine tk 8 m5ao8 ?_ rfl (by kernel_rfl) (fun c a w h => hp c a _ _ w h) (by rfl) ?_ hH ?_
  rotate_left 1
  · (intro W h; (try dsimp only at h); go_simp <;> with_reducible rfl)
  try simp only [Act.put, sA, sB, sC]
  refine tk 9 m5ao9 ?_ rfl (by kernel_rfl) (fun c a w h => hp c a _ _ w h) (by rfl) ?_ hH ?_
  rotate_left 1
  · (intro W h; (try dsimp only at h); go_simp <;> with_reducible rfl)
  try simp only [Act.put, sA, sB, sC]
  refine wpAnyH_ready (rs := [10]) (by kernel_rfl) (by simp) ?_
  refine (AllReadyH.cons (o := m5ao10) rfl (fun K hK => ?_) AllReadyH.nil)
  rw [if_pos (by rfl)]
  go_simp
  have hgs := Off.own hg6 (grown_set w6 p 0 (.slice rgA m rcA)) (fun k hk => by cases hk; exact .inl HMP.out)
  refine hK.out _ _ (HS.out _ hgs) (fun hH => ?_)
  clear hK K
  try simp only [Act.put, sA, sB, sC]
  refine wpAnyH_done (by kernel_rfl) ?_ _
  have hEND := hgs
  clear hH
  exact HQ _ _ _ _ _ _ _ _ _ _ _ _ _ _ _ _ _ _ _ _ _ _ _ _ _ _ _ _ _ _ _ _ _ _ _ _ _ _ _ _ _ _ _ _ _ _ _ _ _ _ _ _ _ _ _ _ _ _ _ _ _ _ _ _ _ _ _ _ _ _ _ _ _ _ _ _ rgA rcA m _ hm (HPUT.out.2.1 rfl) hgs HOR.out
 ·
  rw [if_pos (by rfl)]
  obtain ⟨y0, y1, y2⟩ := HVX.out
  go_simp
  clear y0 y1 y2
  refine hK.out _ _ (HS.out _ hdr) (fun hH => ?_)
  clear hK K
  try simp only [Act.put, sA, sB, sC]
  refine wpAnyH_ready (rs := [4, 6]) (by kernel_rfl) (by simp) ?_
  refine (AllReadyH.cons (o := m5ao4) rfl (fun K hK => ?_) (AllReadyH.cons (o := m5ao6) rfl (fun K hK => ?_) AllReadyH.nil))
  ·
   rw [if_pos (by rfl)]
   have hrow := (HGV.out).core.c0
   rw [HN.out] at hrow
   go_simp
   clear hrow
   refine hK.out _ _ (HS.out _ hdr) (fun hH => ?_)
   clear hK K
   try simp only [Act.put, sA, sB, sC]
   refine wpAnyH_ready (rs := [6]) (by kernel_rfl) (by simp) ?_
   refine (AllReadyH.cons (o := m5ao6) rfl (fun K hK => ?_) AllReadyH.nil)
   rw [if_pos (by rfl)]
   go_simp
   have haA : V.grownBy ((World.alloc V (.cells #[.int .i64 x.1, .int .i64 x.2.1, .int .i64 x.2.2] 99)).drew) none := gT (gAl V _ none) (⟨rfl, rfl, rfl, Nat.le_refl _, fun _ _ _ => rfl⟩ : (World.alloc V (.cells #[.int .i64 x.1, .int .i64 x.2.1, .int .i64 x.2.2] 99)).grownBy ((World.alloc V (.cells #[.int .i64 x.1, .int .i64 x.2.1, .int .i64 x.2.2] 99)).drew) none)
   have hnA : GateAt ((World.alloc V (.cells #[.int .i64 x.1, .int .i64 x.2.1, .int .i64 x.2.2] 99)).drew) V.heap.size 0 x ∧ Ty47 ((World.alloc V (.cells #[.int .i64 x.1, .int .i64 x.2.1, .int .i64 x.2.2] 99)).drew) V.heap.size := ⟨gate_cells V x, ty_alloc V _⟩
   obtain ⟨WA, hWA⟩ : ∃ WA, (World.alloc V (.cells #[.int .i64 x.1, .int .i64 x.2.1, .int .i64 x.2.2] 99)).drew = WA := ⟨_, rfl⟩
   rw [hWA] at haA hnA ⊢
   clear hWA
   have HGA := hid (HGV.out.grown haA)
   have HNA := hid hnA
   clear hnA
   have hgA := Off.own HV0.out haA (fun k e => by cases e)
   refine hK.out _ _ (HS.out _ hgA) (fun hH => ?_)
   clear hK K
   try simp only [Act.put, sA, sB, sC]
   refine wpAnyH_ready (rs := [7]) (by kernel_rfl) (by simp) ?_
   refine (AllReadyH.cons (o := m5ao7) rfl (fun K hK => ?_) AllReadyH.nil)
   refine ready_append_gates (.tmp 64) (.tmp 66) rfl rfl (p + 1) _ n gs rfl (by have := HGA.out.core.row; unfold GRow at this; simp only [if_true] at this; rw [HN.out] at this; exact this) (some ⟨V.heap.size, 0, none⟩) 1 1 [x] rfl rfl (gate_news HNA.out.1 HNA.out.2) (by omega) (show p + 1 ≤ WA.heap.size from lies_lt HGA.out.core.c0) (fun v' w6 hown' hgrow6 hat6 => ?_)
   obtain ⟨m, hm⟩ : ∃ m, n + 1 = m := ⟨_, rfl⟩
   rw [hm] at hown'
   obtain ⟨rgA, rcA, rfl⟩ := own_shape hown'
   have hob := ref_own HGA.out HN.out HOB.out
   have hg6 := Off.own hgA hgrow6 (fun k hk => (hob k hk).1.2)
   have HOR := hid (show ∀ a, rgA = some a → M a.block ∨ w.heap.size ≤ a.block from fun a e => by subst e; rcases hat6 with e1 | e1; exact (hob a.block e1.symm).1.2; have h1 : a.block = WA.heap.size := Option.some.inj e1; have := hgA.size; exact .inr (by omega))
   have HPUT := hid (Pre.put (m := m) (by rw [List.length_append, HN.out]; exact hm) HGA.out hgrow6 (fun e => by have h1 := (hob p e.symm).1.1; omega) (fun b e c => (hob b c.symm).2 b e rfl) hown')
   clear hown' hat6
   have hs1 := HPUT.out.2.2.1
   have hs2 := HPUT.out.2.2.2.1
   refine hK.out _ _ (HS.out _ hg6) (fun hH => ?_)
   clear hK K
   try simp only [Act.put, sA, sB, sC]
   refine tk 8 m5ao8 ?_ rfl (by kernel_rfl) (fun c a w h => hp c a _ _ w h) (by rfl) ?_ hH ?_
   rotate_left 1
   · (intro W h; (try dsimp only at h); go_simp <;> with_reducible rfl)
   try simp only [Act.put, sA, sB, sC]
   refine tk 9 m5ao9 ?_ rfl (by kernel_rfl) (fun c a w h => hp c a _ _ w h) (by rfl) ?_ hH ?_
   rotate_left 1
   · (intro W h; (try dsimp only at h); go_simp <;> with_reducible rfl)
   try simp only [Act.put, sA, sB, sC]
   refine wpAnyH_ready (rs := [10]) (by kernel_rfl) (by simp) ?_
   refine (AllReadyH.cons (o := m5ao10) rfl (fun K hK => ?_) AllReadyH.nil)
   rw [if_pos (by rfl)]
   go_simp
   have hgs := Off.own hg6 (grown_set w6 p 0 (.slice rgA m rcA)) (fun k hk => by cases hk; exact .inl HMP.out)
   refine hK.out _ _ (HS.out _ hgs) (fun hH => ?_)
   clear hK K
   try simp only [Act.put, sA, sB, sC]
   refine wpAnyH_done (by kernel_rfl) ?_ _
   have hEND := hgs
   clear hH
   exact HQ _ _ _ _ _ _ _ _ _ _ _ _ _ _ _ _ _ _ _ _ _ _ _ _ _ _ _ _ _ _ _ _ _ _ _ _ _ _ _ _ _ _ _ _ _ _ _ _ _ _ _ _ _ _ _ _ _ _ _ _ _ _ _ _ _ _ _ _ _ _ _ _ _ _ _ _ rgA rcA m _ hm (HPUT.out.2.1 rfl) hgs HOR.out
  ·
   rw [if_pos (by rfl)]
   go_simp
   have haA : V.grownBy ((World.alloc V (.cells #[.int .i64 x.1, .int .i64 x.2.1, .int .i64 x.2.2] 99)).drew) none := gT (gAl V _ none) (⟨rfl, rfl, rfl, Nat.le_refl _, fun _ _ _ => rfl⟩ : (World.alloc V (.cells #[.int .i64 x.1, .int .i64 x.2.1, .int .i64 x.2.2] 99)).grownBy ((World.alloc V (.cells #[.int .i64 x.1, .int .i64 x.2.1, .int .i64 x.2.2] 99)).drew) none)
   have hnA : GateAt ((World.alloc V (.cells #[.int .i64 x.1, .int .i64 x.2.1, .int .i64 x.2.2] 99)).drew) V.heap.size 0 x ∧ Ty47 ((World.alloc V (.cells #[.int .i64 x.1, .int .i64 x.2.1, .int .i64 x.2.2] 99)).drew) V.heap.size := ⟨gate_cells V x, ty_alloc V _⟩
   obtain ⟨WA, hWA⟩ : ∃ WA, (World.alloc V (.cells #[.int .i64 x.1, .int .i64 x.2.1, .int .i64 x.2.2] 99)).drew = WA := ⟨_, rfl⟩
   rw [hWA] at haA hnA ⊢
   clear hWA
   have HGA := hid (HGV.out.grown haA)
   have HNA := hid hnA
   clear hnA
   have hgA := Off.own HV0.out haA (fun k e => by cases e)
   refine hK.out _ _ (HS.out _ hgA) (fun hH => ?_)
   clear hK K
   try simp only [Act.put, sA, sB, sC]
   refine wpAnyH_ready (rs := [4]) (by kernel_rfl) (by simp) ?_
   refine (AllReadyH.cons (o := m5ao4) rfl (fun K hK => ?_) AllReadyH.nil)
   rw [if_pos (by rfl)]
   have hrow := (HGA.out).core.c0
   rw [HN.out] at hrow
   go_simp
   clear hrow
   refine hK.out _ _ (HS.out _ hgA) (fun hH => ?_)
   clear hK K
   try simp only [Act.put, sA, sB, sC]
   refine wpAnyH_ready (rs := [7]) (by kernel_rfl) (by simp) ?_
   refine (AllReadyH.cons (o := m5ao7) rfl (fun K hK => ?_) AllReadyH.nil)
   refine ready_append_gates (.tmp 64) (.tmp 66) rfl rfl (p + 1) _ n gs rfl (by have := HGA.out.core.row; unfold GRow at this; simp only [if_true] at this; rw [HN.out] at this; exact this) (some ⟨V.heap.size, 0, none⟩) 1 1 [x] rfl rfl (gate_news HNA.out.1 HNA.out.2) (by omega) (show p + 1 ≤ WA.heap.size from lies_lt HGA.out.core.c0) (fun v' w6 hown' hgrow6 hat6 => ?_)
   obtain ⟨m, hm⟩ : ∃ m, n + 1 = m := ⟨_, rfl⟩
   rw [hm] at hown'
   obtain ⟨rgA, rcA, rfl⟩ := own_shape hown'
   have hob := ref_own HGA.out HN.out HOB.out
   have hg6 := Off.own hgA hgrow6 (fun k hk => (hob k hk).1.2)
   have HOR := hid (show ∀ a, rgA = some a → M a.block ∨ w.heap.size ≤ a.block from fun a e => by subst e; rcases hat6 with e1 | e1; exact (hob a.block e1.symm).1.2; have h1 : a.block = WA.heap.size := Option.some.inj e1; have := hgA.size; exact .inr (by omega))
   have HPUT := hid (Pre.put (m := m) (by rw [List.length_append, HN.out]; exact hm) HGA.out hgrow6 (fun e => by have h1 := (hob p e.symm).1.1; omega) (fun b e c => (hob b c.symm).2 b e rfl) hown')
   clear hown' hat6
   have hs1 := HPUT.out.2.2.1
   have hs2 := HPUT.out.2.2.2.1
   refine hK.out _ _ (HS.out _ hg6) (fun hH => ?_)
   clear hK K
   try simp only [Act.put, sA, sB, sC]
   refine tk 8 m5ao8 ?_ rfl (by kernel_rfl) (fun c a w h => hp c a _ _ w h) (by rfl) ?_ hH ?_
   rotate_left 1
   · (intro W h; (try dsimp only at h); go_simp <;> with_reducible rfl)
   try simp only [Act.put, sA, sB, sC]
   refine tk 9 m5ao9 ?_ rfl (by kernel_rfl) (fun c a w h => hp c a _ _ w h) (by rfl) ?_ hH ?_
   rotate_left 1
   · (intro W h; (try dsimp only at h); go_simp <;> with_reducible rfl)
   try simp only [Act.put, sA, sB, sC]
   refine wpAnyH_ready (rs := [10]) (by kernel_rfl) (by simp) ?_
   refine (AllReadyH.cons (o := m5ao10) rfl (fun K hK => ?_) AllReadyH.nil)
   rw [if_pos (by rfl)]
   go_simp
   have hgs := Off.own hg6 (grown_set w6 p 0 (.slice rgA m rcA)) (fun k hk => by cases hk; exact .inl HMP.out)
   refine hK.out _ _ (HS.out _ hgs) (fun hH => ?_)
   clear hK K
   try simp only [Act.put, sA, sB, sC]
   refine wpAnyH_done (by kernel_rfl) ?_ _
   have hEND := hgs
   clear hH
   exact HQ _ _ _ _ _ _ _ _ _ _ _ _ _ _ _ _ _ _ _ _ _ _ _ _ _ _ _ _ _ _ _ _ _ _ _ _ _ _ _ _ _ _ _ _ _ _ _ _ _ _ _ _ _ _ _ _ _ _ _ _ _ _ _ _ _ _ _ _ _ _ _ _ _ _ _ _ rgA rcA m _ hm (HPUT.out.2.1 rfl) hgs HOR.out
end Go.Proofs.Ythdhmflodiincaa

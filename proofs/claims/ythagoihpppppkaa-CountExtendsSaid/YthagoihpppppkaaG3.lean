/- Growing circuits in memory; the search for a gate. -/
import Derived.Test.YthagoihpppppkaaG2
namespace Go.Proofs.Ythagoihpppppkaa
open Go.RowKit

theorem nilmap_eq (w : World) : (binOp .eql 78 (.map none) (.map none)).run Try.prog w = .ok (.bool true) w := by kernel_rfl
theorem nilmap_ne (w : World) : (binOp .neq 78 (.map none) (.map none)).run Try.prog w = .ok (.bool false) w := by kernel_rfl
def locI (x : Gt) (gs : List Gt) : Int := match locG x gs with | some i => (i : Int) | none => -1
theorem grown_any {w w' : World} (h : w.grownBy w' none) (r : Option Nat) : w.grownBy w' r := ⟨h.os, h.tape, h.output, h.size, fun k hk _ => h.block k hk (by simp)⟩
def GRow (B p : Nat) (w : World) (owned : Bool) (va : Option Addr) (vc : Nat) (gs : List Gt) : Prop :=
  if owned = true then w.ownsRow B 69 3 (.slice va gs.length vc) gs.length (gateCells gs) else Span 0 p w (fun W => GatesW W va vc gs)
/-- A growing circuit in a box. -/
structure Grow (B p : Nat) (w : World) (owned : Bool) (va : Option Addr) (vc : Nat) (gs : List Gt) (vis : Int) : Prop where
  c0 : w.cell? ⟨p, 0, none⟩ = some (.slice va gs.length vc)
  c1 : w.cell? ⟨p, 1, none⟩ = some (.bool owned)
  c2 : w.cell? ⟨p, 2, none⟩ = some (.map none)
  c3 : w.cell? ⟨p, 3, none⟩ = some (.int .i64 vis)
  fr : ∀ o, w.frozen? ⟨p, o, none⟩ = false
  low : p < B ∧ B ≤ w.heap.size
  row : GRow B p w owned va vc gs
theorem GRow.gates {B p : Nat} {w : World} {owned : Bool} {va : Option Addr} {vc : Nat} {gs : List Gt} (h : GRow B p w owned va vc gs) : GatesW w va vc gs := by
  unfold GRow at h
  cases owned with
  | true =>
    obtain ⟨a, c, e, hs⟩ := gates_span (show w.ownsRow B 69 3 (.slice va gs.length vc) gs.length (gateCells gs) from by simpa using h)
    cases e
    exact hs.here
  | false => exact (show Span 0 p w (fun W => GatesW W va vc gs) from by simpa using h).here
theorem GRow.off {B p : Nat} {w w' : World} {owned : Bool} {va : Option Addr} {vc : Nat} {gs : List Gt} {r : Option Nat} (h : GRow B p w owned va vc gs) (hg : w.grownBy w' r) (hr : ∀ x, r = some x → x = p) (hp : p < B) : GRow B p w' owned va vc gs := by
  unfold GRow at h ⊢
  cases owned with
  | true =>
    simp only [if_true] at h ⊢
    refine h.kept hg ?_
    cases hv : (Value.slice va gs.length vc).ownBlock with
    | none => exact .inl rfl
    | some k =>
      have h1 := (h.lt k hv).1
      exact .inr (fun e => by have := hr k e.symm; omega)
  | false =>
    simp only [Bool.false_eq_true, if_false] at h ⊢
    exact h.off hg fun x e => .inr (by have := hr x e; omega)
theorem Grow.grown {B p : Nat} {w w' : World} {owned : Bool} {va : Option Addr} {vc : Nat} {gs : List Gt} {vis : Int} (h : Grow B p w owned va vc gs vis) (hg : w.grownBy w' none) : Grow B p w' owned va vc gs vis :=
  ⟨hg.cell h.c0 (by simp), hg.cell h.c1 (by simp), hg.cell h.c2 (by simp), hg.cell h.c3 (by simp), fun o => (grown_frozen hg (lies_lt h.c0) o).trans (h.fr o), ⟨h.low.1, Nat.le_trans h.low.2 hg.size⟩, h.row.off hg (fun x e => by cases e) h.low.1⟩
theorem ne_at {p i j : Nat} (h : i ≠ j) : (⟨p, i, none⟩ : Addr) ≠ ⟨p, j, none⟩ := fun e => by injection e with _ e; exact h e
theorem Grow.setVis {B p : Nat} {w : World} {owned : Bool} {va : Option Addr} {vc : Nat} {gs : List Gt} {vis : Int} (h : Grow B p w owned va vc gs vis) (v : Int) : Grow B p (w.setCell ⟨p, 3, none⟩ (.int .i64 v)) owned va vc gs v := by
  refine ⟨?_, ?_, ?_, World.cell?_setCell_same _ _ _ h.c3, fun o => by rw [World.frozen?_setCell]; exact h.fr o, ⟨h.low.1, Nat.le_trans h.low.2 (grown_set _ _ _ _).size⟩, h.row.off (grown_set _ _ _ _) (fun x e => by cases e; rfl) h.low.1⟩
  · rw [World.cell?_setCell_other _ _ _ _ (ne_at (by decide))]; exact h.c0
  · rw [World.cell?_setCell_other _ _ _ _ (ne_at (by decide))]; exact h.c1
  · rw [World.cell?_setCell_other _ _ _ _ (ne_at (by decide))]; exact h.c2
theorem gate_cells (w : World) (g : Gt) : GateAt (w.alloc (.cells #[.int .i64 g.1, .int .i64 g.2.1, .int .i64 g.2.2] 69)) w.heap.size 0 g := ⟨by go_simp, by go_simp, by go_simp⟩
theorem locI_some {gs : List Gt} {x : Gt} (hone : ∀ (i j : Nat) (g : Gt), gs[i]? = some g → gs[j]? = some g → i = j) {i : Nat} (hi : gs[i]? = some x) : locI x gs = (i : Int) := by
  unfold locI
  cases hl : locG x gs with
  | none => exact absurd (List.mem_of_getElem? hi) (locG_none hl)
  | some j => rw [hone j i x (locG_some hl) hi]
theorem locI_none {gs : List Gt} {x : Gt} (h : ∀ i : Nat, gs[i]? ≠ some x) : locI x gs = -1 := by
  unfold locI
  cases hl : locG x gs with
  | none => rfl
  | some j => exact absurd (locG_some hl) (h j)

set_option maxRecDepth 100000 in
set_option maxHeartbeats 4000000 in
theorem find_calls (gs : List Gt) (x : Gt) (fm : Nat) (B p : Nat) (owned : Bool) (va : Option Addr) (vc : Nat) (vis : Int) (w : World) (h : Grow B p w owned va vc gs vis) (hl : gs.length ≤ 1000) (hv : 0 ≤ vis ∧ vis ≤ 8 * (gs.length : Int))
    (hone : ∀ (i j : Nat) (g : Gt), gs[i]? = some g → gs[j]? = some g → i = j) (hfrom : ∀ i : Nat, gs[i]? = some x → fm ≤ i) :
    Calls Try.prog 64 #[.pointer (some ⟨p, 0, none⟩), gv x, .int .i64 (fm : Int)] w fun e w' => ∃ vis', e = .returned (.int .i64 (locI x gs)) ∧ Grow B p w' owned va vc gs vis' ∧ (vis ≤ vis' ∧ vis' ≤ vis + (gs.length : Int)) ∧ w.grownBy w' (some p) := by
  have hg := World.grownBy_alloc w (.cells #[.int .i64 x.1, .int .i64 x.2.1, .int .i64 x.2.2] 69) none
  have hx := gate_cells w x
  obtain ⟨W, hW⟩ : ∃ W, w.alloc (.cells #[.int .i64 x.1, .int .i64 x.2.1, .int .i64 x.2.2] 69) = W := ⟨_, rfl⟩
  rw [hW] at hg hx
  have HX := Lib.hid hx
  have HG := Lib.hid hg
  have HW := Lib.hid (h.grown hg)
  have HONE := Lib.hid (And.intro hone hfrom)
  have HPS := Lib.hid (show p < w.heap.size from lies_lt h.c0)
  have k0 := HW.out.c0; have k2 := HW.out.c2; have k3 := HW.out.c3
  obtain ⟨n, hn⟩ : ∃ n, gs.length = n := ⟨_, rfl⟩
  rw [hn] at hl hv k0
  have HN := Lib.hid hn
  have hw8 : IntKind.i64.wrap (8 * (n : Int)) = 8 * (n : Int) := IntWalk.i64_in _ (by omega)
  have hcmp : decide (8 * (n : Int) < vis) = false := decide_eq_false (by omega)
  have hw1 : IntKind.i64.wrap ((n : Int) - 1) = (n : Int) - 1 := IntWalk.i64_in _ (by omega)
  rw [hn]
  clear h hone hfrom hg hx hn
  have hE := nilmap_eq
  have hNe := nilmap_ne
  go_enter Try.func64, Try.ntmps64
  go_wp2_with fail
  go_quiet (fail)
  go_wp2_with fail
  have HW0 := Lib.hid (HW.out.grown (grown_drewN W nq none))
  have HG0 := Lib.hid (HG.out.trans (grown_drewN W nq none))
  have HGX := Lib.hid (grown_drewN W nq none)
  clear hW k0 k2 k3 hw8 hcmp hE hNe
  obtain ⟨W0, hW0⟩ : ∃ z, W.drewN nq = z := ⟨_, rfl⟩
  rw [hW0] at HW0 HG0 HGX ⊢
  clear hW0
  go_loopg [11] n (fun g s11 wr => ∃ (k : Nat) (vis' : Int), s11 = .int .i64 ((k : Int) - 1) ∧ g = k ∧ k ≤ n ∧ (∀ j : Nat, k ≤ j → gs[j]? ≠ some x) ∧ vis' = vis + ((n - k : Nat) : Int) ∧ Grow B p wr owned va vc gs vis' ∧ W0.grownBy wr (some p))
  case atStart => exact ⟨n, vis, rfl, rfl, Nat.le_refl _, fun j hj e => by have := (List.getElem?_eq_some_iff.1 e).1; rw [HN.out] at this; omega, by omega, HW0.out, grown_refl _ _⟩
  case round =>
    obtain ⟨k, vis', rfl, hgk, hk, hno, hvis, hgw, hgr⟩ := hrel
    have HI := Lib.hid (And.intro hgk (And.intro hno hvis))
    have hvb : 0 ≤ vis' ∧ vis' ≤ 9000 := by omega
    clear hgk hno hvis
    have HGW := Lib.hid hgw; clear hgw
    have HGR := Lib.hid hgr; clear hgr
    have hxx := HX.out
    have x0 := HGR.out.cell (HGX.out.cell hxx.1 (by simp)) (show some w.heap.size ≠ some p from fun e => by injection e with e; have := HPS.out; omega)
    have x1 := HGR.out.cell (HGX.out.cell hxx.2.1 (by simp)) (show some w.heap.size ≠ some p from fun e => by injection e with e; have := HPS.out; omega)
    have x2 := HGR.out.cell (HGX.out.cell hxx.2.2 (by simp)) (show some w.heap.size ≠ some p from fun e => by injection e with e; have := HPS.out; omega)
    clear hxx
    have HLOC : Hid (∀ b, (∀ i : Nat, fm ≤ i → gs[i]? ≠ some x) → b = -1 → locI x gs = b) := Lib.hid (fun b h e => by rw [e]; exact locI_none fun i hi => h i (HONE.out.2 i hi) hi)
    cases k with
    | zero =>
      have hc : decide ((fm : Int) ≤ ((0 : Nat) : Int) - 1) = false := decide_eq_false (by omega)
      have hc2 : decide ((fm : Int) ≤ -1) = false := decide_eq_false (by omega)
      have HR := Lib.hid (HLOC.out (-1) (fun i _ => HI.out.2.1 i (by omega)) rfl)
      go_wp2_with fail
      go_ret
      exact ⟨vis', by rw [HR.out]; rfl, HGW.out, by have := HI.out.2.2; omega, (World.grownBy.trans (grown_any HG0.out (some p)) HGR.out)⟩
    | succ j =>
      rw [show ((j + 1 : Nat) : Int) - 1 = (j : Int) by omega]
      by_cases hfj : fm ≤ j
      · have hc : decide ((fm : Int) ≤ (j : Int)) = true := decide_eq_true (by omega)
        have hc2 : decide (fm ≤ j) = true := decide_eq_true hfj
        have hwj : IntKind.i64.wrap ((j : Int) - 1) = (j : Int) - 1 := IntWalk.i64_in _ (by omega)
        have hwv : IntKind.i64.wrap (vis' + 1) = vis' + 1 := IntWalk.i64_in _ (by omega)
        obtain ⟨g, hg⟩ : ∃ g, gs[j]? = some g := ⟨_, List.getElem?_eq_getElem (by rw [HN.out]; omega)⟩
        obtain ⟨b, o, rfl, hga⟩ := HGW.out.row.gates.at hg
        have HSV := Lib.hid (HGW.out.setVis (vis' + 1))
        have HGS := Lib.hid (World.grownBy.trans HGR.out (grown_set wr p 3 (.int .i64 (vis' + 1))))
        have k0 := HGW.out.c0; have k3 := HGW.out.c3; have kf := HGW.out.fr 3
        rw [HN.out] at k0
        have hjn : (j : Int) < (n : Int) := by omega
        have hj0 : (0 : Int) ≤ (j : Int) := by omega
        go_wp2_with fail
        clear k0 k3 kf hga x0 x1 x2
        obtain ⟨wS, hwS⟩ : ∃ z, wr.setCell ⟨p, 3, none⟩ (.int .i64 (vis' + 1)) = z := ⟨_, rfl⟩
        rw [hwS] at HSV HGS ⊢
        clear hwS
        obtain ⟨b2, o2, e2, hga⟩ := HSV.out.row.gates.at hg
        cases e2
        have k0 := HSV.out.c0
        rw [HN.out] at k0
        obtain ⟨g0, g1, g2⟩ := hga
        have hxx := HX.out
        have x0 := HGS.out.cell (HGX.out.cell hxx.1 (by simp)) (show some w.heap.size ≠ some p from fun e => by injection e with e; have := HPS.out; omega)
        have x1 := HGS.out.cell (HGX.out.cell hxx.2.1 (by simp)) (show some w.heap.size ≠ some p from fun e => by injection e with e; have := HPS.out; omega)
        have x2 := HGS.out.cell (HGX.out.cell hxx.2.2 (by simp)) (show some w.heap.size ≠ some p from fun e => by injection e with e; have := HPS.out; omega)
        clear hxx
        have HGG := Lib.hid hg; clear hg
        have HST : Hid (vis' + 1 = vis + ((n - j : Nat) : Int)) := Lib.hid (by have := HI.out.2.2; omega)
        by_cases hgx : g = x
        · have he : ∀ U : World, (Op.equalIn 10000 69 (.agg #[.int .i64 g.1, .int .i64 g.2.1, .int .i64 g.2.2]) (.agg #[.int .i64 x.1, .int .i64 x.2.1, .int .i64 x.2.2])).run Try.prog U = .ok true U := fun U => by rw [eq47 g x U, decide_eq_true hgx]
          have HR := Lib.hid (show locI x gs = (j : Int) from locI_some HONE.out.1 (by rw [← hgx]; exact HGG.out))
          have HQ := Lib.hid hgx; clear hgx
          go_quiet (fail)
          go_wp2_with fail
          go_ret
          exact ⟨vis' + 1, by rw [HR.out]; rfl, HSV.out.grown (grown_drewN wS nq none), by have := HST.out; omega, World.grownBy.trans (grown_any HG0.out (some p)) (World.grownBy.trans HGS.out (grown_drewN wS nq (some p)))⟩
        · have he : ∀ U : World, (Op.equalIn 10000 69 (.agg #[.int .i64 g.1, .int .i64 g.2.1, .int .i64 g.2.2]) (.agg #[.int .i64 x.1, .int .i64 x.2.1, .int .i64 x.2.2])).run Try.prog U = .ok false U := fun U => by rw [eq47 g x U, decide_eq_false hgx]
          have HNX := Lib.hid (show ∀ i : Nat, j ≤ i → gs[i]? ≠ some x from fun i hi e => by
            by_cases hij : i = j
            · subst hij; rw [HGG.out] at e; injection e with e; exact hgx e
            · exact HI.out.2.1 i (by omega) e)
          have HQ := Lib.hid hgx; clear hgx
          go_quiet (fail)
          go_wp2_with fail
          go_roundg j
          case measure => rw [HI.out.1]; omega
          case rel => exact ⟨j, vis' + 1, rfl, rfl, by omega, HNX.out, HST.out, HSV.out.grown (grown_drewN wS nq none), World.grownBy.trans HGS.out (grown_drewN wS nq (some p))⟩
      · have hc : decide ((fm : Int) ≤ (j : Int)) = false := decide_eq_false (by omega)
        have hc2 : decide (fm ≤ j) = false := decide_eq_false hfj
        have HR := Lib.hid (HLOC.out (-1) (fun i hi => HI.out.2.1 i (by omega)) rfl)
        go_wp2_with fail
        go_ret
        exact ⟨vis', by rw [HR.out]; rfl, HGW.out, by have := HI.out.2.2; omega, (World.grownBy.trans (grown_any HG0.out (some p)) HGR.out)⟩
end Go.Proofs.Ythagoihpppppkaa

/- A reference to a gate, which is appended unless it is there. -/
import Derived.Test.YtllljcbdinckgaaG4
import Derived.Deep.DeepCutAuto
namespace Go.Proofs.Ytllljcbdinckgaa
open Go.RowKit

/-- make of a row of gates where the order of a region is drawn. -/
theorem ready_make_gates {ops : Array Oper} {o : Oper} {a : Act} {Q : Exit → Act → World → Prop} {K' : Act → World → Prop} {w : World} (x y : Operand) (hgd : o.guard = none)
    (ho : o.op = .makeSlice 23 x y) (base c : Nat) (hx : a.eval x = .int .i64 0) (hy : a.eval y = .int .i64 (c : Int)) (hc : c ≤ 100000) (hbase : base ≤ w.heap.size)
    (h : ∀ w', w'.ownsRow base 47 3 (.slice (some ⟨w.heap.size, 0, none⟩) 0 c) 0 (gateCells []) → w.grownBy w' none → K' (a.put o.dst (.slice (some ⟨w.heap.size, 0, none⟩) 0 c)) w') :
    if Region.wanted o (yielded ops a.tmps) = true then Oper.wp Try.prog o a w K' Q else K' (a.put o.dst undef) w := by
  have hw : Region.wanted o (yielded ops a.tmps) = true := by simp only [Region.wanted, hgd]
  rw [if_pos hw]
  obtain ⟨i0, hi0, hz0, hz1, hz2⟩ := info_parts infoG
  obtain ⟨w', hr, h2, h3⟩ := run_make_own (P := Try.prog) w base 23 47 i0 _ 3 Try.underlying23 hi0 hz0 hz1 .i64 .i64 c (by rw [hz2]; omega) (by unfold maxLen; omega) hbase
  unfold Oper.wp execOp
  simp only [ho, hx, hy, hr, Result.andThen_ok, Sem.run_bind, Sem.run_pure]
  exact h w' h2 h3
theorem addG_some {gs : List Gt} {x : Gt} {i : Nat} (h : locG x gs = some i) : addG gs x = (gs, 2 * (i : Int)) := by unfold addG; rw [h]
theorem addG_none {gs : List Gt} {x : Gt} (h : locG x gs = none) (hl : gs.length < 20000) : addG gs x = (gs ++ [x], 2 * (gs.length : Int)) := by unfold addG; rw [h]; simp only; rw [if_neg (by omega)]
theorem locI_nat {gs : List Gt} {x : Gt} {i : Nat} (h : locG x gs = some i) : locI x gs = (i : Int) := by unfold locI; rw [h]
theorem locI_neg {gs : List Gt} {x : Gt} (h : locG x gs = none) : locI x gs = -1 := by unfold locI; rw [h]
theorem gate_news {w : World} {b : Nat} {x : Gt} (h : GateAt w b 0 x) (ht : Ty47 w b) : GatesW w (some ⟨b, 0, none⟩) 1 [x] := ⟨Nat.le_refl _, .inr ⟨b, 0, rfl, ht, fun j g hj => by
  cases j with
  | zero => simp at hj; subst hj; exact h
  | succ j => simp at hj⟩⟩

theorem GateAt.moved {w w' : World} {b o : Nat} {g : Gt} {r : Option Nat} (h : GateAt w b o g) (hg : w.grownBy w' r) (hr : some b ≠ r) : GateAt w' b o g := ⟨hg.cell h.1 hr, hg.cell h.2.1 hr, hg.cell h.2.2 hr⟩
/-- The row of a growing circuit is replaced: what stands then. -/
theorem Grow.put {p : Nat} {w w6 : World} {va a : Option Addr} {vc c : Nat} {gs hs : List Gt} {vis : Int} {owned : Bool} {r : Option Nat} {m : Nat} (hm : hs.length = m) (h : Grow (p + 1) p w owned va vc gs vis) (hg : w.grownBy w6 r) (hr : some p ≠ r)
    (hown : w6.ownsRow (p + 1) 47 3 (.slice a m c) m (gateCells hs)) :
    Grow (p + 1) p ((w6.setCell ⟨p, 0, none⟩ (.slice a m c)).setCell ⟨p, 1, none⟩ (.bool true)) true a c hs vis ∧ (owned = true → Grow (p + 1) p (w6.setCell ⟨p, 0, none⟩ (.slice a m c)) true a c hs vis) ∧
    w6.cell? ⟨p, 0, none⟩ = some (.slice va gs.length vc) ∧ w6.frozen? ⟨p, 0, none⟩ = false ∧ (w6.setCell ⟨p, 0, none⟩ (.slice a m c)).cell? ⟨p, 1, none⟩ = some (.bool owned) ∧ (w6.setCell ⟨p, 0, none⟩ (.slice a m c)).frozen? ⟨p, 1, none⟩ = false := by
  subst hm
  have e0 := hg.cell h.c0 hr
  have e1 := hg.cell h.c1 hr
  have e2 := hg.cell h.c2 hr
  have e3 := hg.cell h.c3 hr
  have hf : ∀ o, w6.frozen? ⟨p, o, none⟩ = false := fun o => (World.frozen?_of_block (a := ⟨p, o, none⟩) (hg.block p (lies_lt h.c0) hr)).trans (h.fr o)
  have hlow := h.low
  have hs6 := hg.size
  have own7 : (w6.setCell ⟨p, 0, none⟩ (.slice a hs.length c)).ownsRow (p + 1) 47 3 (.slice a hs.length c) hs.length (gateCells hs) := hown.kept (grown_set _ _ _ _) (own_ne hown (by omega))
  have own8 : ((w6.setCell ⟨p, 0, none⟩ (.slice a hs.length c)).setCell ⟨p, 1, none⟩ (.bool true)).ownsRow (p + 1) 47 3 (.slice a hs.length c) hs.length (gateCells hs) := own7.kept (grown_set _ _ _ _) (own_ne own7 (by omega))
  have a0 : (w6.setCell ⟨p, 0, none⟩ (.slice a hs.length c)).cell? ⟨p, 0, none⟩ = some (.slice a hs.length c) := World.cell?_setCell_same _ _ _ e0
  have a1 : (w6.setCell ⟨p, 0, none⟩ (.slice a hs.length c)).cell? ⟨p, 1, none⟩ = some (.bool owned) := by rw [World.cell?_setCell_other _ _ _ _ (ne_at (by decide))]; exact e1
  have a2 : (w6.setCell ⟨p, 0, none⟩ (.slice a hs.length c)).cell? ⟨p, 2, none⟩ = some (.map none) := by rw [World.cell?_setCell_other _ _ _ _ (ne_at (by decide))]; exact e2
  have a3 : (w6.setCell ⟨p, 0, none⟩ (.slice a hs.length c)).cell? ⟨p, 3, none⟩ = some (.int .i64 vis) := by rw [World.cell?_setCell_other _ _ _ _ (ne_at (by decide))]; exact e3
  have z7 := (grown_set w6 p 0 (.slice a hs.length c)).size
  have z8 := (grown_set (w6.setCell ⟨p, 0, none⟩ (.slice a hs.length c)) p 1 (.bool true)).size
  refine ⟨⟨?_, World.cell?_setCell_same _ _ _ a1, ?_, ?_, fun o => by rw [World.frozen?_setCell, World.frozen?_setCell]; exact hf o, ⟨by omega, by omega⟩, by unfold GRow; simp only [if_true]; exact own8⟩,
    fun ho => ⟨a0, by rw [a1, ho], a2, a3, fun o => by rw [World.frozen?_setCell]; exact hf o, ⟨by omega, by omega⟩, by unfold GRow; simp only [if_true]; exact own7⟩, e0, hf 0, a1, by rw [World.frozen?_setCell]; exact hf 1⟩
  · rw [World.cell?_setCell_other _ _ _ _ (ne_at (by decide))]; exact a0
  · rw [World.cell?_setCell_other _ _ _ _ (ne_at (by decide))]; exact a2
  · rw [World.cell?_setCell_other _ _ _ _ (ne_at (by decide))]; exact a3

set_option maxRecDepth 100000 in
set_option maxHeartbeats 4000000 in
theorem reference_calls (gs : List Gt) (x : Gt) (fm p : Nat) (owned : Bool) (va : Option Addr) (vc : Nat) (vis : Int) (w w0 : World) (h : Grow (p + 1) p w owned va vc gs vis) (hl : gs.length ≤ 990) (hv : 0 ≤ vis ∧ vis ≤ 8 * (gs.length : Int))
    (hone : ∀ (i j : Nat) (g : Gt), gs[i]? = some g → gs[j]? = some g → i = j) (hfrom : ∀ i : Nat, gs[i]? = some x → fm ≤ i) (g0 : w0.grownBy w none) (hp : w0.heap.size ≤ p) :
    Calls Try.prog 44 #[.pointer (some ⟨p, 0, none⟩), gv x, .int .i64 (fm : Int)] w fun e w' => ∃ owned' va' vc' vis', e = .returned (.int .i64 (addG gs x).2) ∧ Grow (p + 1) p w' owned' va' vc' (addG gs x).1 vis' ∧ (vis ≤ vis' ∧ vis' ≤ vis + (gs.length : Int)) ∧ w0.grownBy w' none := by
  have hg := World.grownBy_alloc w (.cells #[.int .i64 x.1, .int .i64 x.2.1, .int .i64 x.2.2] 47) none
  have hx := gate_cells w x
  obtain ⟨W, hW⟩ : ∃ W, w.alloc (.cells #[.int .i64 x.1, .int .i64 x.2.1, .int .i64 x.2.2] 47) = W := ⟨_, rfl⟩
  rw [hW] at hg hx
  have HX := Lib.hid (And.intro hx (lies_lt h.c0))
  have HG := Lib.hid (World.grownBy.trans g0 hg)
  have HW := Lib.hid (h.grown hg)
  have HONE := Lib.hid (And.intro hone hfrom)
  have HL := Lib.hid (And.intro hl (And.intro hv hp))
  obtain ⟨q0, q1, q2⟩ := hx
  clear h hone hfrom hg g0 hl hv hp
  go_enter Try.func44, Try.ntmps44
  go_wp2_with fail
  refine (find_calls gs x fm (p + 1) p owned va vc vis _ HW.out (by have := HL.out.1; omega) HL.out.2.1 HONE.out.1 HONE.out.2).mono ?_
  rintro e w2 ⟨vis', rfl, hgr, hvis, hg2⟩
  have HG2 := Lib.hid (grown_own HG.out hg2 (fun k hk => by cases hk; exact HL.out.2.2))
  have HX2 := Lib.hid (show GateAt w2 w.heap.size 0 x from HX.out.1.moved hg2 (fun e => by injection e with e; have := HX.out.2; omega))
  have HGR := Lib.hid hgr
  have HVI := Lib.hid hvis
  clear hgr hvis hg2 q0 q1 q2
  cases hloc : locG x gs with
  | some i =>
    have hi := (List.getElem?_eq_some_iff.1 (locG_some hloc)).1
    have hL := HL.out.1
    have HA := Lib.hid (addG_some hloc)
    rw [locI_nat hloc]
    have HQ := Lib.hid hloc; clear hloc
    have f1 : decide ((0 : Int) ≤ (i : Int)) = true := decide_eq_true (by omega)
    have f2 : IntKind.i64.wrap (2 * (i : Int)) = 2 * (i : Int) := IntWalk.i64_in _ (by omega)
    clear hL hi
    go_wp2_with fail
    go_ret
    exact ⟨owned, va, vc, vis', by rw [HA.out]; rfl, by rw [HA.out]; exact HGR.out, HVI.out, HG2.out⟩
  | none =>
    have HA := Lib.hid (addG_none hloc (by have := HL.out.1; omega))
    rw [locI_neg hloc]
    have HQ := Lib.hid hloc; clear hloc
    obtain ⟨n, hn⟩ : ∃ n, gs.length = n := ⟨_, rfl⟩
    have hL : n ≤ 990 := by rw [← hn]; exact HL.out.1
    have k0 := HGR.out.c0; have k1 := HGR.out.c1
    rw [hn] at k0
    have HN := Lib.hid hn; clear hn
    have f1 : decide ((20000 : Int) ≤ (n : Int)) = false := decide_eq_false (by omega)
    have f1b : decide (20000 ≤ n) = false := decide_eq_false (by omega)
    have fw16 : IntKind.i64.wrap ((n : Int) + 16) = ((n + 16 : Nat) : Int) := by rw [IntWalk.i64_in _ (by omega)]; omega
    cases owned with
    | false =>
      go_wp2_with fail
      clear k0 k1 f1 f1b
      have HS : Hid (∀ Wh : World, w0.grownBy Wh none → w0.grownBy Wh none) := Lib.hid (fun _ h => h)
      have hdr : w0.grownBy w2.drew none := World.grownBy.trans HG2.out (⟨rfl, rfl, rfl, Nat.le_refl _, fun _ _ _ => rfl⟩ : w2.grownBy w2.drew none)
      refine wp_region_held_drew (S := (fun Wh : World => w0.grownBy Wh none)) (by kernel_rfl) (HS.out _ hdr) (fun hHeld => ?_)
      refine wpAnyH_take (i := 0) (oi := { dst := some 27, op := Op.move (Operand.tmp 0), type := 53, pos := "gates.go:87", after := #[], guard := none }) (v := ?_) rfl (by kernel_rfl) (by kernel_rfl) (by kernel_rfl) (fun _ _ _ h => h) (Or.inl ⟨by rfl, ?_⟩) (by assumption) ?_
      rotate_left 1
      · (intro W hSW; (try dsimp only at hSW); first | (go_simp; done) | (go_simp; with_reducible rfl))
      try simp only [Act.put, List.setIfInBounds_toArray, List.set_cons_zero, List.set_cons_succ]
      refine wpAnyH_take (i := 1) (oi := { dst := some 28, op := Op.move (Operand.tmp 0), type := 53, pos := "gates.go:87", after := #[], guard := none }) (v := ?_) rfl (by kernel_rfl) (by kernel_rfl) (by kernel_rfl) (fun _ _ _ h => h) (Or.inl ⟨by rfl, ?_⟩) (by assumption) ?_
      rotate_left 1
      · (intro W hSW; (try dsimp only at hSW); first | (go_simp; done) | (go_simp; with_reducible rfl))
      try simp only [Act.put, List.setIfInBounds_toArray, List.set_cons_zero, List.set_cons_succ]
      refine wpAnyH_take (i := 2) (oi := { dst := some 29, op := Op.nilCheck (Operand.tmp 28), type := 0, pos := "gates.go:87", after := #[{ on := 1, ground := Ground.data }], guard := none }) (v := ?_) rfl (by kernel_rfl) (by kernel_rfl) (by kernel_rfl) (fun _ _ _ h => h) (Or.inl ⟨by rfl, ?_⟩) (by assumption) ?_
      rotate_left 1
      · (intro W hSW; (try dsimp only at hSW); first | (go_simp; done) | (go_simp; with_reducible rfl))
      try simp only [Act.put, List.setIfInBounds_toArray, List.set_cons_zero, List.set_cons_succ]
      refine wpAnyH_take (i := 3) (oi := { dst := some 30, op := Op.fieldAddr 63 (Operand.tmp 29) 0, type := 0, pos := "gates.go:87", after := #[{ on := 2, ground := Ground.data }], guard := none }) (v := ?_) rfl (by kernel_rfl) (by kernel_rfl) (by kernel_rfl) (fun _ _ _ h => h) (Or.inl ⟨by rfl, ?_⟩) (by assumption) ?_
      rotate_left 1
      · (intro W hSW; (try dsimp only at hSW); first | (go_simp; done) | (go_simp; with_reducible rfl))
      try simp only [Act.put, List.setIfInBounds_toArray, List.set_cons_zero, List.set_cons_succ]
      refine wpAnyH_take (i := 8) (oi := { dst := some 35, op := Op.move (Operand.tmp 0), type := 53, pos := "gates.go:87", after := #[], guard := none }) (v := ?_) rfl (by kernel_rfl) (by kernel_rfl) (by kernel_rfl) (fun _ _ _ h => h) (Or.inl ⟨by rfl, ?_⟩) (by assumption) ?_
      rotate_left 1
      · (intro W hSW; (try dsimp only at hSW); first | (go_simp; done) | (go_simp; with_reducible rfl))
      try simp only [Act.put, List.setIfInBounds_toArray, List.set_cons_zero, List.set_cons_succ]
      refine wpAnyH_take (i := 9) (oi := { dst := some 36, op := Op.nilCheck (Operand.tmp 35), type := 0, pos := "gates.go:87", after := #[{ on := 8, ground := Ground.data }], guard := none }) (v := ?_) rfl (by kernel_rfl) (by kernel_rfl) (by kernel_rfl) (fun _ _ _ h => h) (Or.inl ⟨by rfl, ?_⟩) (by assumption) ?_
      rotate_left 1
      · (intro W hSW; (try dsimp only at hSW); first | (go_simp; done) | (go_simp; with_reducible rfl))
      try simp only [Act.put, List.setIfInBounds_toArray, List.set_cons_zero, List.set_cons_succ]
      refine wpAnyH_take (i := 10) (oi := { dst := some 37, op := Op.fieldAddr 63 (Operand.tmp 36) 0, type := 0, pos := "gates.go:87", after := #[{ on := 9, ground := Ground.data }], guard := none }) (v := ?_) rfl (by kernel_rfl) (by kernel_rfl) (by kernel_rfl) (fun _ _ _ h => h) (Or.inl ⟨by rfl, ?_⟩) (by assumption) ?_
      rotate_left 1
      · (intro W hSW; (try dsimp only at hSW); first | (go_simp; done) | (go_simp; with_reducible rfl))
      try simp only [Act.put, List.setIfInBounds_toArray, List.set_cons_zero, List.set_cons_succ]
      refine wpAnyH_ready (rs := [4, 11]) (by kernel_rfl) (by simp) ?_
      refine (AllReadyH.cons (o := { dst := some 31, op := Op.load 23 (Operand.tmp 30), type := 23, pos := "gates.go:87", after := #[{ on := 3, ground := Ground.data }], guard := none }) rfl (fun K hK => ?_) (AllReadyH.cons (o := { dst := some 38, op := Op.load 23 (Operand.tmp 37), type := 23, pos := "gates.go:87", after := #[{ on := 10, ground := Ground.data }], guard := none }) rfl (fun K hK => ?_) AllReadyH.nil))
      · rw [if_pos (by rfl)]
        have hrow := (HGR.out).c0
        rw [HN.out] at hrow
        go_simp
        clear hrow
        refine hK.out _ _ (HS.out _ hdr) (fun hHeld => ?_)
        clear hK K
        try simp only [Act.put, List.setIfInBounds_toArray, List.set_cons_zero, List.set_cons_succ]
        refine wpAnyH_take (i := 5) (oi := { dst := some 32, op := Op.call { callee := Callee.builtin Builtin.len, args := #[Operand.tmp 31], argTypes := #[23] }, type := 3, pos := "gates.go:87", after := #[{ on := 4, ground := Ground.data }], guard := none }) (v := ?_) rfl (by kernel_rfl) (by kernel_rfl) (by kernel_rfl) (fun _ _ _ h => h) (Or.inl ⟨by rfl, ?_⟩) (by assumption) ?_
        rotate_left 1
        · (intro W hSW; (try dsimp only at hSW); first | (go_simp; done) | (go_simp; with_reducible rfl))
        try simp only [Act.put, List.setIfInBounds_toArray, List.set_cons_zero, List.set_cons_succ]
        refine wpAnyH_take (i := 6) (oi := { dst := some 33, op := Op.binOp BinOp.add 3 (Operand.tmp 32) (Operand.const (Value.int IntKind.i64 16)) 3, type := 3, pos := "gates.go:87", after := #[{ on := 5, ground := Ground.data }], guard := none }) (v := ?_) rfl (by kernel_rfl) (by kernel_rfl) (by kernel_rfl) (fun _ _ _ h => h) (Or.inl ⟨by rfl, ?_⟩) (by assumption) ?_
        rotate_left 1
        · (intro W hSW; (try dsimp only at hSW); first | (go_simp; done) | (go_simp; with_reducible rfl))
        try simp only [Act.put, List.setIfInBounds_toArray, List.set_cons_zero, List.set_cons_succ]
        refine wpAnyH_ready (rs := [7, 11]) (by kernel_rfl) (by simp) ?_
        refine (AllReadyH.cons (o := { dst := some 34, op := Op.makeSlice 23 (Operand.const (Value.int IntKind.i64 0)) (Operand.tmp 33), type := 23, pos := "gates.go:87", after := #[{ on := 6, ground := Ground.data }], guard := none }) rfl (fun K hK => ?_) (AllReadyH.cons (o := { dst := some 38, op := Op.load 23 (Operand.tmp 37), type := 23, pos := "gates.go:87", after := #[{ on := 10, ground := Ground.data }], guard := none }) rfl (fun K hK => ?_) AllReadyH.nil))
        · refine ready_make_gates (.const (.int .i64 0)) (.tmp 33) rfl rfl (p + 1) (n + 16) rfl rfl (by omega) (by have := HGR.out.low.2; exact this) (fun WM hownM hgM => ?_)
          have hmk := World.grownBy.trans hdr hgM
          have HGM := Lib.hid (HGR.out.grown (World.grownBy.trans (⟨rfl, rfl, rfl, Nat.le_refl _, fun _ _ _ => rfl⟩ : w2.grownBy w2.drew none) hgM))
          have HOM := Lib.hid hownM
          clear hownM
          refine hK.out _ _ (HS.out _ hmk) (fun hHeld => ?_)
          clear hK K
          try simp only [Act.put, List.setIfInBounds_toArray, List.set_cons_zero, List.set_cons_succ]
          refine wpAnyH_ready (rs := [11]) (by kernel_rfl) (by simp) ?_
          refine (AllReadyH.cons (o := { dst := some 38, op := Op.load 23 (Operand.tmp 37), type := 23, pos := "gates.go:87", after := #[{ on := 10, ground := Ground.data }], guard := none }) rfl (fun K hK => ?_) AllReadyH.nil)
          rw [if_pos (by rfl)]
          have hrow := (HGM.out).c0
          rw [HN.out] at hrow
          go_simp
          clear hrow
          refine hK.out _ _ (HS.out _ hmk) (fun hHeld => ?_)
          clear hK K
          try simp only [Act.put, List.setIfInBounds_toArray, List.set_cons_zero, List.set_cons_succ]
          refine wpAnyH_ready (rs := [12]) (by kernel_rfl) (by simp) ?_
          refine (AllReadyH.cons (o := { dst := some 39, op := Op.call { callee := Callee.builtin Builtin.append, args := #[Operand.tmp 34, Operand.tmp 38], argTypes := #[23, 23] }, type := 23, pos := "gates.go:87", after := #[{ on := 7, ground := Ground.data }, { on := 11, ground := Ground.data }], guard := none }) rfl (fun K hK => ?_) AllReadyH.nil)
          refine ready_append_gates (.tmp 34) (.tmp 38) rfl rfl (p + 1) _ 0 [] rfl HOM.out va n vc gs rfl HN.out HGM.out.row.gates (by omega) HGM.out.low.2 (fun v' w6 hown' hgrow6 hat6 => ?_)
          have hg6 := grown_own hmk hgrow6 (fun k hk => by injection hk with hk; have h2 : w2.heap.size = k := hk; have := World.grownBy.size HG2.out; omega)
          rw [Nat.zero_add, List.nil_append] at hown'
          obtain ⟨va1, vc1, rfl⟩ := own_shape hown'
          have HPUT := Lib.hid (Grow.put (m := n) HN.out HGM.out hgrow6 (fun e => by injection e with e; have h1 := HGR.out.low.2; have h2 : p = w2.heap.size := e; omega) hown')
          clear hown' hat6
          have hs1 := HPUT.out.2.2.1
          have hs2 := HPUT.out.2.2.2.1
          refine hK.out _ _ (HS.out _ hg6) (fun hHeld => ?_)
          clear hK K
          try simp only [Act.put, List.setIfInBounds_toArray, List.set_cons_zero, List.set_cons_succ]
          refine wpAnyH_take (i := 13) (oi := { dst := some 40, op := Op.nilCheck (Operand.tmp 27), type := 0, pos := "gates.go:87", after := #[{ on := 0, ground := Ground.data }, { on := 0, ground := Ground.phase }, { on := 1, ground := Ground.phase }, { on := 2, ground := Ground.phase }, { on := 3, ground := Ground.phase }, { on := 4, ground := Ground.phase }, { on := 5, ground := Ground.phase }, { on := 6, ground := Ground.phase }, { on := 7, ground := Ground.phase }, { on := 8, ground := Ground.phase }, { on := 9, ground := Ground.phase }, { on := 10, ground := Ground.phase }, { on := 11, ground := Ground.phase }, { on := 12, ground := Ground.phase }], guard := none }) (v := ?_) rfl (by kernel_rfl) (by kernel_rfl) (by kernel_rfl) (fun _ _ _ h => h) (Or.inl ⟨by rfl, ?_⟩) (by assumption) ?_
          rotate_left 1
          · (intro W hSW; (try dsimp only at hSW); first | (go_simp; done) | (go_simp; with_reducible rfl))
          try simp only [Act.put, List.setIfInBounds_toArray, List.set_cons_zero, List.set_cons_succ]
          refine wpAnyH_take (i := 14) (oi := { dst := some 41, op := Op.fieldAddr 63 (Operand.tmp 40) 0, type := 0, pos := "gates.go:87", after := #[{ on := 13, ground := Ground.data }, { on := 0, ground := Ground.phase }, { on := 1, ground := Ground.phase }, { on := 2, ground := Ground.phase }, { on := 3, ground := Ground.phase }, { on := 4, ground := Ground.phase }, { on := 5, ground := Ground.phase }, { on := 6, ground := Ground.phase }, { on := 7, ground := Ground.phase }, { on := 8, ground := Ground.phase }, { on := 9, ground := Ground.phase }, { on := 10, ground := Ground.phase }, { on := 11, ground := Ground.phase }, { on := 12, ground := Ground.phase }], guard := none }) (v := ?_) rfl (by kernel_rfl) (by kernel_rfl) (by kernel_rfl) (fun _ _ _ h => h) (Or.inl ⟨by rfl, ?_⟩) (by assumption) ?_
          rotate_left 1
          · (intro W hSW; (try dsimp only at hSW); first | (go_simp; done) | (go_simp; with_reducible rfl))
          try simp only [Act.put, List.setIfInBounds_toArray, List.set_cons_zero, List.set_cons_succ]
          refine wpAnyH_ready (rs := [15]) (by kernel_rfl) (by simp) ?_
          refine (AllReadyH.cons (o := { dst := none, op := Op.store 23 (Operand.tmp 41) (Operand.tmp 39), type := 0, pos := "gates.go:87", after := #[{ on := 14, ground := Ground.data }, { on := 12, ground := Ground.data }, { on := 12, ground := Ground.chain }, { on := 0, ground := Ground.phase }, { on := 1, ground := Ground.phase }, { on := 2, ground := Ground.phase }, { on := 3, ground := Ground.phase }, { on := 4, ground := Ground.phase }, { on := 5, ground := Ground.phase }, { on := 6, ground := Ground.phase }, { on := 7, ground := Ground.phase }, { on := 8, ground := Ground.phase }, { on := 9, ground := Ground.phase }, { on := 10, ground := Ground.phase }, { on := 11, ground := Ground.phase }, { on := 12, ground := Ground.phase }], guard := none }) rfl (fun K hK => ?_) AllReadyH.nil)
          rw [if_pos (by rfl)]
          go_simp
          have hgs := grown_own hg6 (grown_set w6 p 0 (.slice va1 n vc1)) (fun k hk => by cases hk; exact HL.out.2.2)
          refine hK.out _ _ (HS.out _ hgs) (fun hHeld => ?_)
          clear hK K
          try simp only [Act.put, List.setIfInBounds_toArray, List.set_cons_zero, List.set_cons_succ]
          refine wpAnyH_done (by kernel_rfl) ?_ _
          have hEND := hgs
          clear hHeld
          clear hdr hEND
          have k1 := HPUT.out.2.2.2.2.1
          have k1f := HPUT.out.2.2.2.2.2
          go_upto_region 9 with fail
          have HGV := Lib.hid HPUT.out.1
          have HV0 := Lib.hid (grown_own hgs (grown_set _ p 1 (.bool true)) (fun k hk => by cases hk; exact HL.out.2.2))
          have HVX := Lib.hid (show GateAt ((w6.setCell ⟨p, 0, none⟩ (.slice va1 n vc1)).setCell ⟨p, 1, none⟩ (.bool true)) w.heap.size 0 x from (((HX2.out.moved (World.grownBy.trans (⟨rfl, rfl, rfl, Nat.le_refl _, fun _ _ _ => rfl⟩ : w2.grownBy w2.drew none) hgM) (by simp)).moved hgrow6 (fun e => by injection e with e; have h1 : w.heap.size < w2.heap.size := lies_lt HX2.out.1; have h2 : w.heap.size = w2.heap.size := e; omega)).moved (grown_set _ p 0 _) (fun e => by injection e with e; have := HX.out.2; omega)).moved (grown_set _ p 1 _) (fun e => by injection e with e; have := HX.out.2; omega))
          clear k1 k1f hs1 hs2
          obtain ⟨V, hV⟩ : ∃ V, (w6.setCell ⟨p, 0, none⟩ (.slice va1 n vc1)).setCell ⟨p, 1, none⟩ (.bool true) = V := ⟨_, rfl⟩
          rw [hV] at HGV HV0 HVX ⊢
          clear hV
          have k2 := HGV.out.c2
          have hNe := nilmap_ne
          clear HS
          try clear hgs hg6 hgrow6 hgM hmk
          go_wp2_with fail
          clear k2 hNe
          have HS : Hid (∀ Wh : World, w0.grownBy Wh none → w0.grownBy Wh none) := Lib.hid (fun _ h => h)
          have hdr : w0.grownBy V.drew none := World.grownBy.trans HV0.out (⟨rfl, rfl, rfl, Nat.le_refl _, fun _ _ _ => rfl⟩ : V.grownBy V.drew none)
          refine wp_region_held_drew (S := (fun Wh : World => w0.grownBy Wh none)) (by kernel_rfl) (HS.out _ hdr) (fun hHeld => ?_)
          refine wpAnyH_take (i := 0) (oi := { dst := some 60, op := Op.move (Operand.tmp 0), type := 53, pos := "gates.go:93", after := #[], guard := none }) (v := ?_) rfl (by kernel_rfl) (by kernel_rfl) (by kernel_rfl) (fun _ _ _ h => h) (Or.inl ⟨by rfl, ?_⟩) (by assumption) ?_
          rotate_left 1
          · (intro W hSW; (try dsimp only at hSW); first | (go_simp; done) | (go_simp; with_reducible rfl))
          try simp only [Act.put, List.setIfInBounds_toArray, List.set_cons_zero, List.set_cons_succ]
          refine wpAnyH_take (i := 1) (oi := { dst := some 61, op := Op.move (Operand.tmp 0), type := 53, pos := "gates.go:93", after := #[], guard := none }) (v := ?_) rfl (by kernel_rfl) (by kernel_rfl) (by kernel_rfl) (fun _ _ _ h => h) (Or.inl ⟨by rfl, ?_⟩) (by assumption) ?_
          rotate_left 1
          · (intro W hSW; (try dsimp only at hSW); first | (go_simp; done) | (go_simp; with_reducible rfl))
          try simp only [Act.put, List.setIfInBounds_toArray, List.set_cons_zero, List.set_cons_succ]
          refine wpAnyH_take (i := 2) (oi := { dst := some 62, op := Op.nilCheck (Operand.tmp 61), type := 0, pos := "gates.go:93", after := #[{ on := 1, ground := Ground.data }], guard := none }) (v := ?_) rfl (by kernel_rfl) (by kernel_rfl) (by kernel_rfl) (fun _ _ _ h => h) (Or.inl ⟨by rfl, ?_⟩) (by assumption) ?_
          rotate_left 1
          · (intro W hSW; (try dsimp only at hSW); first | (go_simp; done) | (go_simp; with_reducible rfl))
          try simp only [Act.put, List.setIfInBounds_toArray, List.set_cons_zero, List.set_cons_succ]
          refine wpAnyH_take (i := 3) (oi := { dst := some 63, op := Op.fieldAddr 63 (Operand.tmp 62) 0, type := 0, pos := "gates.go:93", after := #[{ on := 2, ground := Ground.data }], guard := none }) (v := ?_) rfl (by kernel_rfl) (by kernel_rfl) (by kernel_rfl) (fun _ _ _ h => h) (Or.inl ⟨by rfl, ?_⟩) (by assumption) ?_
          rotate_left 1
          · (intro W hSW; (try dsimp only at hSW); first | (go_simp; done) | (go_simp; with_reducible rfl))
          try simp only [Act.put, List.setIfInBounds_toArray, List.set_cons_zero, List.set_cons_succ]
          refine wpAnyH_ready (rs := [4, 5]) (by kernel_rfl) (by simp) ?_
          refine (AllReadyH.cons (o := { dst := some 64, op := Op.load 23 (Operand.tmp 63), type := 23, pos := "gates.go:93", after := #[{ on := 3, ground := Ground.data }], guard := none }) rfl (fun K hK => ?_) (AllReadyH.cons (o := { dst := some 65, op := Op.load 47 (Operand.tmp 4), type := 47, pos := "gates.go:93", after := #[], guard := none }) rfl (fun K hK => ?_) AllReadyH.nil))
          · rw [if_pos (by rfl)]
            have hrow := (HGV.out).c0
            rw [HN.out] at hrow
            go_simp
            clear hrow
            refine hK.out _ _ (HS.out _ hdr) (fun hHeld => ?_)
            clear hK K
            try simp only [Act.put, List.setIfInBounds_toArray, List.set_cons_zero, List.set_cons_succ]
            refine wpAnyH_ready (rs := [5]) (by kernel_rfl) (by simp) ?_
            refine (AllReadyH.cons (o := { dst := some 65, op := Op.load 47 (Operand.tmp 4), type := 47, pos := "gates.go:93", after := #[], guard := none }) rfl (fun K hK => ?_) AllReadyH.nil)
            rw [if_pos (by rfl)]
            obtain ⟨y0, y1, y2⟩ := HVX.out
            go_simp
            clear y0 y1 y2
            refine hK.out _ _ (HS.out _ hdr) (fun hHeld => ?_)
            clear hK K
            try simp only [Act.put, List.setIfInBounds_toArray, List.set_cons_zero, List.set_cons_succ]
            refine wpAnyH_ready (rs := [6]) (by kernel_rfl) (by simp) ?_
            refine (AllReadyH.cons (o := { dst := some 66, op := Op.buildSlice 23 1 #[(0, Operand.tmp 65)], type := 23, pos := "gates.go:93", after := #[{ on := 5, ground := Ground.data }], guard := none }) rfl (fun K hK => ?_) AllReadyH.nil)
            rw [if_pos (by rfl)]
            go_simp
            have haA : V.grownBy ((World.alloc V (.cells #[.int .i64 x.1, .int .i64 x.2.1, .int .i64 x.2.2] 47)).drew) none := World.grownBy.trans (World.grownBy_alloc V _ none) (⟨rfl, rfl, rfl, Nat.le_refl _, fun _ _ _ => rfl⟩ : (World.alloc V (.cells #[.int .i64 x.1, .int .i64 x.2.1, .int .i64 x.2.2] 47)).grownBy ((World.alloc V (.cells #[.int .i64 x.1, .int .i64 x.2.1, .int .i64 x.2.2] 47)).drew) none)
            have hnA : GateAt ((World.alloc V (.cells #[.int .i64 x.1, .int .i64 x.2.1, .int .i64 x.2.2] 47)).drew) V.heap.size 0 x ∧ Ty47 ((World.alloc V (.cells #[.int .i64 x.1, .int .i64 x.2.1, .int .i64 x.2.2] 47)).drew) V.heap.size := ⟨gate_cells V x, ty_alloc V _⟩
            obtain ⟨WA, hWA⟩ : ∃ WA, (World.alloc V (.cells #[.int .i64 x.1, .int .i64 x.2.1, .int .i64 x.2.2] 47)).drew = WA := ⟨_, rfl⟩
            rw [hWA] at haA hnA ⊢
            clear hWA
            have HGA := Lib.hid (HGV.out.grown haA)
            have HNA := Lib.hid hnA
            clear hnA
            have hgA := World.grownBy.trans HV0.out haA
            refine hK.out _ _ (HS.out _ hgA) (fun hHeld => ?_)
            clear hK K
            try simp only [Act.put, List.setIfInBounds_toArray, List.set_cons_zero, List.set_cons_succ]
            refine wpAnyH_ready (rs := [7]) (by kernel_rfl) (by simp) ?_
            refine (AllReadyH.cons (o := { dst := some 67, op := Op.call { callee := Callee.builtin Builtin.append, args := #[Operand.tmp 64, Operand.tmp 66], argTypes := #[23, 23] }, type := 23, pos := "gates.go:93", after := #[{ on := 4, ground := Ground.data }, { on := 6, ground := Ground.data }], guard := none }) rfl (fun K hK => ?_) AllReadyH.nil)
            refine ready_append_gates (.tmp 64) (.tmp 66) rfl rfl (p + 1) _ n gs rfl (by have := HGA.out.row; unfold GRow at this; simp only [if_true] at this; rw [HN.out] at this; exact this) (some ⟨V.heap.size, 0, none⟩) 1 1 [x] rfl rfl (gate_news HNA.out.1 HNA.out.2) (by omega) HGA.out.low.2 (fun v' w6 hown' hgrow6 hat6 => ?_)
            obtain ⟨m, hm⟩ : ∃ m, n + 1 = m := ⟨_, rfl⟩
            rw [hm] at hown'
            obtain ⟨rgA, rcA, rfl⟩ := own_shape hown'
            have hob : ∀ k, (Value.slice va1 n vc1).ownBlock = some k → p + 1 ≤ k := fun k hk => by have h1 := HGA.out.row; unfold GRow at h1; simp only [if_true] at h1; rw [HN.out] at h1; exact (h1.lt k hk).1
            have hg6 := grown_own hgA hgrow6 (fun k hk => by have h1 := hob k hk; have h2 := HL.out.2.2; omega)
            have HPUT := Lib.hid (Grow.put (m := m) (by rw [List.length_append, HN.out]; exact hm) HGA.out hgrow6 (fun e => by have h1 := hob p e.symm; omega) hown')
            clear hown' hat6
            have hs1 := HPUT.out.2.2.1
            have hs2 := HPUT.out.2.2.2.1
            refine hK.out _ _ (HS.out _ hg6) (fun hHeld => ?_)
            clear hK K
            try simp only [Act.put, List.setIfInBounds_toArray, List.set_cons_zero, List.set_cons_succ]
            refine wpAnyH_take (i := 8) (oi := { dst := some 68, op := Op.nilCheck (Operand.tmp 60), type := 0, pos := "gates.go:93", after := #[{ on := 0, ground := Ground.data }, { on := 0, ground := Ground.phase }, { on := 1, ground := Ground.phase }, { on := 2, ground := Ground.phase }, { on := 3, ground := Ground.phase }, { on := 4, ground := Ground.phase }, { on := 5, ground := Ground.phase }, { on := 6, ground := Ground.phase }, { on := 7, ground := Ground.phase }], guard := none }) (v := ?_) rfl (by kernel_rfl) (by kernel_rfl) (by kernel_rfl) (fun _ _ _ h => h) (Or.inl ⟨by rfl, ?_⟩) (by assumption) ?_
            rotate_left 1
            · (intro W hSW; (try dsimp only at hSW); first | (go_simp; done) | (go_simp; with_reducible rfl))
            try simp only [Act.put, List.setIfInBounds_toArray, List.set_cons_zero, List.set_cons_succ]
            refine wpAnyH_take (i := 9) (oi := { dst := some 69, op := Op.fieldAddr 63 (Operand.tmp 68) 0, type := 0, pos := "gates.go:93", after := #[{ on := 8, ground := Ground.data }, { on := 0, ground := Ground.phase }, { on := 1, ground := Ground.phase }, { on := 2, ground := Ground.phase }, { on := 3, ground := Ground.phase }, { on := 4, ground := Ground.phase }, { on := 5, ground := Ground.phase }, { on := 6, ground := Ground.phase }, { on := 7, ground := Ground.phase }], guard := none }) (v := ?_) rfl (by kernel_rfl) (by kernel_rfl) (by kernel_rfl) (fun _ _ _ h => h) (Or.inl ⟨by rfl, ?_⟩) (by assumption) ?_
            rotate_left 1
            · (intro W hSW; (try dsimp only at hSW); first | (go_simp; done) | (go_simp; with_reducible rfl))
            try simp only [Act.put, List.setIfInBounds_toArray, List.set_cons_zero, List.set_cons_succ]
            refine wpAnyH_ready (rs := [10]) (by kernel_rfl) (by simp) ?_
            refine (AllReadyH.cons (o := { dst := none, op := Op.store 23 (Operand.tmp 69) (Operand.tmp 67), type := 0, pos := "gates.go:93", after := #[{ on := 9, ground := Ground.data }, { on := 7, ground := Ground.data }, { on := 7, ground := Ground.chain }, { on := 0, ground := Ground.phase }, { on := 1, ground := Ground.phase }, { on := 2, ground := Ground.phase }, { on := 3, ground := Ground.phase }, { on := 4, ground := Ground.phase }, { on := 5, ground := Ground.phase }, { on := 6, ground := Ground.phase }, { on := 7, ground := Ground.phase }], guard := none }) rfl (fun K hK => ?_) AllReadyH.nil)
            rw [if_pos (by rfl)]
            go_simp
            have hgs := grown_own hg6 (grown_set w6 p 0 (.slice rgA m rcA)) (fun k hk => by cases hk; exact HL.out.2.2)
            refine hK.out _ _ (HS.out _ hgs) (fun hHeld => ?_)
            clear hK K
            try simp only [Act.put, List.setIfInBounds_toArray, List.set_cons_zero, List.set_cons_succ]
            refine wpAnyH_done (by kernel_rfl) ?_ _
            have hEND := hgs
            clear hHeld
            clear hdr hEND hs1 hs2
            have HGF := Lib.hid (HPUT.out.2.1 rfl)
            have HF0 := Lib.hid hgs
            clear hgs hg6 hgrow6 hob
            have k0 := HGF.out.c0
            rw [show (gs ++ [x]).length = m by rw [List.length_append, HN.out]; exact hm] at k0
            clear HPUT
            obtain ⟨wF, hwF⟩ : ∃ wF, w6.setCell ⟨p, 0, none⟩ (.slice rgA m rcA) = wF := ⟨_, rfl⟩
            rw [hwF] at HGF HF0 k0 ⊢
            clear hwF
            have fs1 : IntKind.i64.wrap ((m : Int) - 1) = (n : Int) := by rw [IntWalk.i64_in _ (by omega)]; omega
            have fs2 : IntKind.i64.wrap (2 * (n : Int)) = 2 * (n : Int) := IntWalk.i64_in _ (by omega)
            clear hm
            go_wp2_with fail
            go_ret
            exact ⟨true, rgA, rcA, vis', by rw [HA.out, HN.out]; rfl, by rw [HA.out]; exact HGF.out, HVI.out, HF0.out⟩
          · rw [if_pos (by rfl)]
            obtain ⟨y0, y1, y2⟩ := HVX.out
            go_simp
            clear y0 y1 y2
            refine hK.out _ _ (HS.out _ hdr) (fun hHeld => ?_)
            clear hK K
            try simp only [Act.put, List.setIfInBounds_toArray, List.set_cons_zero, List.set_cons_succ]
            refine wpAnyH_ready (rs := [4, 6]) (by kernel_rfl) (by simp) ?_
            refine (AllReadyH.cons (o := { dst := some 64, op := Op.load 23 (Operand.tmp 63), type := 23, pos := "gates.go:93", after := #[{ on := 3, ground := Ground.data }], guard := none }) rfl (fun K hK => ?_) (AllReadyH.cons (o := { dst := some 66, op := Op.buildSlice 23 1 #[(0, Operand.tmp 65)], type := 23, pos := "gates.go:93", after := #[{ on := 5, ground := Ground.data }], guard := none }) rfl (fun K hK => ?_) AllReadyH.nil))
            · rw [if_pos (by rfl)]
              have hrow := (HGV.out).c0
              rw [HN.out] at hrow
              go_simp
              clear hrow
              refine hK.out _ _ (HS.out _ hdr) (fun hHeld => ?_)
              clear hK K
              try simp only [Act.put, List.setIfInBounds_toArray, List.set_cons_zero, List.set_cons_succ]
              refine wpAnyH_ready (rs := [6]) (by kernel_rfl) (by simp) ?_
              refine (AllReadyH.cons (o := { dst := some 66, op := Op.buildSlice 23 1 #[(0, Operand.tmp 65)], type := 23, pos := "gates.go:93", after := #[{ on := 5, ground := Ground.data }], guard := none }) rfl (fun K hK => ?_) AllReadyH.nil)
              rw [if_pos (by rfl)]
              go_simp
              have haA : V.grownBy ((World.alloc V (.cells #[.int .i64 x.1, .int .i64 x.2.1, .int .i64 x.2.2] 47)).drew) none := World.grownBy.trans (World.grownBy_alloc V _ none) (⟨rfl, rfl, rfl, Nat.le_refl _, fun _ _ _ => rfl⟩ : (World.alloc V (.cells #[.int .i64 x.1, .int .i64 x.2.1, .int .i64 x.2.2] 47)).grownBy ((World.alloc V (.cells #[.int .i64 x.1, .int .i64 x.2.1, .int .i64 x.2.2] 47)).drew) none)
              have hnA : GateAt ((World.alloc V (.cells #[.int .i64 x.1, .int .i64 x.2.1, .int .i64 x.2.2] 47)).drew) V.heap.size 0 x ∧ Ty47 ((World.alloc V (.cells #[.int .i64 x.1, .int .i64 x.2.1, .int .i64 x.2.2] 47)).drew) V.heap.size := ⟨gate_cells V x, ty_alloc V _⟩
              obtain ⟨WA, hWA⟩ : ∃ WA, (World.alloc V (.cells #[.int .i64 x.1, .int .i64 x.2.1, .int .i64 x.2.2] 47)).drew = WA := ⟨_, rfl⟩
              rw [hWA] at haA hnA ⊢
              clear hWA
              have HGA := Lib.hid (HGV.out.grown haA)
              have HNA := Lib.hid hnA
              clear hnA
              have hgA := World.grownBy.trans HV0.out haA
              refine hK.out _ _ (HS.out _ hgA) (fun hHeld => ?_)
              clear hK K
              try simp only [Act.put, List.setIfInBounds_toArray, List.set_cons_zero, List.set_cons_succ]
              refine wpAnyH_ready (rs := [7]) (by kernel_rfl) (by simp) ?_
              refine (AllReadyH.cons (o := { dst := some 67, op := Op.call { callee := Callee.builtin Builtin.append, args := #[Operand.tmp 64, Operand.tmp 66], argTypes := #[23, 23] }, type := 23, pos := "gates.go:93", after := #[{ on := 4, ground := Ground.data }, { on := 6, ground := Ground.data }], guard := none }) rfl (fun K hK => ?_) AllReadyH.nil)
              refine ready_append_gates (.tmp 64) (.tmp 66) rfl rfl (p + 1) _ n gs rfl (by have := HGA.out.row; unfold GRow at this; simp only [if_true] at this; rw [HN.out] at this; exact this) (some ⟨V.heap.size, 0, none⟩) 1 1 [x] rfl rfl (gate_news HNA.out.1 HNA.out.2) (by omega) HGA.out.low.2 (fun v' w6 hown' hgrow6 hat6 => ?_)
              obtain ⟨m, hm⟩ : ∃ m, n + 1 = m := ⟨_, rfl⟩
              rw [hm] at hown'
              obtain ⟨rgA, rcA, rfl⟩ := own_shape hown'
              have hob : ∀ k, (Value.slice va1 n vc1).ownBlock = some k → p + 1 ≤ k := fun k hk => by have h1 := HGA.out.row; unfold GRow at h1; simp only [if_true] at h1; rw [HN.out] at h1; exact (h1.lt k hk).1
              have hg6 := grown_own hgA hgrow6 (fun k hk => by have h1 := hob k hk; have h2 := HL.out.2.2; omega)
              have HPUT := Lib.hid (Grow.put (m := m) (by rw [List.length_append, HN.out]; exact hm) HGA.out hgrow6 (fun e => by have h1 := hob p e.symm; omega) hown')
              clear hown' hat6
              have hs1 := HPUT.out.2.2.1
              have hs2 := HPUT.out.2.2.2.1
              refine hK.out _ _ (HS.out _ hg6) (fun hHeld => ?_)
              clear hK K
              try simp only [Act.put, List.setIfInBounds_toArray, List.set_cons_zero, List.set_cons_succ]
              refine wpAnyH_take (i := 8) (oi := { dst := some 68, op := Op.nilCheck (Operand.tmp 60), type := 0, pos := "gates.go:93", after := #[{ on := 0, ground := Ground.data }, { on := 0, ground := Ground.phase }, { on := 1, ground := Ground.phase }, { on := 2, ground := Ground.phase }, { on := 3, ground := Ground.phase }, { on := 4, ground := Ground.phase }, { on := 5, ground := Ground.phase }, { on := 6, ground := Ground.phase }, { on := 7, ground := Ground.phase }], guard := none }) (v := ?_) rfl (by kernel_rfl) (by kernel_rfl) (by kernel_rfl) (fun _ _ _ h => h) (Or.inl ⟨by rfl, ?_⟩) (by assumption) ?_
              rotate_left 1
              · (intro W hSW; (try dsimp only at hSW); first | (go_simp; done) | (go_simp; with_reducible rfl))
              try simp only [Act.put, List.setIfInBounds_toArray, List.set_cons_zero, List.set_cons_succ]
              refine wpAnyH_take (i := 9) (oi := { dst := some 69, op := Op.fieldAddr 63 (Operand.tmp 68) 0, type := 0, pos := "gates.go:93", after := #[{ on := 8, ground := Ground.data }, { on := 0, ground := Ground.phase }, { on := 1, ground := Ground.phase }, { on := 2, ground := Ground.phase }, { on := 3, ground := Ground.phase }, { on := 4, ground := Ground.phase }, { on := 5, ground := Ground.phase }, { on := 6, ground := Ground.phase }, { on := 7, ground := Ground.phase }], guard := none }) (v := ?_) rfl (by kernel_rfl) (by kernel_rfl) (by kernel_rfl) (fun _ _ _ h => h) (Or.inl ⟨by rfl, ?_⟩) (by assumption) ?_
              rotate_left 1
              · (intro W hSW; (try dsimp only at hSW); first | (go_simp; done) | (go_simp; with_reducible rfl))
              try simp only [Act.put, List.setIfInBounds_toArray, List.set_cons_zero, List.set_cons_succ]
              refine wpAnyH_ready (rs := [10]) (by kernel_rfl) (by simp) ?_
              refine (AllReadyH.cons (o := { dst := none, op := Op.store 23 (Operand.tmp 69) (Operand.tmp 67), type := 0, pos := "gates.go:93", after := #[{ on := 9, ground := Ground.data }, { on := 7, ground := Ground.data }, { on := 7, ground := Ground.chain }, { on := 0, ground := Ground.phase }, { on := 1, ground := Ground.phase }, { on := 2, ground := Ground.phase }, { on := 3, ground := Ground.phase }, { on := 4, ground := Ground.phase }, { on := 5, ground := Ground.phase }, { on := 6, ground := Ground.phase }, { on := 7, ground := Ground.phase }], guard := none }) rfl (fun K hK => ?_) AllReadyH.nil)
              rw [if_pos (by rfl)]
              go_simp
              have hgs := grown_own hg6 (grown_set w6 p 0 (.slice rgA m rcA)) (fun k hk => by cases hk; exact HL.out.2.2)
              refine hK.out _ _ (HS.out _ hgs) (fun hHeld => ?_)
              clear hK K
              try simp only [Act.put, List.setIfInBounds_toArray, List.set_cons_zero, List.set_cons_succ]
              refine wpAnyH_done (by kernel_rfl) ?_ _
              have hEND := hgs
              clear hHeld
              clear hdr hEND hs1 hs2
              have HGF := Lib.hid (HPUT.out.2.1 rfl)
              have HF0 := Lib.hid hgs
              clear hgs hg6 hgrow6 hob
              have k0 := HGF.out.c0
              rw [show (gs ++ [x]).length = m by rw [List.length_append, HN.out]; exact hm] at k0
              clear HPUT
              obtain ⟨wF, hwF⟩ : ∃ wF, w6.setCell ⟨p, 0, none⟩ (.slice rgA m rcA) = wF := ⟨_, rfl⟩
              rw [hwF] at HGF HF0 k0 ⊢
              clear hwF
              have fs1 : IntKind.i64.wrap ((m : Int) - 1) = (n : Int) := by rw [IntWalk.i64_in _ (by omega)]; omega
              have fs2 : IntKind.i64.wrap (2 * (n : Int)) = 2 * (n : Int) := IntWalk.i64_in _ (by omega)
              clear hm
              go_wp2_with fail
              go_ret
              exact ⟨true, rgA, rcA, vis', by rw [HA.out, HN.out]; rfl, by rw [HA.out]; exact HGF.out, HVI.out, HF0.out⟩
            · rw [if_pos (by rfl)]
              go_simp
              have haA : V.grownBy ((World.alloc V (.cells #[.int .i64 x.1, .int .i64 x.2.1, .int .i64 x.2.2] 47)).drew) none := World.grownBy.trans (World.grownBy_alloc V _ none) (⟨rfl, rfl, rfl, Nat.le_refl _, fun _ _ _ => rfl⟩ : (World.alloc V (.cells #[.int .i64 x.1, .int .i64 x.2.1, .int .i64 x.2.2] 47)).grownBy ((World.alloc V (.cells #[.int .i64 x.1, .int .i64 x.2.1, .int .i64 x.2.2] 47)).drew) none)
              have hnA : GateAt ((World.alloc V (.cells #[.int .i64 x.1, .int .i64 x.2.1, .int .i64 x.2.2] 47)).drew) V.heap.size 0 x ∧ Ty47 ((World.alloc V (.cells #[.int .i64 x.1, .int .i64 x.2.1, .int .i64 x.2.2] 47)).drew) V.heap.size := ⟨gate_cells V x, ty_alloc V _⟩
              obtain ⟨WA, hWA⟩ : ∃ WA, (World.alloc V (.cells #[.int .i64 x.1, .int .i64 x.2.1, .int .i64 x.2.2] 47)).drew = WA := ⟨_, rfl⟩
              rw [hWA] at haA hnA ⊢
              clear hWA
              have HGA := Lib.hid (HGV.out.grown haA)
              have HNA := Lib.hid hnA
              clear hnA
              have hgA := World.grownBy.trans HV0.out haA
              refine hK.out _ _ (HS.out _ hgA) (fun hHeld => ?_)
              clear hK K
              try simp only [Act.put, List.setIfInBounds_toArray, List.set_cons_zero, List.set_cons_succ]
              refine wpAnyH_ready (rs := [4]) (by kernel_rfl) (by simp) ?_
              refine (AllReadyH.cons (o := { dst := some 64, op := Op.load 23 (Operand.tmp 63), type := 23, pos := "gates.go:93", after := #[{ on := 3, ground := Ground.data }], guard := none }) rfl (fun K hK => ?_) AllReadyH.nil)
              rw [if_pos (by rfl)]
              have hrow := (HGA.out).c0
              rw [HN.out] at hrow
              go_simp
              clear hrow
              refine hK.out _ _ (HS.out _ hgA) (fun hHeld => ?_)
              clear hK K
              try simp only [Act.put, List.setIfInBounds_toArray, List.set_cons_zero, List.set_cons_succ]
              refine wpAnyH_ready (rs := [7]) (by kernel_rfl) (by simp) ?_
              refine (AllReadyH.cons (o := { dst := some 67, op := Op.call { callee := Callee.builtin Builtin.append, args := #[Operand.tmp 64, Operand.tmp 66], argTypes := #[23, 23] }, type := 23, pos := "gates.go:93", after := #[{ on := 4, ground := Ground.data }, { on := 6, ground := Ground.data }], guard := none }) rfl (fun K hK => ?_) AllReadyH.nil)
              refine ready_append_gates (.tmp 64) (.tmp 66) rfl rfl (p + 1) _ n gs rfl (by have := HGA.out.row; unfold GRow at this; simp only [if_true] at this; rw [HN.out] at this; exact this) (some ⟨V.heap.size, 0, none⟩) 1 1 [x] rfl rfl (gate_news HNA.out.1 HNA.out.2) (by omega) HGA.out.low.2 (fun v' w6 hown' hgrow6 hat6 => ?_)
              obtain ⟨m, hm⟩ : ∃ m, n + 1 = m := ⟨_, rfl⟩
              rw [hm] at hown'
              obtain ⟨rgA, rcA, rfl⟩ := own_shape hown'
              have hob : ∀ k, (Value.slice va1 n vc1).ownBlock = some k → p + 1 ≤ k := fun k hk => by have h1 := HGA.out.row; unfold GRow at h1; simp only [if_true] at h1; rw [HN.out] at h1; exact (h1.lt k hk).1
              have hg6 := grown_own hgA hgrow6 (fun k hk => by have h1 := hob k hk; have h2 := HL.out.2.2; omega)
              have HPUT := Lib.hid (Grow.put (m := m) (by rw [List.length_append, HN.out]; exact hm) HGA.out hgrow6 (fun e => by have h1 := hob p e.symm; omega) hown')
              clear hown' hat6
              have hs1 := HPUT.out.2.2.1
              have hs2 := HPUT.out.2.2.2.1
              refine hK.out _ _ (HS.out _ hg6) (fun hHeld => ?_)
              clear hK K
              try simp only [Act.put, List.setIfInBounds_toArray, List.set_cons_zero, List.set_cons_succ]
              refine wpAnyH_take (i := 8) (oi := { dst := some 68, op := Op.nilCheck (Operand.tmp 60), type := 0, pos := "gates.go:93", after := #[{ on := 0, ground := Ground.data }, { on := 0, ground := Ground.phase }, { on := 1, ground := Ground.phase }, { on := 2, ground := Ground.phase }, { on := 3, ground := Ground.phase }, { on := 4, ground := Ground.phase }, { on := 5, ground := Ground.phase }, { on := 6, ground := Ground.phase }, { on := 7, ground := Ground.phase }], guard := none }) (v := ?_) rfl (by kernel_rfl) (by kernel_rfl) (by kernel_rfl) (fun _ _ _ h => h) (Or.inl ⟨by rfl, ?_⟩) (by assumption) ?_
              rotate_left 1
              · (intro W hSW; (try dsimp only at hSW); first | (go_simp; done) | (go_simp; with_reducible rfl))
              try simp only [Act.put, List.setIfInBounds_toArray, List.set_cons_zero, List.set_cons_succ]
              refine wpAnyH_take (i := 9) (oi := { dst := some 69, op := Op.fieldAddr 63 (Operand.tmp 68) 0, type := 0, pos := "gates.go:93", after := #[{ on := 8, ground := Ground.data }, { on := 0, ground := Ground.phase }, { on := 1, ground := Ground.phase }, { on := 2, ground := Ground.phase }, { on := 3, ground := Ground.phase }, { on := 4, ground := Ground.phase }, { on := 5, ground := Ground.phase }, { on := 6, ground := Ground.phase }, { on := 7, ground := Ground.phase }], guard := none }) (v := ?_) rfl (by kernel_rfl) (by kernel_rfl) (by kernel_rfl) (fun _ _ _ h => h) (Or.inl ⟨by rfl, ?_⟩) (by assumption) ?_
              rotate_left 1
              · (intro W hSW; (try dsimp only at hSW); first | (go_simp; done) | (go_simp; with_reducible rfl))
              try simp only [Act.put, List.setIfInBounds_toArray, List.set_cons_zero, List.set_cons_succ]
              refine wpAnyH_ready (rs := [10]) (by kernel_rfl) (by simp) ?_
              refine (AllReadyH.cons (o := { dst := none, op := Op.store 23 (Operand.tmp 69) (Operand.tmp 67), type := 0, pos := "gates.go:93", after := #[{ on := 9, ground := Ground.data }, { on := 7, ground := Ground.data }, { on := 7, ground := Ground.chain }, { on := 0, ground := Ground.phase }, { on := 1, ground := Ground.phase }, { on := 2, ground := Ground.phase }, { on := 3, ground := Ground.phase }, { on := 4, ground := Ground.phase }, { on := 5, ground := Ground.phase }, { on := 6, ground := Ground.phase }, { on := 7, ground := Ground.phase }], guard := none }) rfl (fun K hK => ?_) AllReadyH.nil)
              rw [if_pos (by rfl)]
              go_simp
              have hgs := grown_own hg6 (grown_set w6 p 0 (.slice rgA m rcA)) (fun k hk => by cases hk; exact HL.out.2.2)
              refine hK.out _ _ (HS.out _ hgs) (fun hHeld => ?_)
              clear hK K
              try simp only [Act.put, List.setIfInBounds_toArray, List.set_cons_zero, List.set_cons_succ]
              refine wpAnyH_done (by kernel_rfl) ?_ _
              have hEND := hgs
              clear hHeld
              clear hdr hEND hs1 hs2
              have HGF := Lib.hid (HPUT.out.2.1 rfl)
              have HF0 := Lib.hid hgs
              clear hgs hg6 hgrow6 hob
              have k0 := HGF.out.c0
              rw [show (gs ++ [x]).length = m by rw [List.length_append, HN.out]; exact hm] at k0
              clear HPUT
              obtain ⟨wF, hwF⟩ : ∃ wF, w6.setCell ⟨p, 0, none⟩ (.slice rgA m rcA) = wF := ⟨_, rfl⟩
              rw [hwF] at HGF HF0 k0 ⊢
              clear hwF
              have fs1 : IntKind.i64.wrap ((m : Int) - 1) = (n : Int) := by rw [IntWalk.i64_in _ (by omega)]; omega
              have fs2 : IntKind.i64.wrap (2 * (n : Int)) = 2 * (n : Int) := IntWalk.i64_in _ (by omega)
              clear hm
              go_wp2_with fail
              go_ret
              exact ⟨true, rgA, rcA, vis', by rw [HA.out, HN.out]; rfl, by rw [HA.out]; exact HGF.out, HVI.out, HF0.out⟩
        · rw [if_pos (by rfl)]
          have hrow := (HGR.out).c0
          rw [HN.out] at hrow
          go_simp
          clear hrow
          refine hK.out _ _ (HS.out _ hdr) (fun hHeld => ?_)
          clear hK K
          try simp only [Act.put, List.setIfInBounds_toArray, List.set_cons_zero, List.set_cons_succ]
          refine wpAnyH_ready (rs := [7]) (by kernel_rfl) (by simp) ?_
          refine (AllReadyH.cons (o := { dst := some 34, op := Op.makeSlice 23 (Operand.const (Value.int IntKind.i64 0)) (Operand.tmp 33), type := 23, pos := "gates.go:87", after := #[{ on := 6, ground := Ground.data }], guard := none }) rfl (fun K hK => ?_) AllReadyH.nil)
          refine ready_make_gates (.const (.int .i64 0)) (.tmp 33) rfl rfl (p + 1) (n + 16) rfl rfl (by omega) (by have := HGR.out.low.2; exact this) (fun WM hownM hgM => ?_)
          have hmk := World.grownBy.trans hdr hgM
          have HGM := Lib.hid (HGR.out.grown (World.grownBy.trans (⟨rfl, rfl, rfl, Nat.le_refl _, fun _ _ _ => rfl⟩ : w2.grownBy w2.drew none) hgM))
          have HOM := Lib.hid hownM
          clear hownM
          refine hK.out _ _ (HS.out _ hmk) (fun hHeld => ?_)
          clear hK K
          try simp only [Act.put, List.setIfInBounds_toArray, List.set_cons_zero, List.set_cons_succ]
          refine wpAnyH_ready (rs := [12]) (by kernel_rfl) (by simp) ?_
          refine (AllReadyH.cons (o := { dst := some 39, op := Op.call { callee := Callee.builtin Builtin.append, args := #[Operand.tmp 34, Operand.tmp 38], argTypes := #[23, 23] }, type := 23, pos := "gates.go:87", after := #[{ on := 7, ground := Ground.data }, { on := 11, ground := Ground.data }], guard := none }) rfl (fun K hK => ?_) AllReadyH.nil)
          refine ready_append_gates (.tmp 34) (.tmp 38) rfl rfl (p + 1) _ 0 [] rfl HOM.out va n vc gs rfl HN.out HGM.out.row.gates (by omega) HGM.out.low.2 (fun v' w6 hown' hgrow6 hat6 => ?_)
          have hg6 := grown_own hmk hgrow6 (fun k hk => by injection hk with hk; have h2 : w2.heap.size = k := hk; have := World.grownBy.size HG2.out; omega)
          rw [Nat.zero_add, List.nil_append] at hown'
          obtain ⟨va1, vc1, rfl⟩ := own_shape hown'
          have HPUT := Lib.hid (Grow.put (m := n) HN.out HGM.out hgrow6 (fun e => by injection e with e; have h1 := HGR.out.low.2; have h2 : p = w2.heap.size := e; omega) hown')
          clear hown' hat6
          have hs1 := HPUT.out.2.2.1
          have hs2 := HPUT.out.2.2.2.1
          refine hK.out _ _ (HS.out _ hg6) (fun hHeld => ?_)
          clear hK K
          try simp only [Act.put, List.setIfInBounds_toArray, List.set_cons_zero, List.set_cons_succ]
          refine wpAnyH_take (i := 13) (oi := { dst := some 40, op := Op.nilCheck (Operand.tmp 27), type := 0, pos := "gates.go:87", after := #[{ on := 0, ground := Ground.data }, { on := 0, ground := Ground.phase }, { on := 1, ground := Ground.phase }, { on := 2, ground := Ground.phase }, { on := 3, ground := Ground.phase }, { on := 4, ground := Ground.phase }, { on := 5, ground := Ground.phase }, { on := 6, ground := Ground.phase }, { on := 7, ground := Ground.phase }, { on := 8, ground := Ground.phase }, { on := 9, ground := Ground.phase }, { on := 10, ground := Ground.phase }, { on := 11, ground := Ground.phase }, { on := 12, ground := Ground.phase }], guard := none }) (v := ?_) rfl (by kernel_rfl) (by kernel_rfl) (by kernel_rfl) (fun _ _ _ h => h) (Or.inl ⟨by rfl, ?_⟩) (by assumption) ?_
          rotate_left 1
          · (intro W hSW; (try dsimp only at hSW); first | (go_simp; done) | (go_simp; with_reducible rfl))
          try simp only [Act.put, List.setIfInBounds_toArray, List.set_cons_zero, List.set_cons_succ]
          refine wpAnyH_take (i := 14) (oi := { dst := some 41, op := Op.fieldAddr 63 (Operand.tmp 40) 0, type := 0, pos := "gates.go:87", after := #[{ on := 13, ground := Ground.data }, { on := 0, ground := Ground.phase }, { on := 1, ground := Ground.phase }, { on := 2, ground := Ground.phase }, { on := 3, ground := Ground.phase }, { on := 4, ground := Ground.phase }, { on := 5, ground := Ground.phase }, { on := 6, ground := Ground.phase }, { on := 7, ground := Ground.phase }, { on := 8, ground := Ground.phase }, { on := 9, ground := Ground.phase }, { on := 10, ground := Ground.phase }, { on := 11, ground := Ground.phase }, { on := 12, ground := Ground.phase }], guard := none }) (v := ?_) rfl (by kernel_rfl) (by kernel_rfl) (by kernel_rfl) (fun _ _ _ h => h) (Or.inl ⟨by rfl, ?_⟩) (by assumption) ?_
          rotate_left 1
          · (intro W hSW; (try dsimp only at hSW); first | (go_simp; done) | (go_simp; with_reducible rfl))
          try simp only [Act.put, List.setIfInBounds_toArray, List.set_cons_zero, List.set_cons_succ]
          refine wpAnyH_ready (rs := [15]) (by kernel_rfl) (by simp) ?_
          refine (AllReadyH.cons (o := { dst := none, op := Op.store 23 (Operand.tmp 41) (Operand.tmp 39), type := 0, pos := "gates.go:87", after := #[{ on := 14, ground := Ground.data }, { on := 12, ground := Ground.data }, { on := 12, ground := Ground.chain }, { on := 0, ground := Ground.phase }, { on := 1, ground := Ground.phase }, { on := 2, ground := Ground.phase }, { on := 3, ground := Ground.phase }, { on := 4, ground := Ground.phase }, { on := 5, ground := Ground.phase }, { on := 6, ground := Ground.phase }, { on := 7, ground := Ground.phase }, { on := 8, ground := Ground.phase }, { on := 9, ground := Ground.phase }, { on := 10, ground := Ground.phase }, { on := 11, ground := Ground.phase }, { on := 12, ground := Ground.phase }], guard := none }) rfl (fun K hK => ?_) AllReadyH.nil)
          rw [if_pos (by rfl)]
          go_simp
          have hgs := grown_own hg6 (grown_set w6 p 0 (.slice va1 n vc1)) (fun k hk => by cases hk; exact HL.out.2.2)
          refine hK.out _ _ (HS.out _ hgs) (fun hHeld => ?_)
          clear hK K
          try simp only [Act.put, List.setIfInBounds_toArray, List.set_cons_zero, List.set_cons_succ]
          refine wpAnyH_done (by kernel_rfl) ?_ _
          have hEND := hgs
          clear hHeld
          clear hdr hEND
          have k1 := HPUT.out.2.2.2.2.1
          have k1f := HPUT.out.2.2.2.2.2
          go_upto_region 9 with fail
          have HGV := Lib.hid HPUT.out.1
          have HV0 := Lib.hid (grown_own hgs (grown_set _ p 1 (.bool true)) (fun k hk => by cases hk; exact HL.out.2.2))
          have HVX := Lib.hid (show GateAt ((w6.setCell ⟨p, 0, none⟩ (.slice va1 n vc1)).setCell ⟨p, 1, none⟩ (.bool true)) w.heap.size 0 x from (((HX2.out.moved (World.grownBy.trans (⟨rfl, rfl, rfl, Nat.le_refl _, fun _ _ _ => rfl⟩ : w2.grownBy w2.drew none) hgM) (by simp)).moved hgrow6 (fun e => by injection e with e; have h1 : w.heap.size < w2.heap.size := lies_lt HX2.out.1; have h2 : w.heap.size = w2.heap.size := e; omega)).moved (grown_set _ p 0 _) (fun e => by injection e with e; have := HX.out.2; omega)).moved (grown_set _ p 1 _) (fun e => by injection e with e; have := HX.out.2; omega))
          clear k1 k1f hs1 hs2
          obtain ⟨V, hV⟩ : ∃ V, (w6.setCell ⟨p, 0, none⟩ (.slice va1 n vc1)).setCell ⟨p, 1, none⟩ (.bool true) = V := ⟨_, rfl⟩
          rw [hV] at HGV HV0 HVX ⊢
          clear hV
          have k2 := HGV.out.c2
          have hNe := nilmap_ne
          clear HS
          try clear hgs hg6 hgrow6 hgM hmk
          go_wp2_with fail
          clear k2 hNe
          have HS : Hid (∀ Wh : World, w0.grownBy Wh none → w0.grownBy Wh none) := Lib.hid (fun _ h => h)
          have hdr : w0.grownBy V.drew none := World.grownBy.trans HV0.out (⟨rfl, rfl, rfl, Nat.le_refl _, fun _ _ _ => rfl⟩ : V.grownBy V.drew none)
          refine wp_region_held_drew (S := (fun Wh : World => w0.grownBy Wh none)) (by kernel_rfl) (HS.out _ hdr) (fun hHeld => ?_)
          refine wpAnyH_take (i := 0) (oi := { dst := some 60, op := Op.move (Operand.tmp 0), type := 53, pos := "gates.go:93", after := #[], guard := none }) (v := ?_) rfl (by kernel_rfl) (by kernel_rfl) (by kernel_rfl) (fun _ _ _ h => h) (Or.inl ⟨by rfl, ?_⟩) (by assumption) ?_
          rotate_left 1
          · (intro W hSW; (try dsimp only at hSW); first | (go_simp; done) | (go_simp; with_reducible rfl))
          try simp only [Act.put, List.setIfInBounds_toArray, List.set_cons_zero, List.set_cons_succ]
          refine wpAnyH_take (i := 1) (oi := { dst := some 61, op := Op.move (Operand.tmp 0), type := 53, pos := "gates.go:93", after := #[], guard := none }) (v := ?_) rfl (by kernel_rfl) (by kernel_rfl) (by kernel_rfl) (fun _ _ _ h => h) (Or.inl ⟨by rfl, ?_⟩) (by assumption) ?_
          rotate_left 1
          · (intro W hSW; (try dsimp only at hSW); first | (go_simp; done) | (go_simp; with_reducible rfl))
          try simp only [Act.put, List.setIfInBounds_toArray, List.set_cons_zero, List.set_cons_succ]
          refine wpAnyH_take (i := 2) (oi := { dst := some 62, op := Op.nilCheck (Operand.tmp 61), type := 0, pos := "gates.go:93", after := #[{ on := 1, ground := Ground.data }], guard := none }) (v := ?_) rfl (by kernel_rfl) (by kernel_rfl) (by kernel_rfl) (fun _ _ _ h => h) (Or.inl ⟨by rfl, ?_⟩) (by assumption) ?_
          rotate_left 1
          · (intro W hSW; (try dsimp only at hSW); first | (go_simp; done) | (go_simp; with_reducible rfl))
          try simp only [Act.put, List.setIfInBounds_toArray, List.set_cons_zero, List.set_cons_succ]
          refine wpAnyH_take (i := 3) (oi := { dst := some 63, op := Op.fieldAddr 63 (Operand.tmp 62) 0, type := 0, pos := "gates.go:93", after := #[{ on := 2, ground := Ground.data }], guard := none }) (v := ?_) rfl (by kernel_rfl) (by kernel_rfl) (by kernel_rfl) (fun _ _ _ h => h) (Or.inl ⟨by rfl, ?_⟩) (by assumption) ?_
          rotate_left 1
          · (intro W hSW; (try dsimp only at hSW); first | (go_simp; done) | (go_simp; with_reducible rfl))
          try simp only [Act.put, List.setIfInBounds_toArray, List.set_cons_zero, List.set_cons_succ]
          refine wpAnyH_ready (rs := [4, 5]) (by kernel_rfl) (by simp) ?_
          refine (AllReadyH.cons (o := { dst := some 64, op := Op.load 23 (Operand.tmp 63), type := 23, pos := "gates.go:93", after := #[{ on := 3, ground := Ground.data }], guard := none }) rfl (fun K hK => ?_) (AllReadyH.cons (o := { dst := some 65, op := Op.load 47 (Operand.tmp 4), type := 47, pos := "gates.go:93", after := #[], guard := none }) rfl (fun K hK => ?_) AllReadyH.nil))
          · rw [if_pos (by rfl)]
            have hrow := (HGV.out).c0
            rw [HN.out] at hrow
            go_simp
            clear hrow
            refine hK.out _ _ (HS.out _ hdr) (fun hHeld => ?_)
            clear hK K
            try simp only [Act.put, List.setIfInBounds_toArray, List.set_cons_zero, List.set_cons_succ]
            refine wpAnyH_ready (rs := [5]) (by kernel_rfl) (by simp) ?_
            refine (AllReadyH.cons (o := { dst := some 65, op := Op.load 47 (Operand.tmp 4), type := 47, pos := "gates.go:93", after := #[], guard := none }) rfl (fun K hK => ?_) AllReadyH.nil)
            rw [if_pos (by rfl)]
            obtain ⟨y0, y1, y2⟩ := HVX.out
            go_simp
            clear y0 y1 y2
            refine hK.out _ _ (HS.out _ hdr) (fun hHeld => ?_)
            clear hK K
            try simp only [Act.put, List.setIfInBounds_toArray, List.set_cons_zero, List.set_cons_succ]
            refine wpAnyH_ready (rs := [6]) (by kernel_rfl) (by simp) ?_
            refine (AllReadyH.cons (o := { dst := some 66, op := Op.buildSlice 23 1 #[(0, Operand.tmp 65)], type := 23, pos := "gates.go:93", after := #[{ on := 5, ground := Ground.data }], guard := none }) rfl (fun K hK => ?_) AllReadyH.nil)
            rw [if_pos (by rfl)]
            go_simp
            have haA : V.grownBy ((World.alloc V (.cells #[.int .i64 x.1, .int .i64 x.2.1, .int .i64 x.2.2] 47)).drew) none := World.grownBy.trans (World.grownBy_alloc V _ none) (⟨rfl, rfl, rfl, Nat.le_refl _, fun _ _ _ => rfl⟩ : (World.alloc V (.cells #[.int .i64 x.1, .int .i64 x.2.1, .int .i64 x.2.2] 47)).grownBy ((World.alloc V (.cells #[.int .i64 x.1, .int .i64 x.2.1, .int .i64 x.2.2] 47)).drew) none)
            have hnA : GateAt ((World.alloc V (.cells #[.int .i64 x.1, .int .i64 x.2.1, .int .i64 x.2.2] 47)).drew) V.heap.size 0 x ∧ Ty47 ((World.alloc V (.cells #[.int .i64 x.1, .int .i64 x.2.1, .int .i64 x.2.2] 47)).drew) V.heap.size := ⟨gate_cells V x, ty_alloc V _⟩
            obtain ⟨WA, hWA⟩ : ∃ WA, (World.alloc V (.cells #[.int .i64 x.1, .int .i64 x.2.1, .int .i64 x.2.2] 47)).drew = WA := ⟨_, rfl⟩
            rw [hWA] at haA hnA ⊢
            clear hWA
            have HGA := Lib.hid (HGV.out.grown haA)
            have HNA := Lib.hid hnA
            clear hnA
            have hgA := World.grownBy.trans HV0.out haA
            refine hK.out _ _ (HS.out _ hgA) (fun hHeld => ?_)
            clear hK K
            try simp only [Act.put, List.setIfInBounds_toArray, List.set_cons_zero, List.set_cons_succ]
            refine wpAnyH_ready (rs := [7]) (by kernel_rfl) (by simp) ?_
            refine (AllReadyH.cons (o := { dst := some 67, op := Op.call { callee := Callee.builtin Builtin.append, args := #[Operand.tmp 64, Operand.tmp 66], argTypes := #[23, 23] }, type := 23, pos := "gates.go:93", after := #[{ on := 4, ground := Ground.data }, { on := 6, ground := Ground.data }], guard := none }) rfl (fun K hK => ?_) AllReadyH.nil)
            refine ready_append_gates (.tmp 64) (.tmp 66) rfl rfl (p + 1) _ n gs rfl (by have := HGA.out.row; unfold GRow at this; simp only [if_true] at this; rw [HN.out] at this; exact this) (some ⟨V.heap.size, 0, none⟩) 1 1 [x] rfl rfl (gate_news HNA.out.1 HNA.out.2) (by omega) HGA.out.low.2 (fun v' w6 hown' hgrow6 hat6 => ?_)
            obtain ⟨m, hm⟩ : ∃ m, n + 1 = m := ⟨_, rfl⟩
            rw [hm] at hown'
            obtain ⟨rgA, rcA, rfl⟩ := own_shape hown'
            have hob : ∀ k, (Value.slice va1 n vc1).ownBlock = some k → p + 1 ≤ k := fun k hk => by have h1 := HGA.out.row; unfold GRow at h1; simp only [if_true] at h1; rw [HN.out] at h1; exact (h1.lt k hk).1
            have hg6 := grown_own hgA hgrow6 (fun k hk => by have h1 := hob k hk; have h2 := HL.out.2.2; omega)
            have HPUT := Lib.hid (Grow.put (m := m) (by rw [List.length_append, HN.out]; exact hm) HGA.out hgrow6 (fun e => by have h1 := hob p e.symm; omega) hown')
            clear hown' hat6
            have hs1 := HPUT.out.2.2.1
            have hs2 := HPUT.out.2.2.2.1
            refine hK.out _ _ (HS.out _ hg6) (fun hHeld => ?_)
            clear hK K
            try simp only [Act.put, List.setIfInBounds_toArray, List.set_cons_zero, List.set_cons_succ]
            refine wpAnyH_take (i := 8) (oi := { dst := some 68, op := Op.nilCheck (Operand.tmp 60), type := 0, pos := "gates.go:93", after := #[{ on := 0, ground := Ground.data }, { on := 0, ground := Ground.phase }, { on := 1, ground := Ground.phase }, { on := 2, ground := Ground.phase }, { on := 3, ground := Ground.phase }, { on := 4, ground := Ground.phase }, { on := 5, ground := Ground.phase }, { on := 6, ground := Ground.phase }, { on := 7, ground := Ground.phase }], guard := none }) (v := ?_) rfl (by kernel_rfl) (by kernel_rfl) (by kernel_rfl) (fun _ _ _ h => h) (Or.inl ⟨by rfl, ?_⟩) (by assumption) ?_
            rotate_left 1
            · (intro W hSW; (try dsimp only at hSW); first | (go_simp; done) | (go_simp; with_reducible rfl))
            try simp only [Act.put, List.setIfInBounds_toArray, List.set_cons_zero, List.set_cons_succ]
            refine wpAnyH_take (i := 9) (oi := { dst := some 69, op := Op.fieldAddr 63 (Operand.tmp 68) 0, type := 0, pos := "gates.go:93", after := #[{ on := 8, ground := Ground.data }, { on := 0, ground := Ground.phase }, { on := 1, ground := Ground.phase }, { on := 2, ground := Ground.phase }, { on := 3, ground := Ground.phase }, { on := 4, ground := Ground.phase }, { on := 5, ground := Ground.phase }, { on := 6, ground := Ground.phase }, { on := 7, ground := Ground.phase }], guard := none }) (v := ?_) rfl (by kernel_rfl) (by kernel_rfl) (by kernel_rfl) (fun _ _ _ h => h) (Or.inl ⟨by rfl, ?_⟩) (by assumption) ?_
            rotate_left 1
            · (intro W hSW; (try dsimp only at hSW); first | (go_simp; done) | (go_simp; with_reducible rfl))
            try simp only [Act.put, List.setIfInBounds_toArray, List.set_cons_zero, List.set_cons_succ]
            refine wpAnyH_ready (rs := [10]) (by kernel_rfl) (by simp) ?_
            refine (AllReadyH.cons (o := { dst := none, op := Op.store 23 (Operand.tmp 69) (Operand.tmp 67), type := 0, pos := "gates.go:93", after := #[{ on := 9, ground := Ground.data }, { on := 7, ground := Ground.data }, { on := 7, ground := Ground.chain }, { on := 0, ground := Ground.phase }, { on := 1, ground := Ground.phase }, { on := 2, ground := Ground.phase }, { on := 3, ground := Ground.phase }, { on := 4, ground := Ground.phase }, { on := 5, ground := Ground.phase }, { on := 6, ground := Ground.phase }, { on := 7, ground := Ground.phase }], guard := none }) rfl (fun K hK => ?_) AllReadyH.nil)
            rw [if_pos (by rfl)]
            go_simp
            have hgs := grown_own hg6 (grown_set w6 p 0 (.slice rgA m rcA)) (fun k hk => by cases hk; exact HL.out.2.2)
            refine hK.out _ _ (HS.out _ hgs) (fun hHeld => ?_)
            clear hK K
            try simp only [Act.put, List.setIfInBounds_toArray, List.set_cons_zero, List.set_cons_succ]
            refine wpAnyH_done (by kernel_rfl) ?_ _
            have hEND := hgs
            clear hHeld
            clear hdr hEND hs1 hs2
            have HGF := Lib.hid (HPUT.out.2.1 rfl)
            have HF0 := Lib.hid hgs
            clear hgs hg6 hgrow6 hob
            have k0 := HGF.out.c0
            rw [show (gs ++ [x]).length = m by rw [List.length_append, HN.out]; exact hm] at k0
            clear HPUT
            obtain ⟨wF, hwF⟩ : ∃ wF, w6.setCell ⟨p, 0, none⟩ (.slice rgA m rcA) = wF := ⟨_, rfl⟩
            rw [hwF] at HGF HF0 k0 ⊢
            clear hwF
            have fs1 : IntKind.i64.wrap ((m : Int) - 1) = (n : Int) := by rw [IntWalk.i64_in _ (by omega)]; omega
            have fs2 : IntKind.i64.wrap (2 * (n : Int)) = 2 * (n : Int) := IntWalk.i64_in _ (by omega)
            clear hm
            go_wp2_with fail
            go_ret
            exact ⟨true, rgA, rcA, vis', by rw [HA.out, HN.out]; rfl, by rw [HA.out]; exact HGF.out, HVI.out, HF0.out⟩
          · rw [if_pos (by rfl)]
            obtain ⟨y0, y1, y2⟩ := HVX.out
            go_simp
            clear y0 y1 y2
            refine hK.out _ _ (HS.out _ hdr) (fun hHeld => ?_)
            clear hK K
            try simp only [Act.put, List.setIfInBounds_toArray, List.set_cons_zero, List.set_cons_succ]
            refine wpAnyH_ready (rs := [4, 6]) (by kernel_rfl) (by simp) ?_
            refine (AllReadyH.cons (o := { dst := some 64, op := Op.load 23 (Operand.tmp 63), type := 23, pos := "gates.go:93", after := #[{ on := 3, ground := Ground.data }], guard := none }) rfl (fun K hK => ?_) (AllReadyH.cons (o := { dst := some 66, op := Op.buildSlice 23 1 #[(0, Operand.tmp 65)], type := 23, pos := "gates.go:93", after := #[{ on := 5, ground := Ground.data }], guard := none }) rfl (fun K hK => ?_) AllReadyH.nil))
            · rw [if_pos (by rfl)]
              have hrow := (HGV.out).c0
              rw [HN.out] at hrow
              go_simp
              clear hrow
              refine hK.out _ _ (HS.out _ hdr) (fun hHeld => ?_)
              clear hK K
              try simp only [Act.put, List.setIfInBounds_toArray, List.set_cons_zero, List.set_cons_succ]
              refine wpAnyH_ready (rs := [6]) (by kernel_rfl) (by simp) ?_
              refine (AllReadyH.cons (o := { dst := some 66, op := Op.buildSlice 23 1 #[(0, Operand.tmp 65)], type := 23, pos := "gates.go:93", after := #[{ on := 5, ground := Ground.data }], guard := none }) rfl (fun K hK => ?_) AllReadyH.nil)
              rw [if_pos (by rfl)]
              go_simp
              have haA : V.grownBy ((World.alloc V (.cells #[.int .i64 x.1, .int .i64 x.2.1, .int .i64 x.2.2] 47)).drew) none := World.grownBy.trans (World.grownBy_alloc V _ none) (⟨rfl, rfl, rfl, Nat.le_refl _, fun _ _ _ => rfl⟩ : (World.alloc V (.cells #[.int .i64 x.1, .int .i64 x.2.1, .int .i64 x.2.2] 47)).grownBy ((World.alloc V (.cells #[.int .i64 x.1, .int .i64 x.2.1, .int .i64 x.2.2] 47)).drew) none)
              have hnA : GateAt ((World.alloc V (.cells #[.int .i64 x.1, .int .i64 x.2.1, .int .i64 x.2.2] 47)).drew) V.heap.size 0 x ∧ Ty47 ((World.alloc V (.cells #[.int .i64 x.1, .int .i64 x.2.1, .int .i64 x.2.2] 47)).drew) V.heap.size := ⟨gate_cells V x, ty_alloc V _⟩
              obtain ⟨WA, hWA⟩ : ∃ WA, (World.alloc V (.cells #[.int .i64 x.1, .int .i64 x.2.1, .int .i64 x.2.2] 47)).drew = WA := ⟨_, rfl⟩
              rw [hWA] at haA hnA ⊢
              clear hWA
              have HGA := Lib.hid (HGV.out.grown haA)
              have HNA := Lib.hid hnA
              clear hnA
              have hgA := World.grownBy.trans HV0.out haA
              refine hK.out _ _ (HS.out _ hgA) (fun hHeld => ?_)
              clear hK K
              try simp only [Act.put, List.setIfInBounds_toArray, List.set_cons_zero, List.set_cons_succ]
              refine wpAnyH_ready (rs := [7]) (by kernel_rfl) (by simp) ?_
              refine (AllReadyH.cons (o := { dst := some 67, op := Op.call { callee := Callee.builtin Builtin.append, args := #[Operand.tmp 64, Operand.tmp 66], argTypes := #[23, 23] }, type := 23, pos := "gates.go:93", after := #[{ on := 4, ground := Ground.data }, { on := 6, ground := Ground.data }], guard := none }) rfl (fun K hK => ?_) AllReadyH.nil)
              refine ready_append_gates (.tmp 64) (.tmp 66) rfl rfl (p + 1) _ n gs rfl (by have := HGA.out.row; unfold GRow at this; simp only [if_true] at this; rw [HN.out] at this; exact this) (some ⟨V.heap.size, 0, none⟩) 1 1 [x] rfl rfl (gate_news HNA.out.1 HNA.out.2) (by omega) HGA.out.low.2 (fun v' w6 hown' hgrow6 hat6 => ?_)
              obtain ⟨m, hm⟩ : ∃ m, n + 1 = m := ⟨_, rfl⟩
              rw [hm] at hown'
              obtain ⟨rgA, rcA, rfl⟩ := own_shape hown'
              have hob : ∀ k, (Value.slice va1 n vc1).ownBlock = some k → p + 1 ≤ k := fun k hk => by have h1 := HGA.out.row; unfold GRow at h1; simp only [if_true] at h1; rw [HN.out] at h1; exact (h1.lt k hk).1
              have hg6 := grown_own hgA hgrow6 (fun k hk => by have h1 := hob k hk; have h2 := HL.out.2.2; omega)
              have HPUT := Lib.hid (Grow.put (m := m) (by rw [List.length_append, HN.out]; exact hm) HGA.out hgrow6 (fun e => by have h1 := hob p e.symm; omega) hown')
              clear hown' hat6
              have hs1 := HPUT.out.2.2.1
              have hs2 := HPUT.out.2.2.2.1
              refine hK.out _ _ (HS.out _ hg6) (fun hHeld => ?_)
              clear hK K
              try simp only [Act.put, List.setIfInBounds_toArray, List.set_cons_zero, List.set_cons_succ]
              refine wpAnyH_take (i := 8) (oi := { dst := some 68, op := Op.nilCheck (Operand.tmp 60), type := 0, pos := "gates.go:93", after := #[{ on := 0, ground := Ground.data }, { on := 0, ground := Ground.phase }, { on := 1, ground := Ground.phase }, { on := 2, ground := Ground.phase }, { on := 3, ground := Ground.phase }, { on := 4, ground := Ground.phase }, { on := 5, ground := Ground.phase }, { on := 6, ground := Ground.phase }, { on := 7, ground := Ground.phase }], guard := none }) (v := ?_) rfl (by kernel_rfl) (by kernel_rfl) (by kernel_rfl) (fun _ _ _ h => h) (Or.inl ⟨by rfl, ?_⟩) (by assumption) ?_
              rotate_left 1
              · (intro W hSW; (try dsimp only at hSW); first | (go_simp; done) | (go_simp; with_reducible rfl))
              try simp only [Act.put, List.setIfInBounds_toArray, List.set_cons_zero, List.set_cons_succ]
              refine wpAnyH_take (i := 9) (oi := { dst := some 69, op := Op.fieldAddr 63 (Operand.tmp 68) 0, type := 0, pos := "gates.go:93", after := #[{ on := 8, ground := Ground.data }, { on := 0, ground := Ground.phase }, { on := 1, ground := Ground.phase }, { on := 2, ground := Ground.phase }, { on := 3, ground := Ground.phase }, { on := 4, ground := Ground.phase }, { on := 5, ground := Ground.phase }, { on := 6, ground := Ground.phase }, { on := 7, ground := Ground.phase }], guard := none }) (v := ?_) rfl (by kernel_rfl) (by kernel_rfl) (by kernel_rfl) (fun _ _ _ h => h) (Or.inl ⟨by rfl, ?_⟩) (by assumption) ?_
              rotate_left 1
              · (intro W hSW; (try dsimp only at hSW); first | (go_simp; done) | (go_simp; with_reducible rfl))
              try simp only [Act.put, List.setIfInBounds_toArray, List.set_cons_zero, List.set_cons_succ]
              refine wpAnyH_ready (rs := [10]) (by kernel_rfl) (by simp) ?_
              refine (AllReadyH.cons (o := { dst := none, op := Op.store 23 (Operand.tmp 69) (Operand.tmp 67), type := 0, pos := "gates.go:93", after := #[{ on := 9, ground := Ground.data }, { on := 7, ground := Ground.data }, { on := 7, ground := Ground.chain }, { on := 0, ground := Ground.phase }, { on := 1, ground := Ground.phase }, { on := 2, ground := Ground.phase }, { on := 3, ground := Ground.phase }, { on := 4, ground := Ground.phase }, { on := 5, ground := Ground.phase }, { on := 6, ground := Ground.phase }, { on := 7, ground := Ground.phase }], guard := none }) rfl (fun K hK => ?_) AllReadyH.nil)
              rw [if_pos (by rfl)]
              go_simp
              have hgs := grown_own hg6 (grown_set w6 p 0 (.slice rgA m rcA)) (fun k hk => by cases hk; exact HL.out.2.2)
              refine hK.out _ _ (HS.out _ hgs) (fun hHeld => ?_)
              clear hK K
              try simp only [Act.put, List.setIfInBounds_toArray, List.set_cons_zero, List.set_cons_succ]
              refine wpAnyH_done (by kernel_rfl) ?_ _
              have hEND := hgs
              clear hHeld
              clear hdr hEND hs1 hs2
              have HGF := Lib.hid (HPUT.out.2.1 rfl)
              have HF0 := Lib.hid hgs
              clear hgs hg6 hgrow6 hob
              have k0 := HGF.out.c0
              rw [show (gs ++ [x]).length = m by rw [List.length_append, HN.out]; exact hm] at k0
              clear HPUT
              obtain ⟨wF, hwF⟩ : ∃ wF, w6.setCell ⟨p, 0, none⟩ (.slice rgA m rcA) = wF := ⟨_, rfl⟩
              rw [hwF] at HGF HF0 k0 ⊢
              clear hwF
              have fs1 : IntKind.i64.wrap ((m : Int) - 1) = (n : Int) := by rw [IntWalk.i64_in _ (by omega)]; omega
              have fs2 : IntKind.i64.wrap (2 * (n : Int)) = 2 * (n : Int) := IntWalk.i64_in _ (by omega)
              clear hm
              go_wp2_with fail
              go_ret
              exact ⟨true, rgA, rcA, vis', by rw [HA.out, HN.out]; rfl, by rw [HA.out]; exact HGF.out, HVI.out, HF0.out⟩
            · rw [if_pos (by rfl)]
              go_simp
              have haA : V.grownBy ((World.alloc V (.cells #[.int .i64 x.1, .int .i64 x.2.1, .int .i64 x.2.2] 47)).drew) none := World.grownBy.trans (World.grownBy_alloc V _ none) (⟨rfl, rfl, rfl, Nat.le_refl _, fun _ _ _ => rfl⟩ : (World.alloc V (.cells #[.int .i64 x.1, .int .i64 x.2.1, .int .i64 x.2.2] 47)).grownBy ((World.alloc V (.cells #[.int .i64 x.1, .int .i64 x.2.1, .int .i64 x.2.2] 47)).drew) none)
              have hnA : GateAt ((World.alloc V (.cells #[.int .i64 x.1, .int .i64 x.2.1, .int .i64 x.2.2] 47)).drew) V.heap.size 0 x ∧ Ty47 ((World.alloc V (.cells #[.int .i64 x.1, .int .i64 x.2.1, .int .i64 x.2.2] 47)).drew) V.heap.size := ⟨gate_cells V x, ty_alloc V _⟩
              obtain ⟨WA, hWA⟩ : ∃ WA, (World.alloc V (.cells #[.int .i64 x.1, .int .i64 x.2.1, .int .i64 x.2.2] 47)).drew = WA := ⟨_, rfl⟩
              rw [hWA] at haA hnA ⊢
              clear hWA
              have HGA := Lib.hid (HGV.out.grown haA)
              have HNA := Lib.hid hnA
              clear hnA
              have hgA := World.grownBy.trans HV0.out haA
              refine hK.out _ _ (HS.out _ hgA) (fun hHeld => ?_)
              clear hK K
              try simp only [Act.put, List.setIfInBounds_toArray, List.set_cons_zero, List.set_cons_succ]
              refine wpAnyH_ready (rs := [4]) (by kernel_rfl) (by simp) ?_
              refine (AllReadyH.cons (o := { dst := some 64, op := Op.load 23 (Operand.tmp 63), type := 23, pos := "gates.go:93", after := #[{ on := 3, ground := Ground.data }], guard := none }) rfl (fun K hK => ?_) AllReadyH.nil)
              rw [if_pos (by rfl)]
              have hrow := (HGA.out).c0
              rw [HN.out] at hrow
              go_simp
              clear hrow
              refine hK.out _ _ (HS.out _ hgA) (fun hHeld => ?_)
              clear hK K
              try simp only [Act.put, List.setIfInBounds_toArray, List.set_cons_zero, List.set_cons_succ]
              refine wpAnyH_ready (rs := [7]) (by kernel_rfl) (by simp) ?_
              refine (AllReadyH.cons (o := { dst := some 67, op := Op.call { callee := Callee.builtin Builtin.append, args := #[Operand.tmp 64, Operand.tmp 66], argTypes := #[23, 23] }, type := 23, pos := "gates.go:93", after := #[{ on := 4, ground := Ground.data }, { on := 6, ground := Ground.data }], guard := none }) rfl (fun K hK => ?_) AllReadyH.nil)
              refine ready_append_gates (.tmp 64) (.tmp 66) rfl rfl (p + 1) _ n gs rfl (by have := HGA.out.row; unfold GRow at this; simp only [if_true] at this; rw [HN.out] at this; exact this) (some ⟨V.heap.size, 0, none⟩) 1 1 [x] rfl rfl (gate_news HNA.out.1 HNA.out.2) (by omega) HGA.out.low.2 (fun v' w6 hown' hgrow6 hat6 => ?_)
              obtain ⟨m, hm⟩ : ∃ m, n + 1 = m := ⟨_, rfl⟩
              rw [hm] at hown'
              obtain ⟨rgA, rcA, rfl⟩ := own_shape hown'
              have hob : ∀ k, (Value.slice va1 n vc1).ownBlock = some k → p + 1 ≤ k := fun k hk => by have h1 := HGA.out.row; unfold GRow at h1; simp only [if_true] at h1; rw [HN.out] at h1; exact (h1.lt k hk).1
              have hg6 := grown_own hgA hgrow6 (fun k hk => by have h1 := hob k hk; have h2 := HL.out.2.2; omega)
              have HPUT := Lib.hid (Grow.put (m := m) (by rw [List.length_append, HN.out]; exact hm) HGA.out hgrow6 (fun e => by have h1 := hob p e.symm; omega) hown')
              clear hown' hat6
              have hs1 := HPUT.out.2.2.1
              have hs2 := HPUT.out.2.2.2.1
              refine hK.out _ _ (HS.out _ hg6) (fun hHeld => ?_)
              clear hK K
              try simp only [Act.put, List.setIfInBounds_toArray, List.set_cons_zero, List.set_cons_succ]
              refine wpAnyH_take (i := 8) (oi := { dst := some 68, op := Op.nilCheck (Operand.tmp 60), type := 0, pos := "gates.go:93", after := #[{ on := 0, ground := Ground.data }, { on := 0, ground := Ground.phase }, { on := 1, ground := Ground.phase }, { on := 2, ground := Ground.phase }, { on := 3, ground := Ground.phase }, { on := 4, ground := Ground.phase }, { on := 5, ground := Ground.phase }, { on := 6, ground := Ground.phase }, { on := 7, ground := Ground.phase }], guard := none }) (v := ?_) rfl (by kernel_rfl) (by kernel_rfl) (by kernel_rfl) (fun _ _ _ h => h) (Or.inl ⟨by rfl, ?_⟩) (by assumption) ?_
              rotate_left 1
              · (intro W hSW; (try dsimp only at hSW); first | (go_simp; done) | (go_simp; with_reducible rfl))
              try simp only [Act.put, List.setIfInBounds_toArray, List.set_cons_zero, List.set_cons_succ]
              refine wpAnyH_take (i := 9) (oi := { dst := some 69, op := Op.fieldAddr 63 (Operand.tmp 68) 0, type := 0, pos := "gates.go:93", after := #[{ on := 8, ground := Ground.data }, { on := 0, ground := Ground.phase }, { on := 1, ground := Ground.phase }, { on := 2, ground := Ground.phase }, { on := 3, ground := Ground.phase }, { on := 4, ground := Ground.phase }, { on := 5, ground := Ground.phase }, { on := 6, ground := Ground.phase }, { on := 7, ground := Ground.phase }], guard := none }) (v := ?_) rfl (by kernel_rfl) (by kernel_rfl) (by kernel_rfl) (fun _ _ _ h => h) (Or.inl ⟨by rfl, ?_⟩) (by assumption) ?_
              rotate_left 1
              · (intro W hSW; (try dsimp only at hSW); first | (go_simp; done) | (go_simp; with_reducible rfl))
              try simp only [Act.put, List.setIfInBounds_toArray, List.set_cons_zero, List.set_cons_succ]
              refine wpAnyH_ready (rs := [10]) (by kernel_rfl) (by simp) ?_
              refine (AllReadyH.cons (o := { dst := none, op := Op.store 23 (Operand.tmp 69) (Operand.tmp 67), type := 0, pos := "gates.go:93", after := #[{ on := 9, ground := Ground.data }, { on := 7, ground := Ground.data }, { on := 7, ground := Ground.chain }, { on := 0, ground := Ground.phase }, { on := 1, ground := Ground.phase }, { on := 2, ground := Ground.phase }, { on := 3, ground := Ground.phase }, { on := 4, ground := Ground.phase }, { on := 5, ground := Ground.phase }, { on := 6, ground := Ground.phase }, { on := 7, ground := Ground.phase }], guard := none }) rfl (fun K hK => ?_) AllReadyH.nil)
              rw [if_pos (by rfl)]
              go_simp
              have hgs := grown_own hg6 (grown_set w6 p 0 (.slice rgA m rcA)) (fun k hk => by cases hk; exact HL.out.2.2)
              refine hK.out _ _ (HS.out _ hgs) (fun hHeld => ?_)
              clear hK K
              try simp only [Act.put, List.setIfInBounds_toArray, List.set_cons_zero, List.set_cons_succ]
              refine wpAnyH_done (by kernel_rfl) ?_ _
              have hEND := hgs
              clear hHeld
              clear hdr hEND hs1 hs2
              have HGF := Lib.hid (HPUT.out.2.1 rfl)
              have HF0 := Lib.hid hgs
              clear hgs hg6 hgrow6 hob
              have k0 := HGF.out.c0
              rw [show (gs ++ [x]).length = m by rw [List.length_append, HN.out]; exact hm] at k0
              clear HPUT
              obtain ⟨wF, hwF⟩ : ∃ wF, w6.setCell ⟨p, 0, none⟩ (.slice rgA m rcA) = wF := ⟨_, rfl⟩
              rw [hwF] at HGF HF0 k0 ⊢
              clear hwF
              have fs1 : IntKind.i64.wrap ((m : Int) - 1) = (n : Int) := by rw [IntWalk.i64_in _ (by omega)]; omega
              have fs2 : IntKind.i64.wrap (2 * (n : Int)) = 2 * (n : Int) := IntWalk.i64_in _ (by omega)
              clear hm
              go_wp2_with fail
              go_ret
              exact ⟨true, rgA, rcA, vis', by rw [HA.out, HN.out]; rfl, by rw [HA.out]; exact HGF.out, HVI.out, HF0.out⟩
      · rw [if_pos (by rfl)]
        have hrow := (HGR.out).c0
        rw [HN.out] at hrow
        go_simp
        clear hrow
        refine hK.out _ _ (HS.out _ hdr) (fun hHeld => ?_)
        clear hK K
        try simp only [Act.put, List.setIfInBounds_toArray, List.set_cons_zero, List.set_cons_succ]
        refine wpAnyH_ready (rs := [4]) (by kernel_rfl) (by simp) ?_
        refine (AllReadyH.cons (o := { dst := some 31, op := Op.load 23 (Operand.tmp 30), type := 23, pos := "gates.go:87", after := #[{ on := 3, ground := Ground.data }], guard := none }) rfl (fun K hK => ?_) AllReadyH.nil)
        rw [if_pos (by rfl)]
        have hrow := (HGR.out).c0
        rw [HN.out] at hrow
        go_simp
        clear hrow
        refine hK.out _ _ (HS.out _ hdr) (fun hHeld => ?_)
        clear hK K
        try simp only [Act.put, List.setIfInBounds_toArray, List.set_cons_zero, List.set_cons_succ]
        refine wpAnyH_take (i := 5) (oi := { dst := some 32, op := Op.call { callee := Callee.builtin Builtin.len, args := #[Operand.tmp 31], argTypes := #[23] }, type := 3, pos := "gates.go:87", after := #[{ on := 4, ground := Ground.data }], guard := none }) (v := ?_) rfl (by kernel_rfl) (by kernel_rfl) (by kernel_rfl) (fun _ _ _ h => h) (Or.inl ⟨by rfl, ?_⟩) (by assumption) ?_
        rotate_left 1
        · (intro W hSW; (try dsimp only at hSW); first | (go_simp; done) | (go_simp; with_reducible rfl))
        try simp only [Act.put, List.setIfInBounds_toArray, List.set_cons_zero, List.set_cons_succ]
        refine wpAnyH_take (i := 6) (oi := { dst := some 33, op := Op.binOp BinOp.add 3 (Operand.tmp 32) (Operand.const (Value.int IntKind.i64 16)) 3, type := 3, pos := "gates.go:87", after := #[{ on := 5, ground := Ground.data }], guard := none }) (v := ?_) rfl (by kernel_rfl) (by kernel_rfl) (by kernel_rfl) (fun _ _ _ h => h) (Or.inl ⟨by rfl, ?_⟩) (by assumption) ?_
        rotate_left 1
        · (intro W hSW; (try dsimp only at hSW); first | (go_simp; done) | (go_simp; with_reducible rfl))
        try simp only [Act.put, List.setIfInBounds_toArray, List.set_cons_zero, List.set_cons_succ]
        refine wpAnyH_ready (rs := [7]) (by kernel_rfl) (by simp) ?_
        refine (AllReadyH.cons (o := { dst := some 34, op := Op.makeSlice 23 (Operand.const (Value.int IntKind.i64 0)) (Operand.tmp 33), type := 23, pos := "gates.go:87", after := #[{ on := 6, ground := Ground.data }], guard := none }) rfl (fun K hK => ?_) AllReadyH.nil)
        refine ready_make_gates (.const (.int .i64 0)) (.tmp 33) rfl rfl (p + 1) (n + 16) rfl rfl (by omega) (by have := HGR.out.low.2; exact this) (fun WM hownM hgM => ?_)
        have hmk := World.grownBy.trans hdr hgM
        have HGM := Lib.hid (HGR.out.grown (World.grownBy.trans (⟨rfl, rfl, rfl, Nat.le_refl _, fun _ _ _ => rfl⟩ : w2.grownBy w2.drew none) hgM))
        have HOM := Lib.hid hownM
        clear hownM
        refine hK.out _ _ (HS.out _ hmk) (fun hHeld => ?_)
        clear hK K
        try simp only [Act.put, List.setIfInBounds_toArray, List.set_cons_zero, List.set_cons_succ]
        refine wpAnyH_ready (rs := [12]) (by kernel_rfl) (by simp) ?_
        refine (AllReadyH.cons (o := { dst := some 39, op := Op.call { callee := Callee.builtin Builtin.append, args := #[Operand.tmp 34, Operand.tmp 38], argTypes := #[23, 23] }, type := 23, pos := "gates.go:87", after := #[{ on := 7, ground := Ground.data }, { on := 11, ground := Ground.data }], guard := none }) rfl (fun K hK => ?_) AllReadyH.nil)
        refine ready_append_gates (.tmp 34) (.tmp 38) rfl rfl (p + 1) _ 0 [] rfl HOM.out va n vc gs rfl HN.out HGM.out.row.gates (by omega) HGM.out.low.2 (fun v' w6 hown' hgrow6 hat6 => ?_)
        have hg6 := grown_own hmk hgrow6 (fun k hk => by injection hk with hk; have h2 : w2.heap.size = k := hk; have := World.grownBy.size HG2.out; omega)
        rw [Nat.zero_add, List.nil_append] at hown'
        obtain ⟨va1, vc1, rfl⟩ := own_shape hown'
        have HPUT := Lib.hid (Grow.put (m := n) HN.out HGM.out hgrow6 (fun e => by injection e with e; have h1 := HGR.out.low.2; have h2 : p = w2.heap.size := e; omega) hown')
        clear hown' hat6
        have hs1 := HPUT.out.2.2.1
        have hs2 := HPUT.out.2.2.2.1
        refine hK.out _ _ (HS.out _ hg6) (fun hHeld => ?_)
        clear hK K
        try simp only [Act.put, List.setIfInBounds_toArray, List.set_cons_zero, List.set_cons_succ]
        refine wpAnyH_take (i := 13) (oi := { dst := some 40, op := Op.nilCheck (Operand.tmp 27), type := 0, pos := "gates.go:87", after := #[{ on := 0, ground := Ground.data }, { on := 0, ground := Ground.phase }, { on := 1, ground := Ground.phase }, { on := 2, ground := Ground.phase }, { on := 3, ground := Ground.phase }, { on := 4, ground := Ground.phase }, { on := 5, ground := Ground.phase }, { on := 6, ground := Ground.phase }, { on := 7, ground := Ground.phase }, { on := 8, ground := Ground.phase }, { on := 9, ground := Ground.phase }, { on := 10, ground := Ground.phase }, { on := 11, ground := Ground.phase }, { on := 12, ground := Ground.phase }], guard := none }) (v := ?_) rfl (by kernel_rfl) (by kernel_rfl) (by kernel_rfl) (fun _ _ _ h => h) (Or.inl ⟨by rfl, ?_⟩) (by assumption) ?_
        rotate_left 1
        · (intro W hSW; (try dsimp only at hSW); first | (go_simp; done) | (go_simp; with_reducible rfl))
        try simp only [Act.put, List.setIfInBounds_toArray, List.set_cons_zero, List.set_cons_succ]
        refine wpAnyH_take (i := 14) (oi := { dst := some 41, op := Op.fieldAddr 63 (Operand.tmp 40) 0, type := 0, pos := "gates.go:87", after := #[{ on := 13, ground := Ground.data }, { on := 0, ground := Ground.phase }, { on := 1, ground := Ground.phase }, { on := 2, ground := Ground.phase }, { on := 3, ground := Ground.phase }, { on := 4, ground := Ground.phase }, { on := 5, ground := Ground.phase }, { on := 6, ground := Ground.phase }, { on := 7, ground := Ground.phase }, { on := 8, ground := Ground.phase }, { on := 9, ground := Ground.phase }, { on := 10, ground := Ground.phase }, { on := 11, ground := Ground.phase }, { on := 12, ground := Ground.phase }], guard := none }) (v := ?_) rfl (by kernel_rfl) (by kernel_rfl) (by kernel_rfl) (fun _ _ _ h => h) (Or.inl ⟨by rfl, ?_⟩) (by assumption) ?_
        rotate_left 1
        · (intro W hSW; (try dsimp only at hSW); first | (go_simp; done) | (go_simp; with_reducible rfl))
        try simp only [Act.put, List.setIfInBounds_toArray, List.set_cons_zero, List.set_cons_succ]
        refine wpAnyH_ready (rs := [15]) (by kernel_rfl) (by simp) ?_
        refine (AllReadyH.cons (o := { dst := none, op := Op.store 23 (Operand.tmp 41) (Operand.tmp 39), type := 0, pos := "gates.go:87", after := #[{ on := 14, ground := Ground.data }, { on := 12, ground := Ground.data }, { on := 12, ground := Ground.chain }, { on := 0, ground := Ground.phase }, { on := 1, ground := Ground.phase }, { on := 2, ground := Ground.phase }, { on := 3, ground := Ground.phase }, { on := 4, ground := Ground.phase }, { on := 5, ground := Ground.phase }, { on := 6, ground := Ground.phase }, { on := 7, ground := Ground.phase }, { on := 8, ground := Ground.phase }, { on := 9, ground := Ground.phase }, { on := 10, ground := Ground.phase }, { on := 11, ground := Ground.phase }, { on := 12, ground := Ground.phase }], guard := none }) rfl (fun K hK => ?_) AllReadyH.nil)
        rw [if_pos (by rfl)]
        go_simp
        have hgs := grown_own hg6 (grown_set w6 p 0 (.slice va1 n vc1)) (fun k hk => by cases hk; exact HL.out.2.2)
        refine hK.out _ _ (HS.out _ hgs) (fun hHeld => ?_)
        clear hK K
        try simp only [Act.put, List.setIfInBounds_toArray, List.set_cons_zero, List.set_cons_succ]
        refine wpAnyH_done (by kernel_rfl) ?_ _
        have hEND := hgs
        clear hHeld
        clear hdr hEND
        have k1 := HPUT.out.2.2.2.2.1
        have k1f := HPUT.out.2.2.2.2.2
        go_upto_region 9 with fail
        have HGV := Lib.hid HPUT.out.1
        have HV0 := Lib.hid (grown_own hgs (grown_set _ p 1 (.bool true)) (fun k hk => by cases hk; exact HL.out.2.2))
        have HVX := Lib.hid (show GateAt ((w6.setCell ⟨p, 0, none⟩ (.slice va1 n vc1)).setCell ⟨p, 1, none⟩ (.bool true)) w.heap.size 0 x from (((HX2.out.moved (World.grownBy.trans (⟨rfl, rfl, rfl, Nat.le_refl _, fun _ _ _ => rfl⟩ : w2.grownBy w2.drew none) hgM) (by simp)).moved hgrow6 (fun e => by injection e with e; have h1 : w.heap.size < w2.heap.size := lies_lt HX2.out.1; have h2 : w.heap.size = w2.heap.size := e; omega)).moved (grown_set _ p 0 _) (fun e => by injection e with e; have := HX.out.2; omega)).moved (grown_set _ p 1 _) (fun e => by injection e with e; have := HX.out.2; omega))
        clear k1 k1f hs1 hs2
        obtain ⟨V, hV⟩ : ∃ V, (w6.setCell ⟨p, 0, none⟩ (.slice va1 n vc1)).setCell ⟨p, 1, none⟩ (.bool true) = V := ⟨_, rfl⟩
        rw [hV] at HGV HV0 HVX ⊢
        clear hV
        have k2 := HGV.out.c2
        have hNe := nilmap_ne
        clear HS
        try clear hgs hg6 hgrow6 hgM hmk
        go_wp2_with fail
        clear k2 hNe
        have HS : Hid (∀ Wh : World, w0.grownBy Wh none → w0.grownBy Wh none) := Lib.hid (fun _ h => h)
        have hdr : w0.grownBy V.drew none := World.grownBy.trans HV0.out (⟨rfl, rfl, rfl, Nat.le_refl _, fun _ _ _ => rfl⟩ : V.grownBy V.drew none)
        refine wp_region_held_drew (S := (fun Wh : World => w0.grownBy Wh none)) (by kernel_rfl) (HS.out _ hdr) (fun hHeld => ?_)
        refine wpAnyH_take (i := 0) (oi := { dst := some 60, op := Op.move (Operand.tmp 0), type := 53, pos := "gates.go:93", after := #[], guard := none }) (v := ?_) rfl (by kernel_rfl) (by kernel_rfl) (by kernel_rfl) (fun _ _ _ h => h) (Or.inl ⟨by rfl, ?_⟩) (by assumption) ?_
        rotate_left 1
        · (intro W hSW; (try dsimp only at hSW); first | (go_simp; done) | (go_simp; with_reducible rfl))
        try simp only [Act.put, List.setIfInBounds_toArray, List.set_cons_zero, List.set_cons_succ]
        refine wpAnyH_take (i := 1) (oi := { dst := some 61, op := Op.move (Operand.tmp 0), type := 53, pos := "gates.go:93", after := #[], guard := none }) (v := ?_) rfl (by kernel_rfl) (by kernel_rfl) (by kernel_rfl) (fun _ _ _ h => h) (Or.inl ⟨by rfl, ?_⟩) (by assumption) ?_
        rotate_left 1
        · (intro W hSW; (try dsimp only at hSW); first | (go_simp; done) | (go_simp; with_reducible rfl))
        try simp only [Act.put, List.setIfInBounds_toArray, List.set_cons_zero, List.set_cons_succ]
        refine wpAnyH_take (i := 2) (oi := { dst := some 62, op := Op.nilCheck (Operand.tmp 61), type := 0, pos := "gates.go:93", after := #[{ on := 1, ground := Ground.data }], guard := none }) (v := ?_) rfl (by kernel_rfl) (by kernel_rfl) (by kernel_rfl) (fun _ _ _ h => h) (Or.inl ⟨by rfl, ?_⟩) (by assumption) ?_
        rotate_left 1
        · (intro W hSW; (try dsimp only at hSW); first | (go_simp; done) | (go_simp; with_reducible rfl))
        try simp only [Act.put, List.setIfInBounds_toArray, List.set_cons_zero, List.set_cons_succ]
        refine wpAnyH_take (i := 3) (oi := { dst := some 63, op := Op.fieldAddr 63 (Operand.tmp 62) 0, type := 0, pos := "gates.go:93", after := #[{ on := 2, ground := Ground.data }], guard := none }) (v := ?_) rfl (by kernel_rfl) (by kernel_rfl) (by kernel_rfl) (fun _ _ _ h => h) (Or.inl ⟨by rfl, ?_⟩) (by assumption) ?_
        rotate_left 1
        · (intro W hSW; (try dsimp only at hSW); first | (go_simp; done) | (go_simp; with_reducible rfl))
        try simp only [Act.put, List.setIfInBounds_toArray, List.set_cons_zero, List.set_cons_succ]
        refine wpAnyH_ready (rs := [4, 5]) (by kernel_rfl) (by simp) ?_
        refine (AllReadyH.cons (o := { dst := some 64, op := Op.load 23 (Operand.tmp 63), type := 23, pos := "gates.go:93", after := #[{ on := 3, ground := Ground.data }], guard := none }) rfl (fun K hK => ?_) (AllReadyH.cons (o := { dst := some 65, op := Op.load 47 (Operand.tmp 4), type := 47, pos := "gates.go:93", after := #[], guard := none }) rfl (fun K hK => ?_) AllReadyH.nil))
        · rw [if_pos (by rfl)]
          have hrow := (HGV.out).c0
          rw [HN.out] at hrow
          go_simp
          clear hrow
          refine hK.out _ _ (HS.out _ hdr) (fun hHeld => ?_)
          clear hK K
          try simp only [Act.put, List.setIfInBounds_toArray, List.set_cons_zero, List.set_cons_succ]
          refine wpAnyH_ready (rs := [5]) (by kernel_rfl) (by simp) ?_
          refine (AllReadyH.cons (o := { dst := some 65, op := Op.load 47 (Operand.tmp 4), type := 47, pos := "gates.go:93", after := #[], guard := none }) rfl (fun K hK => ?_) AllReadyH.nil)
          rw [if_pos (by rfl)]
          obtain ⟨y0, y1, y2⟩ := HVX.out
          go_simp
          clear y0 y1 y2
          refine hK.out _ _ (HS.out _ hdr) (fun hHeld => ?_)
          clear hK K
          try simp only [Act.put, List.setIfInBounds_toArray, List.set_cons_zero, List.set_cons_succ]
          refine wpAnyH_ready (rs := [6]) (by kernel_rfl) (by simp) ?_
          refine (AllReadyH.cons (o := { dst := some 66, op := Op.buildSlice 23 1 #[(0, Operand.tmp 65)], type := 23, pos := "gates.go:93", after := #[{ on := 5, ground := Ground.data }], guard := none }) rfl (fun K hK => ?_) AllReadyH.nil)
          rw [if_pos (by rfl)]
          go_simp
          have haA : V.grownBy ((World.alloc V (.cells #[.int .i64 x.1, .int .i64 x.2.1, .int .i64 x.2.2] 47)).drew) none := World.grownBy.trans (World.grownBy_alloc V _ none) (⟨rfl, rfl, rfl, Nat.le_refl _, fun _ _ _ => rfl⟩ : (World.alloc V (.cells #[.int .i64 x.1, .int .i64 x.2.1, .int .i64 x.2.2] 47)).grownBy ((World.alloc V (.cells #[.int .i64 x.1, .int .i64 x.2.1, .int .i64 x.2.2] 47)).drew) none)
          have hnA : GateAt ((World.alloc V (.cells #[.int .i64 x.1, .int .i64 x.2.1, .int .i64 x.2.2] 47)).drew) V.heap.size 0 x ∧ Ty47 ((World.alloc V (.cells #[.int .i64 x.1, .int .i64 x.2.1, .int .i64 x.2.2] 47)).drew) V.heap.size := ⟨gate_cells V x, ty_alloc V _⟩
          obtain ⟨WA, hWA⟩ : ∃ WA, (World.alloc V (.cells #[.int .i64 x.1, .int .i64 x.2.1, .int .i64 x.2.2] 47)).drew = WA := ⟨_, rfl⟩
          rw [hWA] at haA hnA ⊢
          clear hWA
          have HGA := Lib.hid (HGV.out.grown haA)
          have HNA := Lib.hid hnA
          clear hnA
          have hgA := World.grownBy.trans HV0.out haA
          refine hK.out _ _ (HS.out _ hgA) (fun hHeld => ?_)
          clear hK K
          try simp only [Act.put, List.setIfInBounds_toArray, List.set_cons_zero, List.set_cons_succ]
          refine wpAnyH_ready (rs := [7]) (by kernel_rfl) (by simp) ?_
          refine (AllReadyH.cons (o := { dst := some 67, op := Op.call { callee := Callee.builtin Builtin.append, args := #[Operand.tmp 64, Operand.tmp 66], argTypes := #[23, 23] }, type := 23, pos := "gates.go:93", after := #[{ on := 4, ground := Ground.data }, { on := 6, ground := Ground.data }], guard := none }) rfl (fun K hK => ?_) AllReadyH.nil)
          refine ready_append_gates (.tmp 64) (.tmp 66) rfl rfl (p + 1) _ n gs rfl (by have := HGA.out.row; unfold GRow at this; simp only [if_true] at this; rw [HN.out] at this; exact this) (some ⟨V.heap.size, 0, none⟩) 1 1 [x] rfl rfl (gate_news HNA.out.1 HNA.out.2) (by omega) HGA.out.low.2 (fun v' w6 hown' hgrow6 hat6 => ?_)
          obtain ⟨m, hm⟩ : ∃ m, n + 1 = m := ⟨_, rfl⟩
          rw [hm] at hown'
          obtain ⟨rgA, rcA, rfl⟩ := own_shape hown'
          have hob : ∀ k, (Value.slice va1 n vc1).ownBlock = some k → p + 1 ≤ k := fun k hk => by have h1 := HGA.out.row; unfold GRow at h1; simp only [if_true] at h1; rw [HN.out] at h1; exact (h1.lt k hk).1
          have hg6 := grown_own hgA hgrow6 (fun k hk => by have h1 := hob k hk; have h2 := HL.out.2.2; omega)
          have HPUT := Lib.hid (Grow.put (m := m) (by rw [List.length_append, HN.out]; exact hm) HGA.out hgrow6 (fun e => by have h1 := hob p e.symm; omega) hown')
          clear hown' hat6
          have hs1 := HPUT.out.2.2.1
          have hs2 := HPUT.out.2.2.2.1
          refine hK.out _ _ (HS.out _ hg6) (fun hHeld => ?_)
          clear hK K
          try simp only [Act.put, List.setIfInBounds_toArray, List.set_cons_zero, List.set_cons_succ]
          refine wpAnyH_take (i := 8) (oi := { dst := some 68, op := Op.nilCheck (Operand.tmp 60), type := 0, pos := "gates.go:93", after := #[{ on := 0, ground := Ground.data }, { on := 0, ground := Ground.phase }, { on := 1, ground := Ground.phase }, { on := 2, ground := Ground.phase }, { on := 3, ground := Ground.phase }, { on := 4, ground := Ground.phase }, { on := 5, ground := Ground.phase }, { on := 6, ground := Ground.phase }, { on := 7, ground := Ground.phase }], guard := none }) (v := ?_) rfl (by kernel_rfl) (by kernel_rfl) (by kernel_rfl) (fun _ _ _ h => h) (Or.inl ⟨by rfl, ?_⟩) (by assumption) ?_
          rotate_left 1
          · (intro W hSW; (try dsimp only at hSW); first | (go_simp; done) | (go_simp; with_reducible rfl))
          try simp only [Act.put, List.setIfInBounds_toArray, List.set_cons_zero, List.set_cons_succ]
          refine wpAnyH_take (i := 9) (oi := { dst := some 69, op := Op.fieldAddr 63 (Operand.tmp 68) 0, type := 0, pos := "gates.go:93", after := #[{ on := 8, ground := Ground.data }, { on := 0, ground := Ground.phase }, { on := 1, ground := Ground.phase }, { on := 2, ground := Ground.phase }, { on := 3, ground := Ground.phase }, { on := 4, ground := Ground.phase }, { on := 5, ground := Ground.phase }, { on := 6, ground := Ground.phase }, { on := 7, ground := Ground.phase }], guard := none }) (v := ?_) rfl (by kernel_rfl) (by kernel_rfl) (by kernel_rfl) (fun _ _ _ h => h) (Or.inl ⟨by rfl, ?_⟩) (by assumption) ?_
          rotate_left 1
          · (intro W hSW; (try dsimp only at hSW); first | (go_simp; done) | (go_simp; with_reducible rfl))
          try simp only [Act.put, List.setIfInBounds_toArray, List.set_cons_zero, List.set_cons_succ]
          refine wpAnyH_ready (rs := [10]) (by kernel_rfl) (by simp) ?_
          refine (AllReadyH.cons (o := { dst := none, op := Op.store 23 (Operand.tmp 69) (Operand.tmp 67), type := 0, pos := "gates.go:93", after := #[{ on := 9, ground := Ground.data }, { on := 7, ground := Ground.data }, { on := 7, ground := Ground.chain }, { on := 0, ground := Ground.phase }, { on := 1, ground := Ground.phase }, { on := 2, ground := Ground.phase }, { on := 3, ground := Ground.phase }, { on := 4, ground := Ground.phase }, { on := 5, ground := Ground.phase }, { on := 6, ground := Ground.phase }, { on := 7, ground := Ground.phase }], guard := none }) rfl (fun K hK => ?_) AllReadyH.nil)
          rw [if_pos (by rfl)]
          go_simp
          have hgs := grown_own hg6 (grown_set w6 p 0 (.slice rgA m rcA)) (fun k hk => by cases hk; exact HL.out.2.2)
          refine hK.out _ _ (HS.out _ hgs) (fun hHeld => ?_)
          clear hK K
          try simp only [Act.put, List.setIfInBounds_toArray, List.set_cons_zero, List.set_cons_succ]
          refine wpAnyH_done (by kernel_rfl) ?_ _
          have hEND := hgs
          clear hHeld
          clear hdr hEND hs1 hs2
          have HGF := Lib.hid (HPUT.out.2.1 rfl)
          have HF0 := Lib.hid hgs
          clear hgs hg6 hgrow6 hob
          have k0 := HGF.out.c0
          rw [show (gs ++ [x]).length = m by rw [List.length_append, HN.out]; exact hm] at k0
          clear HPUT
          obtain ⟨wF, hwF⟩ : ∃ wF, w6.setCell ⟨p, 0, none⟩ (.slice rgA m rcA) = wF := ⟨_, rfl⟩
          rw [hwF] at HGF HF0 k0 ⊢
          clear hwF
          have fs1 : IntKind.i64.wrap ((m : Int) - 1) = (n : Int) := by rw [IntWalk.i64_in _ (by omega)]; omega
          have fs2 : IntKind.i64.wrap (2 * (n : Int)) = 2 * (n : Int) := IntWalk.i64_in _ (by omega)
          clear hm
          go_wp2_with fail
          go_ret
          exact ⟨true, rgA, rcA, vis', by rw [HA.out, HN.out]; rfl, by rw [HA.out]; exact HGF.out, HVI.out, HF0.out⟩
        · rw [if_pos (by rfl)]
          obtain ⟨y0, y1, y2⟩ := HVX.out
          go_simp
          clear y0 y1 y2
          refine hK.out _ _ (HS.out _ hdr) (fun hHeld => ?_)
          clear hK K
          try simp only [Act.put, List.setIfInBounds_toArray, List.set_cons_zero, List.set_cons_succ]
          refine wpAnyH_ready (rs := [4, 6]) (by kernel_rfl) (by simp) ?_
          refine (AllReadyH.cons (o := { dst := some 64, op := Op.load 23 (Operand.tmp 63), type := 23, pos := "gates.go:93", after := #[{ on := 3, ground := Ground.data }], guard := none }) rfl (fun K hK => ?_) (AllReadyH.cons (o := { dst := some 66, op := Op.buildSlice 23 1 #[(0, Operand.tmp 65)], type := 23, pos := "gates.go:93", after := #[{ on := 5, ground := Ground.data }], guard := none }) rfl (fun K hK => ?_) AllReadyH.nil))
          · rw [if_pos (by rfl)]
            have hrow := (HGV.out).c0
            rw [HN.out] at hrow
            go_simp
            clear hrow
            refine hK.out _ _ (HS.out _ hdr) (fun hHeld => ?_)
            clear hK K
            try simp only [Act.put, List.setIfInBounds_toArray, List.set_cons_zero, List.set_cons_succ]
            refine wpAnyH_ready (rs := [6]) (by kernel_rfl) (by simp) ?_
            refine (AllReadyH.cons (o := { dst := some 66, op := Op.buildSlice 23 1 #[(0, Operand.tmp 65)], type := 23, pos := "gates.go:93", after := #[{ on := 5, ground := Ground.data }], guard := none }) rfl (fun K hK => ?_) AllReadyH.nil)
            rw [if_pos (by rfl)]
            go_simp
            have haA : V.grownBy ((World.alloc V (.cells #[.int .i64 x.1, .int .i64 x.2.1, .int .i64 x.2.2] 47)).drew) none := World.grownBy.trans (World.grownBy_alloc V _ none) (⟨rfl, rfl, rfl, Nat.le_refl _, fun _ _ _ => rfl⟩ : (World.alloc V (.cells #[.int .i64 x.1, .int .i64 x.2.1, .int .i64 x.2.2] 47)).grownBy ((World.alloc V (.cells #[.int .i64 x.1, .int .i64 x.2.1, .int .i64 x.2.2] 47)).drew) none)
            have hnA : GateAt ((World.alloc V (.cells #[.int .i64 x.1, .int .i64 x.2.1, .int .i64 x.2.2] 47)).drew) V.heap.size 0 x ∧ Ty47 ((World.alloc V (.cells #[.int .i64 x.1, .int .i64 x.2.1, .int .i64 x.2.2] 47)).drew) V.heap.size := ⟨gate_cells V x, ty_alloc V _⟩
            obtain ⟨WA, hWA⟩ : ∃ WA, (World.alloc V (.cells #[.int .i64 x.1, .int .i64 x.2.1, .int .i64 x.2.2] 47)).drew = WA := ⟨_, rfl⟩
            rw [hWA] at haA hnA ⊢
            clear hWA
            have HGA := Lib.hid (HGV.out.grown haA)
            have HNA := Lib.hid hnA
            clear hnA
            have hgA := World.grownBy.trans HV0.out haA
            refine hK.out _ _ (HS.out _ hgA) (fun hHeld => ?_)
            clear hK K
            try simp only [Act.put, List.setIfInBounds_toArray, List.set_cons_zero, List.set_cons_succ]
            refine wpAnyH_ready (rs := [7]) (by kernel_rfl) (by simp) ?_
            refine (AllReadyH.cons (o := { dst := some 67, op := Op.call { callee := Callee.builtin Builtin.append, args := #[Operand.tmp 64, Operand.tmp 66], argTypes := #[23, 23] }, type := 23, pos := "gates.go:93", after := #[{ on := 4, ground := Ground.data }, { on := 6, ground := Ground.data }], guard := none }) rfl (fun K hK => ?_) AllReadyH.nil)
            refine ready_append_gates (.tmp 64) (.tmp 66) rfl rfl (p + 1) _ n gs rfl (by have := HGA.out.row; unfold GRow at this; simp only [if_true] at this; rw [HN.out] at this; exact this) (some ⟨V.heap.size, 0, none⟩) 1 1 [x] rfl rfl (gate_news HNA.out.1 HNA.out.2) (by omega) HGA.out.low.2 (fun v' w6 hown' hgrow6 hat6 => ?_)
            obtain ⟨m, hm⟩ : ∃ m, n + 1 = m := ⟨_, rfl⟩
            rw [hm] at hown'
            obtain ⟨rgA, rcA, rfl⟩ := own_shape hown'
            have hob : ∀ k, (Value.slice va1 n vc1).ownBlock = some k → p + 1 ≤ k := fun k hk => by have h1 := HGA.out.row; unfold GRow at h1; simp only [if_true] at h1; rw [HN.out] at h1; exact (h1.lt k hk).1
            have hg6 := grown_own hgA hgrow6 (fun k hk => by have h1 := hob k hk; have h2 := HL.out.2.2; omega)
            have HPUT := Lib.hid (Grow.put (m := m) (by rw [List.length_append, HN.out]; exact hm) HGA.out hgrow6 (fun e => by have h1 := hob p e.symm; omega) hown')
            clear hown' hat6
            have hs1 := HPUT.out.2.2.1
            have hs2 := HPUT.out.2.2.2.1
            refine hK.out _ _ (HS.out _ hg6) (fun hHeld => ?_)
            clear hK K
            try simp only [Act.put, List.setIfInBounds_toArray, List.set_cons_zero, List.set_cons_succ]
            refine wpAnyH_take (i := 8) (oi := { dst := some 68, op := Op.nilCheck (Operand.tmp 60), type := 0, pos := "gates.go:93", after := #[{ on := 0, ground := Ground.data }, { on := 0, ground := Ground.phase }, { on := 1, ground := Ground.phase }, { on := 2, ground := Ground.phase }, { on := 3, ground := Ground.phase }, { on := 4, ground := Ground.phase }, { on := 5, ground := Ground.phase }, { on := 6, ground := Ground.phase }, { on := 7, ground := Ground.phase }], guard := none }) (v := ?_) rfl (by kernel_rfl) (by kernel_rfl) (by kernel_rfl) (fun _ _ _ h => h) (Or.inl ⟨by rfl, ?_⟩) (by assumption) ?_
            rotate_left 1
            · (intro W hSW; (try dsimp only at hSW); first | (go_simp; done) | (go_simp; with_reducible rfl))
            try simp only [Act.put, List.setIfInBounds_toArray, List.set_cons_zero, List.set_cons_succ]
            refine wpAnyH_take (i := 9) (oi := { dst := some 69, op := Op.fieldAddr 63 (Operand.tmp 68) 0, type := 0, pos := "gates.go:93", after := #[{ on := 8, ground := Ground.data }, { on := 0, ground := Ground.phase }, { on := 1, ground := Ground.phase }, { on := 2, ground := Ground.phase }, { on := 3, ground := Ground.phase }, { on := 4, ground := Ground.phase }, { on := 5, ground := Ground.phase }, { on := 6, ground := Ground.phase }, { on := 7, ground := Ground.phase }], guard := none }) (v := ?_) rfl (by kernel_rfl) (by kernel_rfl) (by kernel_rfl) (fun _ _ _ h => h) (Or.inl ⟨by rfl, ?_⟩) (by assumption) ?_
            rotate_left 1
            · (intro W hSW; (try dsimp only at hSW); first | (go_simp; done) | (go_simp; with_reducible rfl))
            try simp only [Act.put, List.setIfInBounds_toArray, List.set_cons_zero, List.set_cons_succ]
            refine wpAnyH_ready (rs := [10]) (by kernel_rfl) (by simp) ?_
            refine (AllReadyH.cons (o := { dst := none, op := Op.store 23 (Operand.tmp 69) (Operand.tmp 67), type := 0, pos := "gates.go:93", after := #[{ on := 9, ground := Ground.data }, { on := 7, ground := Ground.data }, { on := 7, ground := Ground.chain }, { on := 0, ground := Ground.phase }, { on := 1, ground := Ground.phase }, { on := 2, ground := Ground.phase }, { on := 3, ground := Ground.phase }, { on := 4, ground := Ground.phase }, { on := 5, ground := Ground.phase }, { on := 6, ground := Ground.phase }, { on := 7, ground := Ground.phase }], guard := none }) rfl (fun K hK => ?_) AllReadyH.nil)
            rw [if_pos (by rfl)]
            go_simp
            have hgs := grown_own hg6 (grown_set w6 p 0 (.slice rgA m rcA)) (fun k hk => by cases hk; exact HL.out.2.2)
            refine hK.out _ _ (HS.out _ hgs) (fun hHeld => ?_)
            clear hK K
            try simp only [Act.put, List.setIfInBounds_toArray, List.set_cons_zero, List.set_cons_succ]
            refine wpAnyH_done (by kernel_rfl) ?_ _
            have hEND := hgs
            clear hHeld
            clear hdr hEND hs1 hs2
            have HGF := Lib.hid (HPUT.out.2.1 rfl)
            have HF0 := Lib.hid hgs
            clear hgs hg6 hgrow6 hob
            have k0 := HGF.out.c0
            rw [show (gs ++ [x]).length = m by rw [List.length_append, HN.out]; exact hm] at k0
            clear HPUT
            obtain ⟨wF, hwF⟩ : ∃ wF, w6.setCell ⟨p, 0, none⟩ (.slice rgA m rcA) = wF := ⟨_, rfl⟩
            rw [hwF] at HGF HF0 k0 ⊢
            clear hwF
            have fs1 : IntKind.i64.wrap ((m : Int) - 1) = (n : Int) := by rw [IntWalk.i64_in _ (by omega)]; omega
            have fs2 : IntKind.i64.wrap (2 * (n : Int)) = 2 * (n : Int) := IntWalk.i64_in _ (by omega)
            clear hm
            go_wp2_with fail
            go_ret
            exact ⟨true, rgA, rcA, vis', by rw [HA.out, HN.out]; rfl, by rw [HA.out]; exact HGF.out, HVI.out, HF0.out⟩
          · rw [if_pos (by rfl)]
            go_simp
            have haA : V.grownBy ((World.alloc V (.cells #[.int .i64 x.1, .int .i64 x.2.1, .int .i64 x.2.2] 47)).drew) none := World.grownBy.trans (World.grownBy_alloc V _ none) (⟨rfl, rfl, rfl, Nat.le_refl _, fun _ _ _ => rfl⟩ : (World.alloc V (.cells #[.int .i64 x.1, .int .i64 x.2.1, .int .i64 x.2.2] 47)).grownBy ((World.alloc V (.cells #[.int .i64 x.1, .int .i64 x.2.1, .int .i64 x.2.2] 47)).drew) none)
            have hnA : GateAt ((World.alloc V (.cells #[.int .i64 x.1, .int .i64 x.2.1, .int .i64 x.2.2] 47)).drew) V.heap.size 0 x ∧ Ty47 ((World.alloc V (.cells #[.int .i64 x.1, .int .i64 x.2.1, .int .i64 x.2.2] 47)).drew) V.heap.size := ⟨gate_cells V x, ty_alloc V _⟩
            obtain ⟨WA, hWA⟩ : ∃ WA, (World.alloc V (.cells #[.int .i64 x.1, .int .i64 x.2.1, .int .i64 x.2.2] 47)).drew = WA := ⟨_, rfl⟩
            rw [hWA] at haA hnA ⊢
            clear hWA
            have HGA := Lib.hid (HGV.out.grown haA)
            have HNA := Lib.hid hnA
            clear hnA
            have hgA := World.grownBy.trans HV0.out haA
            refine hK.out _ _ (HS.out _ hgA) (fun hHeld => ?_)
            clear hK K
            try simp only [Act.put, List.setIfInBounds_toArray, List.set_cons_zero, List.set_cons_succ]
            refine wpAnyH_ready (rs := [4]) (by kernel_rfl) (by simp) ?_
            refine (AllReadyH.cons (o := { dst := some 64, op := Op.load 23 (Operand.tmp 63), type := 23, pos := "gates.go:93", after := #[{ on := 3, ground := Ground.data }], guard := none }) rfl (fun K hK => ?_) AllReadyH.nil)
            rw [if_pos (by rfl)]
            have hrow := (HGA.out).c0
            rw [HN.out] at hrow
            go_simp
            clear hrow
            refine hK.out _ _ (HS.out _ hgA) (fun hHeld => ?_)
            clear hK K
            try simp only [Act.put, List.setIfInBounds_toArray, List.set_cons_zero, List.set_cons_succ]
            refine wpAnyH_ready (rs := [7]) (by kernel_rfl) (by simp) ?_
            refine (AllReadyH.cons (o := { dst := some 67, op := Op.call { callee := Callee.builtin Builtin.append, args := #[Operand.tmp 64, Operand.tmp 66], argTypes := #[23, 23] }, type := 23, pos := "gates.go:93", after := #[{ on := 4, ground := Ground.data }, { on := 6, ground := Ground.data }], guard := none }) rfl (fun K hK => ?_) AllReadyH.nil)
            refine ready_append_gates (.tmp 64) (.tmp 66) rfl rfl (p + 1) _ n gs rfl (by have := HGA.out.row; unfold GRow at this; simp only [if_true] at this; rw [HN.out] at this; exact this) (some ⟨V.heap.size, 0, none⟩) 1 1 [x] rfl rfl (gate_news HNA.out.1 HNA.out.2) (by omega) HGA.out.low.2 (fun v' w6 hown' hgrow6 hat6 => ?_)
            obtain ⟨m, hm⟩ : ∃ m, n + 1 = m := ⟨_, rfl⟩
            rw [hm] at hown'
            obtain ⟨rgA, rcA, rfl⟩ := own_shape hown'
            have hob : ∀ k, (Value.slice va1 n vc1).ownBlock = some k → p + 1 ≤ k := fun k hk => by have h1 := HGA.out.row; unfold GRow at h1; simp only [if_true] at h1; rw [HN.out] at h1; exact (h1.lt k hk).1
            have hg6 := grown_own hgA hgrow6 (fun k hk => by have h1 := hob k hk; have h2 := HL.out.2.2; omega)
            have HPUT := Lib.hid (Grow.put (m := m) (by rw [List.length_append, HN.out]; exact hm) HGA.out hgrow6 (fun e => by have h1 := hob p e.symm; omega) hown')
            clear hown' hat6
            have hs1 := HPUT.out.2.2.1
            have hs2 := HPUT.out.2.2.2.1
            refine hK.out _ _ (HS.out _ hg6) (fun hHeld => ?_)
            clear hK K
            try simp only [Act.put, List.setIfInBounds_toArray, List.set_cons_zero, List.set_cons_succ]
            refine wpAnyH_take (i := 8) (oi := { dst := some 68, op := Op.nilCheck (Operand.tmp 60), type := 0, pos := "gates.go:93", after := #[{ on := 0, ground := Ground.data }, { on := 0, ground := Ground.phase }, { on := 1, ground := Ground.phase }, { on := 2, ground := Ground.phase }, { on := 3, ground := Ground.phase }, { on := 4, ground := Ground.phase }, { on := 5, ground := Ground.phase }, { on := 6, ground := Ground.phase }, { on := 7, ground := Ground.phase }], guard := none }) (v := ?_) rfl (by kernel_rfl) (by kernel_rfl) (by kernel_rfl) (fun _ _ _ h => h) (Or.inl ⟨by rfl, ?_⟩) (by assumption) ?_
            rotate_left 1
            · (intro W hSW; (try dsimp only at hSW); first | (go_simp; done) | (go_simp; with_reducible rfl))
            try simp only [Act.put, List.setIfInBounds_toArray, List.set_cons_zero, List.set_cons_succ]
            refine wpAnyH_take (i := 9) (oi := { dst := some 69, op := Op.fieldAddr 63 (Operand.tmp 68) 0, type := 0, pos := "gates.go:93", after := #[{ on := 8, ground := Ground.data }, { on := 0, ground := Ground.phase }, { on := 1, ground := Ground.phase }, { on := 2, ground := Ground.phase }, { on := 3, ground := Ground.phase }, { on := 4, ground := Ground.phase }, { on := 5, ground := Ground.phase }, { on := 6, ground := Ground.phase }, { on := 7, ground := Ground.phase }], guard := none }) (v := ?_) rfl (by kernel_rfl) (by kernel_rfl) (by kernel_rfl) (fun _ _ _ h => h) (Or.inl ⟨by rfl, ?_⟩) (by assumption) ?_
            rotate_left 1
            · (intro W hSW; (try dsimp only at hSW); first | (go_simp; done) | (go_simp; with_reducible rfl))
            try simp only [Act.put, List.setIfInBounds_toArray, List.set_cons_zero, List.set_cons_succ]
            refine wpAnyH_ready (rs := [10]) (by kernel_rfl) (by simp) ?_
            refine (AllReadyH.cons (o := { dst := none, op := Op.store 23 (Operand.tmp 69) (Operand.tmp 67), type := 0, pos := "gates.go:93", after := #[{ on := 9, ground := Ground.data }, { on := 7, ground := Ground.data }, { on := 7, ground := Ground.chain }, { on := 0, ground := Ground.phase }, { on := 1, ground := Ground.phase }, { on := 2, ground := Ground.phase }, { on := 3, ground := Ground.phase }, { on := 4, ground := Ground.phase }, { on := 5, ground := Ground.phase }, { on := 6, ground := Ground.phase }, { on := 7, ground := Ground.phase }], guard := none }) rfl (fun K hK => ?_) AllReadyH.nil)
            rw [if_pos (by rfl)]
            go_simp
            have hgs := grown_own hg6 (grown_set w6 p 0 (.slice rgA m rcA)) (fun k hk => by cases hk; exact HL.out.2.2)
            refine hK.out _ _ (HS.out _ hgs) (fun hHeld => ?_)
            clear hK K
            try simp only [Act.put, List.setIfInBounds_toArray, List.set_cons_zero, List.set_cons_succ]
            refine wpAnyH_done (by kernel_rfl) ?_ _
            have hEND := hgs
            clear hHeld
            clear hdr hEND hs1 hs2
            have HGF := Lib.hid (HPUT.out.2.1 rfl)
            have HF0 := Lib.hid hgs
            clear hgs hg6 hgrow6 hob
            have k0 := HGF.out.c0
            rw [show (gs ++ [x]).length = m by rw [List.length_append, HN.out]; exact hm] at k0
            clear HPUT
            obtain ⟨wF, hwF⟩ : ∃ wF, w6.setCell ⟨p, 0, none⟩ (.slice rgA m rcA) = wF := ⟨_, rfl⟩
            rw [hwF] at HGF HF0 k0 ⊢
            clear hwF
            have fs1 : IntKind.i64.wrap ((m : Int) - 1) = (n : Int) := by rw [IntWalk.i64_in _ (by omega)]; omega
            have fs2 : IntKind.i64.wrap (2 * (n : Int)) = 2 * (n : Int) := IntWalk.i64_in _ (by omega)
            clear hm
            go_wp2_with fail
            go_ret
            exact ⟨true, rgA, rcA, vis', by rw [HA.out, HN.out]; rfl, by rw [HA.out]; exact HGF.out, HVI.out, HF0.out⟩
    | true =>
      have k2 := HGR.out.c2
      have hNe := nilmap_ne
      go_wp2_with fail
      clear k0 k1 k2 hNe f1 f1b
      have HGV := HGR
      have HV0 := HG2
      have HVX := HX2
      have HS : Hid (∀ Wh : World, w0.grownBy Wh none → w0.grownBy Wh none) := Lib.hid (fun _ h => h)
      have hdr : w0.grownBy w2.drew none := World.grownBy.trans HV0.out (⟨rfl, rfl, rfl, Nat.le_refl _, fun _ _ _ => rfl⟩ : w2.grownBy w2.drew none)
      refine wp_region_held_drew (S := (fun Wh : World => w0.grownBy Wh none)) (by kernel_rfl) (HS.out _ hdr) (fun hHeld => ?_)
      refine wpAnyH_take (i := 0) (oi := { dst := some 60, op := Op.move (Operand.tmp 0), type := 53, pos := "gates.go:93", after := #[], guard := none }) (v := ?_) rfl (by kernel_rfl) (by kernel_rfl) (by kernel_rfl) (fun _ _ _ h => h) (Or.inl ⟨by rfl, ?_⟩) (by assumption) ?_
      rotate_left 1
      · (intro W hSW; (try dsimp only at hSW); first | (go_simp; done) | (go_simp; with_reducible rfl))
      try simp only [Act.put, List.setIfInBounds_toArray, List.set_cons_zero, List.set_cons_succ]
      refine wpAnyH_take (i := 1) (oi := { dst := some 61, op := Op.move (Operand.tmp 0), type := 53, pos := "gates.go:93", after := #[], guard := none }) (v := ?_) rfl (by kernel_rfl) (by kernel_rfl) (by kernel_rfl) (fun _ _ _ h => h) (Or.inl ⟨by rfl, ?_⟩) (by assumption) ?_
      rotate_left 1
      · (intro W hSW; (try dsimp only at hSW); first | (go_simp; done) | (go_simp; with_reducible rfl))
      try simp only [Act.put, List.setIfInBounds_toArray, List.set_cons_zero, List.set_cons_succ]
      refine wpAnyH_take (i := 2) (oi := { dst := some 62, op := Op.nilCheck (Operand.tmp 61), type := 0, pos := "gates.go:93", after := #[{ on := 1, ground := Ground.data }], guard := none }) (v := ?_) rfl (by kernel_rfl) (by kernel_rfl) (by kernel_rfl) (fun _ _ _ h => h) (Or.inl ⟨by rfl, ?_⟩) (by assumption) ?_
      rotate_left 1
      · (intro W hSW; (try dsimp only at hSW); first | (go_simp; done) | (go_simp; with_reducible rfl))
      try simp only [Act.put, List.setIfInBounds_toArray, List.set_cons_zero, List.set_cons_succ]
      refine wpAnyH_take (i := 3) (oi := { dst := some 63, op := Op.fieldAddr 63 (Operand.tmp 62) 0, type := 0, pos := "gates.go:93", after := #[{ on := 2, ground := Ground.data }], guard := none }) (v := ?_) rfl (by kernel_rfl) (by kernel_rfl) (by kernel_rfl) (fun _ _ _ h => h) (Or.inl ⟨by rfl, ?_⟩) (by assumption) ?_
      rotate_left 1
      · (intro W hSW; (try dsimp only at hSW); first | (go_simp; done) | (go_simp; with_reducible rfl))
      try simp only [Act.put, List.setIfInBounds_toArray, List.set_cons_zero, List.set_cons_succ]
      refine wpAnyH_ready (rs := [4, 5]) (by kernel_rfl) (by simp) ?_
      refine (AllReadyH.cons (o := { dst := some 64, op := Op.load 23 (Operand.tmp 63), type := 23, pos := "gates.go:93", after := #[{ on := 3, ground := Ground.data }], guard := none }) rfl (fun K hK => ?_) (AllReadyH.cons (o := { dst := some 65, op := Op.load 47 (Operand.tmp 4), type := 47, pos := "gates.go:93", after := #[], guard := none }) rfl (fun K hK => ?_) AllReadyH.nil))
      · rw [if_pos (by rfl)]
        have hrow := (HGV.out).c0
        rw [HN.out] at hrow
        go_simp
        clear hrow
        refine hK.out _ _ (HS.out _ hdr) (fun hHeld => ?_)
        clear hK K
        try simp only [Act.put, List.setIfInBounds_toArray, List.set_cons_zero, List.set_cons_succ]
        refine wpAnyH_ready (rs := [5]) (by kernel_rfl) (by simp) ?_
        refine (AllReadyH.cons (o := { dst := some 65, op := Op.load 47 (Operand.tmp 4), type := 47, pos := "gates.go:93", after := #[], guard := none }) rfl (fun K hK => ?_) AllReadyH.nil)
        rw [if_pos (by rfl)]
        obtain ⟨y0, y1, y2⟩ := HVX.out
        go_simp
        clear y0 y1 y2
        refine hK.out _ _ (HS.out _ hdr) (fun hHeld => ?_)
        clear hK K
        try simp only [Act.put, List.setIfInBounds_toArray, List.set_cons_zero, List.set_cons_succ]
        refine wpAnyH_ready (rs := [6]) (by kernel_rfl) (by simp) ?_
        refine (AllReadyH.cons (o := { dst := some 66, op := Op.buildSlice 23 1 #[(0, Operand.tmp 65)], type := 23, pos := "gates.go:93", after := #[{ on := 5, ground := Ground.data }], guard := none }) rfl (fun K hK => ?_) AllReadyH.nil)
        rw [if_pos (by rfl)]
        go_simp
        have haA : w2.grownBy ((World.alloc w2 (.cells #[.int .i64 x.1, .int .i64 x.2.1, .int .i64 x.2.2] 47)).drew) none := World.grownBy.trans (World.grownBy_alloc w2 _ none) (⟨rfl, rfl, rfl, Nat.le_refl _, fun _ _ _ => rfl⟩ : (World.alloc w2 (.cells #[.int .i64 x.1, .int .i64 x.2.1, .int .i64 x.2.2] 47)).grownBy ((World.alloc w2 (.cells #[.int .i64 x.1, .int .i64 x.2.1, .int .i64 x.2.2] 47)).drew) none)
        have hnA : GateAt ((World.alloc w2 (.cells #[.int .i64 x.1, .int .i64 x.2.1, .int .i64 x.2.2] 47)).drew) w2.heap.size 0 x ∧ Ty47 ((World.alloc w2 (.cells #[.int .i64 x.1, .int .i64 x.2.1, .int .i64 x.2.2] 47)).drew) w2.heap.size := ⟨gate_cells w2 x, ty_alloc w2 _⟩
        obtain ⟨WA, hWA⟩ : ∃ WA, (World.alloc w2 (.cells #[.int .i64 x.1, .int .i64 x.2.1, .int .i64 x.2.2] 47)).drew = WA := ⟨_, rfl⟩
        rw [hWA] at haA hnA ⊢
        clear hWA
        have HGA := Lib.hid (HGV.out.grown haA)
        have HNA := Lib.hid hnA
        clear hnA
        have hgA := World.grownBy.trans HV0.out haA
        refine hK.out _ _ (HS.out _ hgA) (fun hHeld => ?_)
        clear hK K
        try simp only [Act.put, List.setIfInBounds_toArray, List.set_cons_zero, List.set_cons_succ]
        refine wpAnyH_ready (rs := [7]) (by kernel_rfl) (by simp) ?_
        refine (AllReadyH.cons (o := { dst := some 67, op := Op.call { callee := Callee.builtin Builtin.append, args := #[Operand.tmp 64, Operand.tmp 66], argTypes := #[23, 23] }, type := 23, pos := "gates.go:93", after := #[{ on := 4, ground := Ground.data }, { on := 6, ground := Ground.data }], guard := none }) rfl (fun K hK => ?_) AllReadyH.nil)
        refine ready_append_gates (.tmp 64) (.tmp 66) rfl rfl (p + 1) _ n gs rfl (by have := HGA.out.row; unfold GRow at this; simp only [if_true] at this; rw [HN.out] at this; exact this) (some ⟨w2.heap.size, 0, none⟩) 1 1 [x] rfl rfl (gate_news HNA.out.1 HNA.out.2) (by omega) HGA.out.low.2 (fun v' w6 hown' hgrow6 hat6 => ?_)
        obtain ⟨m, hm⟩ : ∃ m, n + 1 = m := ⟨_, rfl⟩
        rw [hm] at hown'
        obtain ⟨rgA, rcA, rfl⟩ := own_shape hown'
        have hob : ∀ k, (Value.slice va n vc).ownBlock = some k → p + 1 ≤ k := fun k hk => by have h1 := HGA.out.row; unfold GRow at h1; simp only [if_true] at h1; rw [HN.out] at h1; exact (h1.lt k hk).1
        have hg6 := grown_own hgA hgrow6 (fun k hk => by have h1 := hob k hk; have h2 := HL.out.2.2; omega)
        have HPUT := Lib.hid (Grow.put (m := m) (by rw [List.length_append, HN.out]; exact hm) HGA.out hgrow6 (fun e => by have h1 := hob p e.symm; omega) hown')
        clear hown' hat6
        have hs1 := HPUT.out.2.2.1
        have hs2 := HPUT.out.2.2.2.1
        refine hK.out _ _ (HS.out _ hg6) (fun hHeld => ?_)
        clear hK K
        try simp only [Act.put, List.setIfInBounds_toArray, List.set_cons_zero, List.set_cons_succ]
        refine wpAnyH_take (i := 8) (oi := { dst := some 68, op := Op.nilCheck (Operand.tmp 60), type := 0, pos := "gates.go:93", after := #[{ on := 0, ground := Ground.data }, { on := 0, ground := Ground.phase }, { on := 1, ground := Ground.phase }, { on := 2, ground := Ground.phase }, { on := 3, ground := Ground.phase }, { on := 4, ground := Ground.phase }, { on := 5, ground := Ground.phase }, { on := 6, ground := Ground.phase }, { on := 7, ground := Ground.phase }], guard := none }) (v := ?_) rfl (by kernel_rfl) (by kernel_rfl) (by kernel_rfl) (fun _ _ _ h => h) (Or.inl ⟨by rfl, ?_⟩) (by assumption) ?_
        rotate_left 1
        · (intro W hSW; (try dsimp only at hSW); first | (go_simp; done) | (go_simp; with_reducible rfl))
        try simp only [Act.put, List.setIfInBounds_toArray, List.set_cons_zero, List.set_cons_succ]
        refine wpAnyH_take (i := 9) (oi := { dst := some 69, op := Op.fieldAddr 63 (Operand.tmp 68) 0, type := 0, pos := "gates.go:93", after := #[{ on := 8, ground := Ground.data }, { on := 0, ground := Ground.phase }, { on := 1, ground := Ground.phase }, { on := 2, ground := Ground.phase }, { on := 3, ground := Ground.phase }, { on := 4, ground := Ground.phase }, { on := 5, ground := Ground.phase }, { on := 6, ground := Ground.phase }, { on := 7, ground := Ground.phase }], guard := none }) (v := ?_) rfl (by kernel_rfl) (by kernel_rfl) (by kernel_rfl) (fun _ _ _ h => h) (Or.inl ⟨by rfl, ?_⟩) (by assumption) ?_
        rotate_left 1
        · (intro W hSW; (try dsimp only at hSW); first | (go_simp; done) | (go_simp; with_reducible rfl))
        try simp only [Act.put, List.setIfInBounds_toArray, List.set_cons_zero, List.set_cons_succ]
        refine wpAnyH_ready (rs := [10]) (by kernel_rfl) (by simp) ?_
        refine (AllReadyH.cons (o := { dst := none, op := Op.store 23 (Operand.tmp 69) (Operand.tmp 67), type := 0, pos := "gates.go:93", after := #[{ on := 9, ground := Ground.data }, { on := 7, ground := Ground.data }, { on := 7, ground := Ground.chain }, { on := 0, ground := Ground.phase }, { on := 1, ground := Ground.phase }, { on := 2, ground := Ground.phase }, { on := 3, ground := Ground.phase }, { on := 4, ground := Ground.phase }, { on := 5, ground := Ground.phase }, { on := 6, ground := Ground.phase }, { on := 7, ground := Ground.phase }], guard := none }) rfl (fun K hK => ?_) AllReadyH.nil)
        rw [if_pos (by rfl)]
        go_simp
        have hgs := grown_own hg6 (grown_set w6 p 0 (.slice rgA m rcA)) (fun k hk => by cases hk; exact HL.out.2.2)
        refine hK.out _ _ (HS.out _ hgs) (fun hHeld => ?_)
        clear hK K
        try simp only [Act.put, List.setIfInBounds_toArray, List.set_cons_zero, List.set_cons_succ]
        refine wpAnyH_done (by kernel_rfl) ?_ _
        have hEND := hgs
        clear hHeld
        clear hdr hEND hs1 hs2
        have HGF := Lib.hid (HPUT.out.2.1 rfl)
        have HF0 := Lib.hid hgs
        clear hgs hg6 hgrow6 hob
        have k0 := HGF.out.c0
        rw [show (gs ++ [x]).length = m by rw [List.length_append, HN.out]; exact hm] at k0
        clear HPUT
        obtain ⟨wF, hwF⟩ : ∃ wF, w6.setCell ⟨p, 0, none⟩ (.slice rgA m rcA) = wF := ⟨_, rfl⟩
        rw [hwF] at HGF HF0 k0 ⊢
        clear hwF
        have fs1 : IntKind.i64.wrap ((m : Int) - 1) = (n : Int) := by rw [IntWalk.i64_in _ (by omega)]; omega
        have fs2 : IntKind.i64.wrap (2 * (n : Int)) = 2 * (n : Int) := IntWalk.i64_in _ (by omega)
        clear hm
        go_wp2_with fail
        go_ret
        exact ⟨true, rgA, rcA, vis', by rw [HA.out, HN.out]; rfl, by rw [HA.out]; exact HGF.out, HVI.out, HF0.out⟩
      · rw [if_pos (by rfl)]
        obtain ⟨y0, y1, y2⟩ := HVX.out
        go_simp
        clear y0 y1 y2
        refine hK.out _ _ (HS.out _ hdr) (fun hHeld => ?_)
        clear hK K
        try simp only [Act.put, List.setIfInBounds_toArray, List.set_cons_zero, List.set_cons_succ]
        refine wpAnyH_ready (rs := [4, 6]) (by kernel_rfl) (by simp) ?_
        refine (AllReadyH.cons (o := { dst := some 64, op := Op.load 23 (Operand.tmp 63), type := 23, pos := "gates.go:93", after := #[{ on := 3, ground := Ground.data }], guard := none }) rfl (fun K hK => ?_) (AllReadyH.cons (o := { dst := some 66, op := Op.buildSlice 23 1 #[(0, Operand.tmp 65)], type := 23, pos := "gates.go:93", after := #[{ on := 5, ground := Ground.data }], guard := none }) rfl (fun K hK => ?_) AllReadyH.nil))
        · rw [if_pos (by rfl)]
          have hrow := (HGV.out).c0
          rw [HN.out] at hrow
          go_simp
          clear hrow
          refine hK.out _ _ (HS.out _ hdr) (fun hHeld => ?_)
          clear hK K
          try simp only [Act.put, List.setIfInBounds_toArray, List.set_cons_zero, List.set_cons_succ]
          refine wpAnyH_ready (rs := [6]) (by kernel_rfl) (by simp) ?_
          refine (AllReadyH.cons (o := { dst := some 66, op := Op.buildSlice 23 1 #[(0, Operand.tmp 65)], type := 23, pos := "gates.go:93", after := #[{ on := 5, ground := Ground.data }], guard := none }) rfl (fun K hK => ?_) AllReadyH.nil)
          rw [if_pos (by rfl)]
          go_simp
          have haA : w2.grownBy ((World.alloc w2 (.cells #[.int .i64 x.1, .int .i64 x.2.1, .int .i64 x.2.2] 47)).drew) none := World.grownBy.trans (World.grownBy_alloc w2 _ none) (⟨rfl, rfl, rfl, Nat.le_refl _, fun _ _ _ => rfl⟩ : (World.alloc w2 (.cells #[.int .i64 x.1, .int .i64 x.2.1, .int .i64 x.2.2] 47)).grownBy ((World.alloc w2 (.cells #[.int .i64 x.1, .int .i64 x.2.1, .int .i64 x.2.2] 47)).drew) none)
          have hnA : GateAt ((World.alloc w2 (.cells #[.int .i64 x.1, .int .i64 x.2.1, .int .i64 x.2.2] 47)).drew) w2.heap.size 0 x ∧ Ty47 ((World.alloc w2 (.cells #[.int .i64 x.1, .int .i64 x.2.1, .int .i64 x.2.2] 47)).drew) w2.heap.size := ⟨gate_cells w2 x, ty_alloc w2 _⟩
          obtain ⟨WA, hWA⟩ : ∃ WA, (World.alloc w2 (.cells #[.int .i64 x.1, .int .i64 x.2.1, .int .i64 x.2.2] 47)).drew = WA := ⟨_, rfl⟩
          rw [hWA] at haA hnA ⊢
          clear hWA
          have HGA := Lib.hid (HGV.out.grown haA)
          have HNA := Lib.hid hnA
          clear hnA
          have hgA := World.grownBy.trans HV0.out haA
          refine hK.out _ _ (HS.out _ hgA) (fun hHeld => ?_)
          clear hK K
          try simp only [Act.put, List.setIfInBounds_toArray, List.set_cons_zero, List.set_cons_succ]
          refine wpAnyH_ready (rs := [7]) (by kernel_rfl) (by simp) ?_
          refine (AllReadyH.cons (o := { dst := some 67, op := Op.call { callee := Callee.builtin Builtin.append, args := #[Operand.tmp 64, Operand.tmp 66], argTypes := #[23, 23] }, type := 23, pos := "gates.go:93", after := #[{ on := 4, ground := Ground.data }, { on := 6, ground := Ground.data }], guard := none }) rfl (fun K hK => ?_) AllReadyH.nil)
          refine ready_append_gates (.tmp 64) (.tmp 66) rfl rfl (p + 1) _ n gs rfl (by have := HGA.out.row; unfold GRow at this; simp only [if_true] at this; rw [HN.out] at this; exact this) (some ⟨w2.heap.size, 0, none⟩) 1 1 [x] rfl rfl (gate_news HNA.out.1 HNA.out.2) (by omega) HGA.out.low.2 (fun v' w6 hown' hgrow6 hat6 => ?_)
          obtain ⟨m, hm⟩ : ∃ m, n + 1 = m := ⟨_, rfl⟩
          rw [hm] at hown'
          obtain ⟨rgA, rcA, rfl⟩ := own_shape hown'
          have hob : ∀ k, (Value.slice va n vc).ownBlock = some k → p + 1 ≤ k := fun k hk => by have h1 := HGA.out.row; unfold GRow at h1; simp only [if_true] at h1; rw [HN.out] at h1; exact (h1.lt k hk).1
          have hg6 := grown_own hgA hgrow6 (fun k hk => by have h1 := hob k hk; have h2 := HL.out.2.2; omega)
          have HPUT := Lib.hid (Grow.put (m := m) (by rw [List.length_append, HN.out]; exact hm) HGA.out hgrow6 (fun e => by have h1 := hob p e.symm; omega) hown')
          clear hown' hat6
          have hs1 := HPUT.out.2.2.1
          have hs2 := HPUT.out.2.2.2.1
          refine hK.out _ _ (HS.out _ hg6) (fun hHeld => ?_)
          clear hK K
          try simp only [Act.put, List.setIfInBounds_toArray, List.set_cons_zero, List.set_cons_succ]
          refine wpAnyH_take (i := 8) (oi := { dst := some 68, op := Op.nilCheck (Operand.tmp 60), type := 0, pos := "gates.go:93", after := #[{ on := 0, ground := Ground.data }, { on := 0, ground := Ground.phase }, { on := 1, ground := Ground.phase }, { on := 2, ground := Ground.phase }, { on := 3, ground := Ground.phase }, { on := 4, ground := Ground.phase }, { on := 5, ground := Ground.phase }, { on := 6, ground := Ground.phase }, { on := 7, ground := Ground.phase }], guard := none }) (v := ?_) rfl (by kernel_rfl) (by kernel_rfl) (by kernel_rfl) (fun _ _ _ h => h) (Or.inl ⟨by rfl, ?_⟩) (by assumption) ?_
          rotate_left 1
          · (intro W hSW; (try dsimp only at hSW); first | (go_simp; done) | (go_simp; with_reducible rfl))
          try simp only [Act.put, List.setIfInBounds_toArray, List.set_cons_zero, List.set_cons_succ]
          refine wpAnyH_take (i := 9) (oi := { dst := some 69, op := Op.fieldAddr 63 (Operand.tmp 68) 0, type := 0, pos := "gates.go:93", after := #[{ on := 8, ground := Ground.data }, { on := 0, ground := Ground.phase }, { on := 1, ground := Ground.phase }, { on := 2, ground := Ground.phase }, { on := 3, ground := Ground.phase }, { on := 4, ground := Ground.phase }, { on := 5, ground := Ground.phase }, { on := 6, ground := Ground.phase }, { on := 7, ground := Ground.phase }], guard := none }) (v := ?_) rfl (by kernel_rfl) (by kernel_rfl) (by kernel_rfl) (fun _ _ _ h => h) (Or.inl ⟨by rfl, ?_⟩) (by assumption) ?_
          rotate_left 1
          · (intro W hSW; (try dsimp only at hSW); first | (go_simp; done) | (go_simp; with_reducible rfl))
          try simp only [Act.put, List.setIfInBounds_toArray, List.set_cons_zero, List.set_cons_succ]
          refine wpAnyH_ready (rs := [10]) (by kernel_rfl) (by simp) ?_
          refine (AllReadyH.cons (o := { dst := none, op := Op.store 23 (Operand.tmp 69) (Operand.tmp 67), type := 0, pos := "gates.go:93", after := #[{ on := 9, ground := Ground.data }, { on := 7, ground := Ground.data }, { on := 7, ground := Ground.chain }, { on := 0, ground := Ground.phase }, { on := 1, ground := Ground.phase }, { on := 2, ground := Ground.phase }, { on := 3, ground := Ground.phase }, { on := 4, ground := Ground.phase }, { on := 5, ground := Ground.phase }, { on := 6, ground := Ground.phase }, { on := 7, ground := Ground.phase }], guard := none }) rfl (fun K hK => ?_) AllReadyH.nil)
          rw [if_pos (by rfl)]
          go_simp
          have hgs := grown_own hg6 (grown_set w6 p 0 (.slice rgA m rcA)) (fun k hk => by cases hk; exact HL.out.2.2)
          refine hK.out _ _ (HS.out _ hgs) (fun hHeld => ?_)
          clear hK K
          try simp only [Act.put, List.setIfInBounds_toArray, List.set_cons_zero, List.set_cons_succ]
          refine wpAnyH_done (by kernel_rfl) ?_ _
          have hEND := hgs
          clear hHeld
          clear hdr hEND hs1 hs2
          have HGF := Lib.hid (HPUT.out.2.1 rfl)
          have HF0 := Lib.hid hgs
          clear hgs hg6 hgrow6 hob
          have k0 := HGF.out.c0
          rw [show (gs ++ [x]).length = m by rw [List.length_append, HN.out]; exact hm] at k0
          clear HPUT
          obtain ⟨wF, hwF⟩ : ∃ wF, w6.setCell ⟨p, 0, none⟩ (.slice rgA m rcA) = wF := ⟨_, rfl⟩
          rw [hwF] at HGF HF0 k0 ⊢
          clear hwF
          have fs1 : IntKind.i64.wrap ((m : Int) - 1) = (n : Int) := by rw [IntWalk.i64_in _ (by omega)]; omega
          have fs2 : IntKind.i64.wrap (2 * (n : Int)) = 2 * (n : Int) := IntWalk.i64_in _ (by omega)
          clear hm
          go_wp2_with fail
          go_ret
          exact ⟨true, rgA, rcA, vis', by rw [HA.out, HN.out]; rfl, by rw [HA.out]; exact HGF.out, HVI.out, HF0.out⟩
        · rw [if_pos (by rfl)]
          go_simp
          have haA : w2.grownBy ((World.alloc w2 (.cells #[.int .i64 x.1, .int .i64 x.2.1, .int .i64 x.2.2] 47)).drew) none := World.grownBy.trans (World.grownBy_alloc w2 _ none) (⟨rfl, rfl, rfl, Nat.le_refl _, fun _ _ _ => rfl⟩ : (World.alloc w2 (.cells #[.int .i64 x.1, .int .i64 x.2.1, .int .i64 x.2.2] 47)).grownBy ((World.alloc w2 (.cells #[.int .i64 x.1, .int .i64 x.2.1, .int .i64 x.2.2] 47)).drew) none)
          have hnA : GateAt ((World.alloc w2 (.cells #[.int .i64 x.1, .int .i64 x.2.1, .int .i64 x.2.2] 47)).drew) w2.heap.size 0 x ∧ Ty47 ((World.alloc w2 (.cells #[.int .i64 x.1, .int .i64 x.2.1, .int .i64 x.2.2] 47)).drew) w2.heap.size := ⟨gate_cells w2 x, ty_alloc w2 _⟩
          obtain ⟨WA, hWA⟩ : ∃ WA, (World.alloc w2 (.cells #[.int .i64 x.1, .int .i64 x.2.1, .int .i64 x.2.2] 47)).drew = WA := ⟨_, rfl⟩
          rw [hWA] at haA hnA ⊢
          clear hWA
          have HGA := Lib.hid (HGV.out.grown haA)
          have HNA := Lib.hid hnA
          clear hnA
          have hgA := World.grownBy.trans HV0.out haA
          refine hK.out _ _ (HS.out _ hgA) (fun hHeld => ?_)
          clear hK K
          try simp only [Act.put, List.setIfInBounds_toArray, List.set_cons_zero, List.set_cons_succ]
          refine wpAnyH_ready (rs := [4]) (by kernel_rfl) (by simp) ?_
          refine (AllReadyH.cons (o := { dst := some 64, op := Op.load 23 (Operand.tmp 63), type := 23, pos := "gates.go:93", after := #[{ on := 3, ground := Ground.data }], guard := none }) rfl (fun K hK => ?_) AllReadyH.nil)
          rw [if_pos (by rfl)]
          have hrow := (HGA.out).c0
          rw [HN.out] at hrow
          go_simp
          clear hrow
          refine hK.out _ _ (HS.out _ hgA) (fun hHeld => ?_)
          clear hK K
          try simp only [Act.put, List.setIfInBounds_toArray, List.set_cons_zero, List.set_cons_succ]
          refine wpAnyH_ready (rs := [7]) (by kernel_rfl) (by simp) ?_
          refine (AllReadyH.cons (o := { dst := some 67, op := Op.call { callee := Callee.builtin Builtin.append, args := #[Operand.tmp 64, Operand.tmp 66], argTypes := #[23, 23] }, type := 23, pos := "gates.go:93", after := #[{ on := 4, ground := Ground.data }, { on := 6, ground := Ground.data }], guard := none }) rfl (fun K hK => ?_) AllReadyH.nil)
          refine ready_append_gates (.tmp 64) (.tmp 66) rfl rfl (p + 1) _ n gs rfl (by have := HGA.out.row; unfold GRow at this; simp only [if_true] at this; rw [HN.out] at this; exact this) (some ⟨w2.heap.size, 0, none⟩) 1 1 [x] rfl rfl (gate_news HNA.out.1 HNA.out.2) (by omega) HGA.out.low.2 (fun v' w6 hown' hgrow6 hat6 => ?_)
          obtain ⟨m, hm⟩ : ∃ m, n + 1 = m := ⟨_, rfl⟩
          rw [hm] at hown'
          obtain ⟨rgA, rcA, rfl⟩ := own_shape hown'
          have hob : ∀ k, (Value.slice va n vc).ownBlock = some k → p + 1 ≤ k := fun k hk => by have h1 := HGA.out.row; unfold GRow at h1; simp only [if_true] at h1; rw [HN.out] at h1; exact (h1.lt k hk).1
          have hg6 := grown_own hgA hgrow6 (fun k hk => by have h1 := hob k hk; have h2 := HL.out.2.2; omega)
          have HPUT := Lib.hid (Grow.put (m := m) (by rw [List.length_append, HN.out]; exact hm) HGA.out hgrow6 (fun e => by have h1 := hob p e.symm; omega) hown')
          clear hown' hat6
          have hs1 := HPUT.out.2.2.1
          have hs2 := HPUT.out.2.2.2.1
          refine hK.out _ _ (HS.out _ hg6) (fun hHeld => ?_)
          clear hK K
          try simp only [Act.put, List.setIfInBounds_toArray, List.set_cons_zero, List.set_cons_succ]
          refine wpAnyH_take (i := 8) (oi := { dst := some 68, op := Op.nilCheck (Operand.tmp 60), type := 0, pos := "gates.go:93", after := #[{ on := 0, ground := Ground.data }, { on := 0, ground := Ground.phase }, { on := 1, ground := Ground.phase }, { on := 2, ground := Ground.phase }, { on := 3, ground := Ground.phase }, { on := 4, ground := Ground.phase }, { on := 5, ground := Ground.phase }, { on := 6, ground := Ground.phase }, { on := 7, ground := Ground.phase }], guard := none }) (v := ?_) rfl (by kernel_rfl) (by kernel_rfl) (by kernel_rfl) (fun _ _ _ h => h) (Or.inl ⟨by rfl, ?_⟩) (by assumption) ?_
          rotate_left 1
          · (intro W hSW; (try dsimp only at hSW); first | (go_simp; done) | (go_simp; with_reducible rfl))
          try simp only [Act.put, List.setIfInBounds_toArray, List.set_cons_zero, List.set_cons_succ]
          refine wpAnyH_take (i := 9) (oi := { dst := some 69, op := Op.fieldAddr 63 (Operand.tmp 68) 0, type := 0, pos := "gates.go:93", after := #[{ on := 8, ground := Ground.data }, { on := 0, ground := Ground.phase }, { on := 1, ground := Ground.phase }, { on := 2, ground := Ground.phase }, { on := 3, ground := Ground.phase }, { on := 4, ground := Ground.phase }, { on := 5, ground := Ground.phase }, { on := 6, ground := Ground.phase }, { on := 7, ground := Ground.phase }], guard := none }) (v := ?_) rfl (by kernel_rfl) (by kernel_rfl) (by kernel_rfl) (fun _ _ _ h => h) (Or.inl ⟨by rfl, ?_⟩) (by assumption) ?_
          rotate_left 1
          · (intro W hSW; (try dsimp only at hSW); first | (go_simp; done) | (go_simp; with_reducible rfl))
          try simp only [Act.put, List.setIfInBounds_toArray, List.set_cons_zero, List.set_cons_succ]
          refine wpAnyH_ready (rs := [10]) (by kernel_rfl) (by simp) ?_
          refine (AllReadyH.cons (o := { dst := none, op := Op.store 23 (Operand.tmp 69) (Operand.tmp 67), type := 0, pos := "gates.go:93", after := #[{ on := 9, ground := Ground.data }, { on := 7, ground := Ground.data }, { on := 7, ground := Ground.chain }, { on := 0, ground := Ground.phase }, { on := 1, ground := Ground.phase }, { on := 2, ground := Ground.phase }, { on := 3, ground := Ground.phase }, { on := 4, ground := Ground.phase }, { on := 5, ground := Ground.phase }, { on := 6, ground := Ground.phase }, { on := 7, ground := Ground.phase }], guard := none }) rfl (fun K hK => ?_) AllReadyH.nil)
          rw [if_pos (by rfl)]
          go_simp
          have hgs := grown_own hg6 (grown_set w6 p 0 (.slice rgA m rcA)) (fun k hk => by cases hk; exact HL.out.2.2)
          refine hK.out _ _ (HS.out _ hgs) (fun hHeld => ?_)
          clear hK K
          try simp only [Act.put, List.setIfInBounds_toArray, List.set_cons_zero, List.set_cons_succ]
          refine wpAnyH_done (by kernel_rfl) ?_ _
          have hEND := hgs
          clear hHeld
          clear hdr hEND hs1 hs2
          have HGF := Lib.hid (HPUT.out.2.1 rfl)
          have HF0 := Lib.hid hgs
          clear hgs hg6 hgrow6 hob
          have k0 := HGF.out.c0
          rw [show (gs ++ [x]).length = m by rw [List.length_append, HN.out]; exact hm] at k0
          clear HPUT
          obtain ⟨wF, hwF⟩ : ∃ wF, w6.setCell ⟨p, 0, none⟩ (.slice rgA m rcA) = wF := ⟨_, rfl⟩
          rw [hwF] at HGF HF0 k0 ⊢
          clear hwF
          have fs1 : IntKind.i64.wrap ((m : Int) - 1) = (n : Int) := by rw [IntWalk.i64_in _ (by omega)]; omega
          have fs2 : IntKind.i64.wrap (2 * (n : Int)) = 2 * (n : Int) := IntWalk.i64_in _ (by omega)
          clear hm
          go_wp2_with fail
          go_ret
          exact ⟨true, rgA, rcA, vis', by rw [HA.out, HN.out]; rfl, by rw [HA.out]; exact HGF.out, HVI.out, HF0.out⟩

end Go.Proofs.Ytllljcbdinckgaa

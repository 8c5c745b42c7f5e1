/- Sorter: what its closure does to the row and the growing circuit. -/
import Derived.Test.YthagoihpppppkaaOG
namespace Go.Proofs.Ythagoihpppppkaa
open Go.RowKit Go.Maps

/-- A row of integers that is changed in place. -/
structure IArr (w : World) (b : Nat) (l : List Int) : Prop where
  cells : ∀ (j : Nat) (z : Int), l[j]? = some z → w.cell? ⟨b, j, none⟩ = some (.int .i64 z)
  fr : ∀ o, w.frozen? ⟨b, o, none⟩ = false
  low : b < w.heap.size
theorem IArr.off {M : Nat → Prop} {w w' : World} {b : Nat} {l : List Int} (h : IArr w b l) (ho : Off M w w') (hm : ¬ M b) : IArr w' b l :=
  ⟨fun j z hj => ho.cell (h.cells j z hj) hm, fun o => (ho.frozen h.low hm o).trans (h.fr o), Nat.lt_of_lt_of_le h.low ho.size⟩
theorem IArr.set {w : World} {b : Nat} {l : List Int} (h : IArr w b l) {j : Nat} {z0 : Int} (hj : l[j]? = some z0) (z : Int) : IArr (w.setCell ⟨b, j, none⟩ (.int .i64 z)) b (l.set j z) := by
  have hjl : j < l.length := (List.getElem?_eq_some_iff.1 hj).1
  refine ⟨fun k u hk => ?_, fun o => by rw [World.frozen?_setCell]; exact h.fr o, Nat.lt_of_lt_of_le h.low (grown_set w b j _).size⟩
  by_cases e : k = j
  · subst e
    rw [List.getElem?_set_self hjl] at hk
    cases hk
    exact World.cell?_setCell_same _ _ _ (h.cells k z0 hj)
  · rw [List.getElem?_set_ne (fun e2 => e e2.symm)] at hk
    rw [World.cell?_setCell_other _ _ _ _ (ne_at (fun e2 => e e2.symm))]
    exact h.cells k u hk
/-- What the closure may turn: the growing circuit's blocks and the row. -/
def NB (M : Nat → Prop) (n br k : Nat) : Prop := M k ∨ (0 < n ∧ k = br)
/-- Sorter's state: the boxes of the row and of the builder, the row, the growing circuit. -/
structure StS (bo bw q p br : Nat) (oa : Option Addr) (oc n : Nat) (M : Nat → Prop) (w : World) (gs : List Gt) (out : List Int) (hi : Int) : Prop where
  o0 : w.cell? ⟨bo, 0, none⟩ = some (.slice oa n oc)
  w0 : w.cell? ⟨bw, 0, none⟩ = some (.pointer (some ⟨q, 0, none⟩))
  q0 : w.cell? ⟨q, 0, none⟩ = some (.pointer (some ⟨p, 0, none⟩))
  len : out.length = n
  row : n = 0 ∨ (oa = some ⟨br, 0, none⟩ ∧ n ≤ oc ∧ IArr w br out ∧ ¬ M br)
  gx : GX p M w gs hi
  fo : ¬ NB M n br bo
  fw : ¬ NB M n br bw
  fq : ¬ NB M n br q
  pb : n = 0 ∨ p ≤ br
/-- What is not a growing circuit's block because it does not exist may be left out. -/
theorem GX.cut {p : Nat} {M : Nat → Prop} {w : World} {gs : List Gt} {hi : Int} (h : GX p M w gs hi) : GX p (fun k => M k ∧ k < w.heap.size) w gs hi := by
  obtain ⟨o, a, c, b, v, h1, h2, h3⟩ := h
  refine ⟨o, a, c, b, v, h1, h2, fun k hk => ⟨h3 k hk, ?_⟩⟩
  rcases hk with rfl | ⟨ho, ad, e1, rfl⟩ | e
  · exact lies_lt h1.c0
  · subst ho
    have hr := h1.row
    unfold GRow at hr
    simp only [if_true] at hr
    exact (hr.lt ad.block (by rw [e1]; rfl)).2
  · exact (h1.ix k e).2.lt
def grewM (M : Nat → Prop) (w w' : World) (k : Nat) : Prop := (M k ∨ w.heap.size ≤ k) ∧ k < w'.heap.size
/-- Others' steps leave it. -/
theorem StS.far {bo bw q p br : Nat} {oa : Option Addr} {oc n : Nat} {M : Nat → Prop} {w w' : World} {gs : List Gt} {out : List Int} {hi : Int} {r : Option Nat} (h : StS bo bw q p br oa oc n M w gs out hi) (hg : w.grownBy w' r) (hr : ∀ x, r = some x → p ≤ x ∧ x ≠ bo ∧ x ≠ bw ∧ x ≠ q ∧ ¬ NB M n br x) : StS bo bw q p br oa oc n M w' gs out hi := by
  have ho : Off (fun k => r = some k) w w' := Off.of hg (fun k e => e)
  refine ⟨ho.cell h.o0 (fun e => (hr _ e).2.1 rfl), ho.cell h.w0 (fun e => (hr _ e).2.2.1 rfl), ho.cell h.q0 (fun e => (hr _ e).2.2.2.1 rfl), h.len, ?_, h.gx.far hg (fun x e => ⟨(hr x e).1, fun m => (hr x e).2.2.2.2 (.inl m)⟩), h.fo, h.fw, h.fq, h.pb⟩
  rcases Nat.eq_zero_or_pos n with h0 | h0
  · exact .inl h0
  · rcases h.row with h1 | ⟨h1, h2, h3, h4⟩
    · omega
    · exact .inr ⟨h1, h2, h3.off ho (fun e => (hr _ e).2.2.2.2 (.inr ⟨h0, rfl⟩)), h4⟩
theorem run_cmpP_no {out : List Int} {i j : Nat} (h : ¬ j < out.length) (gs : List Gt) : (cmpP out (i, j)).run gs = (gs, out) := by unfold cmpP; rw [if_neg h]; rfl
theorem run_cmpP_yes {out : List Int} {i j : Nat} {x y : Int} (hx : out[i]? = some x) (hy : out[j]? = some y) (gs : List Gt) : (cmpP out (i, j)).run gs = ((andC (orC gs x y).1 x y).1, (out.set i (orC gs x y).2).set j (andC (orC gs x y).1 x y).2) := by
  have hl := (List.getElem?_eq_some_iff.1 hy).1
  unfold cmpP
  rw [if_pos hl, Pr.run_bind, Pr.run_bind, run_orP, run_andP]
  simp only [List.getD_eq_getElem?_getD, hx, hy, Option.getD_some]
  rfl

set_option maxRecDepth 100000 in
set_option maxHeartbeats 4000000 in
theorem cmp_calls (bo bw q p br : Nat) (oa : Option Addr) (oc n : Nat) (M : Nat → Prop) (w : World) (gs : List Gt) (out : List Int) (hi : Int) (i j : Nat) (h : StS bo bw q p br oa oc n M w gs out hi) (hG : Good gs) (hl : gs.length ≤ 980) (hok : ∀ r ∈ out, r ≤ 9223372036854775807) (hij : i < j) (hn : n ≤ 1000) (hj : j ≤ 1000) :
    Calls Try.prog 37 #[.int .i64 (i : Int), .int .i64 (j : Int), .pointer (some ⟨bo, 0, none⟩), .pointer (some ⟨bw, 0, none⟩)] w fun e w' => e = .returned (.tuple #[]) ∧ ∃ M', StS bo bw q p br oa oc n M' w' ((cmpP out (i, j)).run gs).1 ((cmpP out (i, j)).run gs).2 (hi + 2000) ∧ Off (NB M n br) w w' ∧ ∀ k, NB M' n br k → NB M n br k ∨ w.heap.size ≤ k := by
  have HH := Lib.hid h
  have o0 := h.o0
  by_cases hjn : j < n
  · have f1 : decide (j < n) = true := decide_eq_true hjn
    have f2 : decide ((j : Int) < (n : Int)) = true := decide_eq_true (by omega)
    obtain ⟨x, hx⟩ : ∃ x, out[i]? = some x := ⟨_, List.getElem?_eq_getElem (by rw [h.len]; omega)⟩
    obtain ⟨y, hy⟩ : ∃ y, out[j]? = some y := ⟨_, List.getElem?_eq_getElem (by rw [h.len]; omega)⟩
    have HR := Lib.hid (run_cmpP_yes hx hy gs)
    have HX := Lib.hid (And.intro (hok x (List.mem_of_getElem? hx)) (hok y (List.mem_of_getElem? hy)))
    have hrow := h.row.resolve_left (by omega)
    obtain ⟨rfl, hnc, hia, hmb⟩ := hrow
    have HIA := Lib.hid (And.intro hia (And.intro hx hy))
    have HMB := Lib.hid hmb
    have hpb := h.pb.resolve_left (by omega)
    obtain ⟨r1, hr1⟩ : ∃ r, orC gs x y = r := ⟨_, rfl⟩
    obtain ⟨g1, v1⟩ := r1
    obtain ⟨r2, hr2⟩ : ∃ r, andC g1 x y = r := ⟨_, rfl⟩
    obtain ⟨g2, v2⟩ := r2
    have HE1 := Lib.hid hr1
    have HE2 := Lib.hid hr2
    have HRR := Lib.hid (show (cmpP out (i, j)).run gs = (g2, (out.set i v1).set j v2) by rw [HR.out, hr1]; simp only; rw [hr2])
    have HG1 := Lib.hid (show Good g1 ∧ g1.length ≤ 990 from by
      have e := step_or hG x y
      have e2 := @or_len gs x y
      rw [hr1] at e e2; simp only at e2
      exact ⟨e.good, by omega⟩)
    have HGD := Lib.hid (And.intro hG hl)
    have HC1 := Lib.hid (fun (U : World) (hU : GX p M U gs hi) => show Calls Try.prog 38 #[.pointer (some ⟨p, 0, none⟩), .int .i64 x, .int .i64 y] U (fun e w' => e = .returned (.int .i64 v1) ∧ PX p M U g1 (hi + 1000) w') from
      (gor_calls gs x y p M U hi hU HGD.out.1 (by have := HGD.out.2; omega) HX.out.1 HX.out.2).mono (fun e w' hh => by
        rw [HE1.out] at hh
        exact ⟨hh.1, hh.2.1.wide (fun k hk => hk) (by have := HGD.out.2; omega), hh.2.2⟩))
    have HC2 := Lib.hid (fun (M1 : Nat → Prop) (U : World) (hU : GX p M1 U g1 (hi + 1000)) => show Calls Try.prog 39 #[.pointer (some ⟨p, 0, none⟩), .int .i64 x, .int .i64 y] U (fun e w' => e = .returned (.int .i64 v2) ∧ PX p M1 U g2 (hi + 2000) w') from
      (gand_calls g1 x y p M1 U (hi + 1000) hU HG1.out.1 HG1.out.2).mono (fun e w' hh => by
        rw [HE2.out] at hh
        exact ⟨hh.1, hh.2.1.wide (fun k hk => hk) (by have := HG1.out.2; omega), hh.2.2⟩))
    have HN := Lib.hid (And.intro (show 0 < n by omega) (And.intro hij hjn))
    have HZ := Lib.hid (And.intro HH.out.fo (And.intro HH.out.fw HH.out.fq))
    have i0 : (0 : Int) ≤ (i : Int) := by omega
    have i1 : (i : Int) < (n : Int) := by omega
    have j0 : (0 : Int) ≤ (j : Int) := by omega
    have j1 : (j : Int) < (n : Int) := by omega
    clear h hok hG hl hij hn hj hjn hx hy hr1 hr2 hia hmb HR
    go_enter Try.func37, Try.ntmps37
    go_wp2_with fail
    clear o0 f1 f2
    have HNC := Lib.hid hnc
    have HPB := Lib.hid hpb
    clear hnc hpb
    have HS := Lib.hid (fun (Wh : World) (hWh : Off (NB M n br) w Wh) => (⟨hWh.cell HH.out.o0 HH.out.fo, hWh.cell HH.out.w0 HH.out.fw, hWh.cell HH.out.q0 HH.out.fq⟩ : (fun Wh : World => Wh.cell? ⟨bo, 0, none⟩ = some (.slice (some ⟨br, 0, none⟩) n oc) ∧ Wh.cell? ⟨bw, 0, none⟩ = some (.pointer (some ⟨q, 0, none⟩)) ∧ Wh.cell? ⟨q, 0, none⟩ = some (.pointer (some ⟨p, 0, none⟩))) Wh))
    have HT := Lib.hid (fun (Wh : World) (hWh : Off M w Wh) => (⟨hWh.cell (HIA.out.1.cells i x HIA.out.2.1) HMB.out, hWh.cell (HIA.out.1.cells j y HIA.out.2.2) HMB.out⟩ : (fun Wh : World => Wh.cell? ⟨br, i, none⟩ = some (.int .i64 x) ∧ Wh.cell? ⟨br, j, none⟩ = some (.int .i64 y)) Wh))
    have hdr0 : w.grownBy w.drew none := ⟨rfl, rfl, rfl, Nat.le_refl _, fun _ _ _ => rfl⟩
    have hdr : Off M w w.drew := Off.of hdr0 (fun k e => by cases e)
    refine wp_region_gone_drew (S := (fun Wh : World => Wh.cell? ⟨bo, 0, none⟩ = some (.slice (some ⟨br, 0, none⟩) n oc) ∧ Wh.cell? ⟨bw, 0, none⟩ = some (.pointer (some ⟨q, 0, none⟩)) ∧ Wh.cell? ⟨q, 0, none⟩ = some (.pointer (some ⟨p, 0, none⟩)))) (T := (fun Wh : World => Wh.cell? ⟨br, i, none⟩ = some (.int .i64 x) ∧ Wh.cell? ⟨br, j, none⟩ = some (.int .i64 y))) (m := 30) (by kernel_rfl) ⟨HS.out _ (hdr.mono (fun k _ hk => .inl hk)), HT.out _ hdr⟩ (fun hHeld => ?_)
    refine wpAnyG_take (i := 0) (oi := { dst := some 10, op := Op.load 33 (Operand.tmp 2), type := 33, pos := "count.go:39", after := #[], guard := none }) (v := ?_) rfl (by decide) (by kernel_rfl) (by kernel_rfl) (by kernel_rfl) (fun _ _ _ h => h) (Or.inl ⟨by rfl, ?_⟩) (by assumption) ?_
    rotate_left 1
    · (intro W hSW; (try dsimp only at hSW); first | (go_simp; done) | (go_simp; with_reducible rfl))
    try simp only [Act.put, List.setIfInBounds_toArray, List.set_cons_zero, List.set_cons_succ]
    refine wpAnyG_take (i := 1) (oi := { dst := some 11, op := Op.move (Operand.tmp 0), type := 3, pos := "count.go:39", after := #[], guard := none }) (v := ?_) rfl (by decide) (by kernel_rfl) (by kernel_rfl) (by kernel_rfl) (fun _ _ _ h => h) (Or.inl ⟨by rfl, ?_⟩) (by assumption) ?_
    rotate_left 1
    · (intro W hSW; (try dsimp only at hSW); first | (go_simp; done) | (go_simp; with_reducible rfl))
    try simp only [Act.put, List.setIfInBounds_toArray, List.set_cons_zero, List.set_cons_succ]
    refine wpAnyG_take (i := 2) (oi := { dst := some 12, op := Op.load 33 (Operand.tmp 2), type := 33, pos := "count.go:39", after := #[], guard := none }) (v := ?_) rfl (by decide) (by kernel_rfl) (by kernel_rfl) (by kernel_rfl) (fun _ _ _ h => h) (Or.inl ⟨by rfl, ?_⟩) (by assumption) ?_
    rotate_left 1
    · (intro W hSW; (try dsimp only at hSW); first | (go_simp; done) | (go_simp; with_reducible rfl))
    try simp only [Act.put, List.setIfInBounds_toArray, List.set_cons_zero, List.set_cons_succ]
    refine wpAnyG_take (i := 3) (oi := { dst := some 13, op := Op.move (Operand.tmp 1), type := 3, pos := "count.go:39", after := #[{ on := 31, ground := Ground.gcOnly Departure.lateStores }], guard := none }) (v := ?_) rfl (by decide) (by kernel_rfl) (by kernel_rfl) (by kernel_rfl) (fun _ _ _ h => h) (Or.inl ⟨by rfl, ?_⟩) (by assumption) ?_
    rotate_left 1
    · (intro W hSW; (try dsimp only at hSW); first | (go_simp; done) | (go_simp; with_reducible rfl))
    try simp only [Act.put, List.setIfInBounds_toArray, List.set_cons_zero, List.set_cons_succ]
    refine wpAnyG_take (i := 4) (oi := { dst := some 14, op := Op.load 58 (Operand.tmp 3), type := 58, pos := "count.go:39", after := #[], guard := none }) (v := ?_) rfl (by decide) (by kernel_rfl) (by kernel_rfl) (by kernel_rfl) (fun _ _ _ h => h) (Or.inl ⟨by rfl, ?_⟩) (by assumption) ?_
    rotate_left 1
    · (intro W hSW; (try dsimp only at hSW); first | (go_simp; done) | (go_simp; with_reducible rfl))
    try simp only [Act.put, List.setIfInBounds_toArray, List.set_cons_zero, List.set_cons_succ]
    refine wpAnyG_take (i := 5) (oi := { dst := some 15, op := Op.nilCheck (Operand.tmp 14), type := 0, pos := "count.go:39", after := #[{ on := 4, ground := Ground.data }], guard := none }) (v := ?_) rfl (by decide) (by kernel_rfl) (by kernel_rfl) (by kernel_rfl) (fun _ _ _ h => h) (Or.inl ⟨by rfl, ?_⟩) (by assumption) ?_
    rotate_left 1
    · (intro W hSW; (try dsimp only at hSW); first | (go_simp; done) | (go_simp; with_reducible rfl))
    try simp only [Act.put, List.setIfInBounds_toArray, List.set_cons_zero, List.set_cons_succ]
    refine wpAnyG_take (i := 6) (oi := { dst := some 16, op := Op.fieldAddr 65 (Operand.tmp 15) 0, type := 0, pos := "count.go:39", after := #[{ on := 5, ground := Ground.data }], guard := none }) (v := ?_) rfl (by decide) (by kernel_rfl) (by kernel_rfl) (by kernel_rfl) (fun _ _ _ h => h) (Or.inl ⟨by rfl, ?_⟩) (by assumption) ?_
    rotate_left 1
    · (intro W hSW; (try dsimp only at hSW); first | (go_simp; done) | (go_simp; with_reducible rfl))
    try simp only [Act.put, List.setIfInBounds_toArray, List.set_cons_zero, List.set_cons_succ]
    refine wpAnyG_take (i := 7) (oi := { dst := some 17, op := Op.load 63 (Operand.tmp 16), type := 63, pos := "count.go:39", after := #[{ on := 6, ground := Ground.data }], guard := none }) (v := ?_) rfl (by decide) (by kernel_rfl) (by kernel_rfl) (by kernel_rfl) (fun _ _ _ h => h) (Or.inl ⟨by rfl, ?_⟩) (by assumption) ?_
    rotate_left 1
    · (intro W hSW; (try dsimp only at hSW); first | (go_simp; done) | (go_simp; with_reducible rfl))
    try simp only [Act.put, List.setIfInBounds_toArray, List.set_cons_zero, List.set_cons_succ]
    refine wpAnyG_take (i := 8) (oi := { dst := some 18, op := Op.load 33 (Operand.tmp 2), type := 33, pos := "count.go:39", after := #[], guard := none }) (v := ?_) rfl (by decide) (by kernel_rfl) (by kernel_rfl) (by kernel_rfl) (fun _ _ _ h => h) (Or.inl ⟨by rfl, ?_⟩) (by assumption) ?_
    rotate_left 1
    · (intro W hSW; (try dsimp only at hSW); first | (go_simp; done) | (go_simp; with_reducible rfl))
    try simp only [Act.put, List.setIfInBounds_toArray, List.set_cons_zero, List.set_cons_succ]
    refine wpAnyG_take (i := 9) (oi := { dst := some 19, op := Op.move (Operand.tmp 0), type := 3, pos := "count.go:39", after := #[], guard := none }) (v := ?_) rfl (by decide) (by kernel_rfl) (by kernel_rfl) (by kernel_rfl) (fun _ _ _ h => h) (Or.inl ⟨by rfl, ?_⟩) (by assumption) ?_
    rotate_left 1
    · (intro W hSW; (try dsimp only at hSW); first | (go_simp; done) | (go_simp; with_reducible rfl))
    try simp only [Act.put, List.setIfInBounds_toArray, List.set_cons_zero, List.set_cons_succ]
    refine wpAnyG_take (i := 10) (oi := { dst := some 20, op := Op.indexAddr 33 (Operand.tmp 18) (Operand.tmp 19), type := 0, pos := "count.go:39", after := #[{ on := 8, ground := Ground.data }, { on := 9, ground := Ground.data }], guard := none }) (v := ?_) rfl (by decide) (by kernel_rfl) (by kernel_rfl) (by kernel_rfl) (fun _ _ _ h => h) (Or.inl ⟨by rfl, ?_⟩) (by assumption) ?_
    rotate_left 1
    · (intro W hSW; (try dsimp only at hSW); first | (go_simp; done) | (go_simp; with_reducible rfl))
    try simp only [Act.put, List.setIfInBounds_toArray, List.set_cons_zero, List.set_cons_succ]
    refine wpAnyG_takeT (i := 11) (oi := { dst := some 21, op := Op.load 3 (Operand.tmp 20), type := 3, pos := "count.go:39", after := #[{ on := 10, ground := Ground.data }], guard := none }) (v := ?_) rfl rfl (by kernel_rfl) (by decide) (by kernel_rfl) (by kernel_rfl) (by kernel_rfl) (by kernel_rfl) (fun _ _ _ h => h) (Or.inl ⟨by rfl, ?_⟩) (by assumption) ?_
    rotate_left 1
    · (intro W hSW; (try dsimp only at hSW); first | (go_simp; done) | (go_simp; with_reducible rfl))
    try simp only [Act.put, List.setIfInBounds_toArray, List.set_cons_zero, List.set_cons_succ]
    refine wpAnyG_take (i := 12) (oi := { dst := some 22, op := Op.load 33 (Operand.tmp 2), type := 33, pos := "count.go:39", after := #[], guard := none }) (v := ?_) rfl (by decide) (by kernel_rfl) (by kernel_rfl) (by kernel_rfl) (fun _ _ _ h => h) (Or.inl ⟨by rfl, ?_⟩) (by assumption) ?_
    rotate_left 1
    · (intro W hSW; (try dsimp only at hSW); first | (go_simp; done) | (go_simp; with_reducible rfl))
    try simp only [Act.put, List.setIfInBounds_toArray, List.set_cons_zero, List.set_cons_succ]
    refine wpAnyG_take (i := 13) (oi := { dst := some 23, op := Op.move (Operand.tmp 1), type := 3, pos := "count.go:39", after := #[], guard := none }) (v := ?_) rfl (by decide) (by kernel_rfl) (by kernel_rfl) (by kernel_rfl) (fun _ _ _ h => h) (Or.inl ⟨by rfl, ?_⟩) (by assumption) ?_
    rotate_left 1
    · (intro W hSW; (try dsimp only at hSW); first | (go_simp; done) | (go_simp; with_reducible rfl))
    try simp only [Act.put, List.setIfInBounds_toArray, List.set_cons_zero, List.set_cons_succ]
    refine wpAnyG_take (i := 14) (oi := { dst := some 24, op := Op.indexAddr 33 (Operand.tmp 22) (Operand.tmp 23), type := 0, pos := "count.go:39", after := #[{ on := 12, ground := Ground.data }, { on := 13, ground := Ground.data }], guard := none }) (v := ?_) rfl (by decide) (by kernel_rfl) (by kernel_rfl) (by kernel_rfl) (fun _ _ _ h => h) (Or.inl ⟨by rfl, ?_⟩) (by assumption) ?_
    rotate_left 1
    · (intro W hSW; (try dsimp only at hSW); first | (go_simp; done) | (go_simp; with_reducible rfl))
    try simp only [Act.put, List.setIfInBounds_toArray, List.set_cons_zero, List.set_cons_succ]
    refine wpAnyG_takeT (i := 15) (oi := { dst := some 25, op := Op.load 3 (Operand.tmp 24), type := 3, pos := "count.go:39", after := #[{ on := 14, ground := Ground.data }], guard := none }) (v := ?_) rfl rfl (by kernel_rfl) (by decide) (by kernel_rfl) (by kernel_rfl) (by kernel_rfl) (by kernel_rfl) (fun _ _ _ h => h) (Or.inl ⟨by rfl, ?_⟩) (by assumption) ?_
    rotate_left 1
    · (intro W hSW; (try dsimp only at hSW); first | (go_simp; done) | (go_simp; with_reducible rfl))
    try simp only [Act.put, List.setIfInBounds_toArray, List.set_cons_zero, List.set_cons_succ]
    refine wpAnyG_take (i := 17) (oi := { dst := some 27, op := Op.load 58 (Operand.tmp 3), type := 58, pos := "count.go:39", after := #[], guard := none }) (v := ?_) rfl (by decide) (by kernel_rfl) (by kernel_rfl) (by kernel_rfl) (fun _ _ _ h => h) (Or.inl ⟨by rfl, ?_⟩) (by assumption) ?_
    rotate_left 1
    · (intro W hSW; (try dsimp only at hSW); first | (go_simp; done) | (go_simp; with_reducible rfl))
    try simp only [Act.put, List.setIfInBounds_toArray, List.set_cons_zero, List.set_cons_succ]
    refine wpAnyG_take (i := 18) (oi := { dst := some 28, op := Op.nilCheck (Operand.tmp 27), type := 0, pos := "count.go:39", after := #[{ on := 17, ground := Ground.data }], guard := none }) (v := ?_) rfl (by decide) (by kernel_rfl) (by kernel_rfl) (by kernel_rfl) (fun _ _ _ h => h) (Or.inl ⟨by rfl, ?_⟩) (by assumption) ?_
    rotate_left 1
    · (intro W hSW; (try dsimp only at hSW); first | (go_simp; done) | (go_simp; with_reducible rfl))
    try simp only [Act.put, List.setIfInBounds_toArray, List.set_cons_zero, List.set_cons_succ]
    refine wpAnyG_take (i := 19) (oi := { dst := some 29, op := Op.fieldAddr 65 (Operand.tmp 28) 0, type := 0, pos := "count.go:39", after := #[{ on := 18, ground := Ground.data }], guard := none }) (v := ?_) rfl (by decide) (by kernel_rfl) (by kernel_rfl) (by kernel_rfl) (fun _ _ _ h => h) (Or.inl ⟨by rfl, ?_⟩) (by assumption) ?_
    rotate_left 1
    · (intro W hSW; (try dsimp only at hSW); first | (go_simp; done) | (go_simp; with_reducible rfl))
    try simp only [Act.put, List.setIfInBounds_toArray, List.set_cons_zero, List.set_cons_succ]
    refine wpAnyG_take (i := 20) (oi := { dst := some 30, op := Op.load 63 (Operand.tmp 29), type := 63, pos := "count.go:39", after := #[{ on := 19, ground := Ground.data }], guard := none }) (v := ?_) rfl (by decide) (by kernel_rfl) (by kernel_rfl) (by kernel_rfl) (fun _ _ _ h => h) (Or.inl ⟨by rfl, ?_⟩) (by assumption) ?_
    rotate_left 1
    · (intro W hSW; (try dsimp only at hSW); first | (go_simp; done) | (go_simp; with_reducible rfl))
    try simp only [Act.put, List.setIfInBounds_toArray, List.set_cons_zero, List.set_cons_succ]
    refine wpAnyG_take (i := 21) (oi := { dst := some 31, op := Op.load 33 (Operand.tmp 2), type := 33, pos := "count.go:39", after := #[], guard := none }) (v := ?_) rfl (by decide) (by kernel_rfl) (by kernel_rfl) (by kernel_rfl) (fun _ _ _ h => h) (Or.inl ⟨by rfl, ?_⟩) (by assumption) ?_
    rotate_left 1
    · (intro W hSW; (try dsimp only at hSW); first | (go_simp; done) | (go_simp; with_reducible rfl))
    try simp only [Act.put, List.setIfInBounds_toArray, List.set_cons_zero, List.set_cons_succ]
    refine wpAnyG_take (i := 22) (oi := { dst := some 32, op := Op.move (Operand.tmp 0), type := 3, pos := "count.go:39", after := #[], guard := none }) (v := ?_) rfl (by decide) (by kernel_rfl) (by kernel_rfl) (by kernel_rfl) (fun _ _ _ h => h) (Or.inl ⟨by rfl, ?_⟩) (by assumption) ?_
    rotate_left 1
    · (intro W hSW; (try dsimp only at hSW); first | (go_simp; done) | (go_simp; with_reducible rfl))
    try simp only [Act.put, List.setIfInBounds_toArray, List.set_cons_zero, List.set_cons_succ]
    refine wpAnyG_take (i := 23) (oi := { dst := some 33, op := Op.indexAddr 33 (Operand.tmp 31) (Operand.tmp 32), type := 0, pos := "count.go:39", after := #[{ on := 21, ground := Ground.data }, { on := 22, ground := Ground.data }], guard := none }) (v := ?_) rfl (by decide) (by kernel_rfl) (by kernel_rfl) (by kernel_rfl) (fun _ _ _ h => h) (Or.inl ⟨by rfl, ?_⟩) (by assumption) ?_
    rotate_left 1
    · (intro W hSW; (try dsimp only at hSW); first | (go_simp; done) | (go_simp; with_reducible rfl))
    try simp only [Act.put, List.setIfInBounds_toArray, List.set_cons_zero, List.set_cons_succ]
    refine wpAnyG_takeT (i := 24) (oi := { dst := some 34, op := Op.load 3 (Operand.tmp 33), type := 3, pos := "count.go:39", after := #[{ on := 23, ground := Ground.data }], guard := none }) (v := ?_) rfl rfl (by kernel_rfl) (by decide) (by kernel_rfl) (by kernel_rfl) (by kernel_rfl) (by kernel_rfl) (fun _ _ _ h => h) (Or.inl ⟨by rfl, ?_⟩) (by assumption) ?_
    rotate_left 1
    · (intro W hSW; (try dsimp only at hSW); first | (go_simp; done) | (go_simp; with_reducible rfl))
    try simp only [Act.put, List.setIfInBounds_toArray, List.set_cons_zero, List.set_cons_succ]
    refine wpAnyG_take (i := 25) (oi := { dst := some 35, op := Op.load 33 (Operand.tmp 2), type := 33, pos := "count.go:39", after := #[], guard := none }) (v := ?_) rfl (by decide) (by kernel_rfl) (by kernel_rfl) (by kernel_rfl) (fun _ _ _ h => h) (Or.inl ⟨by rfl, ?_⟩) (by assumption) ?_
    rotate_left 1
    · (intro W hSW; (try dsimp only at hSW); first | (go_simp; done) | (go_simp; with_reducible rfl))
    try simp only [Act.put, List.setIfInBounds_toArray, List.set_cons_zero, List.set_cons_succ]
    refine wpAnyG_take (i := 26) (oi := { dst := some 36, op := Op.move (Operand.tmp 1), type := 3, pos := "count.go:39", after := #[], guard := none }) (v := ?_) rfl (by decide) (by kernel_rfl) (by kernel_rfl) (by kernel_rfl) (fun _ _ _ h => h) (Or.inl ⟨by rfl, ?_⟩) (by assumption) ?_
    rotate_left 1
    · (intro W hSW; (try dsimp only at hSW); first | (go_simp; done) | (go_simp; with_reducible rfl))
    try simp only [Act.put, List.setIfInBounds_toArray, List.set_cons_zero, List.set_cons_succ]
    refine wpAnyG_take (i := 27) (oi := { dst := some 37, op := Op.indexAddr 33 (Operand.tmp 35) (Operand.tmp 36), type := 0, pos := "count.go:39", after := #[{ on := 25, ground := Ground.data }, { on := 26, ground := Ground.data }], guard := none }) (v := ?_) rfl (by decide) (by kernel_rfl) (by kernel_rfl) (by kernel_rfl) (fun _ _ _ h => h) (Or.inl ⟨by rfl, ?_⟩) (by assumption) ?_
    rotate_left 1
    · (intro W hSW; (try dsimp only at hSW); first | (go_simp; done) | (go_simp; with_reducible rfl))
    try simp only [Act.put, List.setIfInBounds_toArray, List.set_cons_zero, List.set_cons_succ]
    refine wpAnyG_takeT (i := 28) (oi := { dst := some 38, op := Op.load 3 (Operand.tmp 37), type := 3, pos := "count.go:39", after := #[{ on := 27, ground := Ground.data }], guard := none }) (v := ?_) rfl rfl (by kernel_rfl) (by decide) (by kernel_rfl) (by kernel_rfl) (by kernel_rfl) (by kernel_rfl) (fun _ _ _ h => h) (Or.inl ⟨by rfl, ?_⟩) (by assumption) ?_
    rotate_left 1
    · (intro W hSW; (try dsimp only at hSW); first | (go_simp; done) | (go_simp; with_reducible rfl))
    try simp only [Act.put, List.setIfInBounds_toArray, List.set_cons_zero, List.set_cons_succ]
    refine wpAnyG_ready (rs := [16]) (by kernel_rfl) (by simp) ?_
    refine (AllReadyG.cons (o := { dst := some 26, op := Op.call { callee := Callee.value (Operand.func 38), args := #[Operand.tmp 17, Operand.tmp 21, Operand.tmp 25], argTypes := #[63, 3, 3] }, type := 3, pos := "count.go:39", after := #[{ on := 7, ground := Ground.data }, { on := 11, ground := Ground.data }, { on := 15, ground := Ground.data }], guard := none }) rfl (fun K hK => ?_) AllReadyG.nil)
    rw [if_pos (by rfl)]
    go_simp
    go_at_call 38
    refine (HC1.out _ (HH.out.gx.grown hdr0)).mono ?_
    rintro e w1 ⟨rfl, hp1⟩
    obtain ⟨hx1, ho1⟩ := hp1
    have hgo1 := hdr.trans ho1 (fun k _ hk => hk)
    have HX1 := Lib.hid hx1.cut
    clear hx1
    go_wp2_with fail
    refine hK.out _ _ ⟨HS.out _ (hgo1.mono (fun k _ hk => .inl hk)), .inr (HT.out _ hgo1)⟩ (fun hHeld => ?_)
    clear hK K
    try simp only [Act.put, List.setIfInBounds_toArray, List.set_cons_zero, List.set_cons_succ]
    refine wpAnyG_ready (rs := [29]) (by kernel_rfl) (by simp) ?_
    refine (AllReadyG.cons (o := { dst := some 39, op := Op.call { callee := Callee.value (Operand.func 39), args := #[Operand.tmp 30, Operand.tmp 34, Operand.tmp 38], argTypes := #[63, 3, 3] }, type := 3, pos := "count.go:39", after := #[{ on := 20, ground := Ground.data }, { on := 24, ground := Ground.data }, { on := 28, ground := Ground.data }, { on := 16, ground := Ground.chain }], guard := none }) rfl (fun K hK => ?_) AllReadyG.nil)
    rw [if_pos (by rfl)]
    go_simp
    go_at_call 39
    refine (HC2.out _ _ HX1.out).mono ?_
    rintro e w2 ⟨rfl, hp2⟩
    obtain ⟨hx2, ho2⟩ := hp2
    have hgo2 := hgo1.trans ho2 (fun k hk hh => by rcases hh.1 with h1 | h1; exact h1; exact absurd h1 (Nat.not_le.2 hk))
    have HX2 := Lib.hid hx2.cut
    have HO2 := Lib.hid (And.intro hgo2.size (And.intro hgo1.size ho2.size))
    clear hx2
    go_wp2_with fail
    refine hK.out _ _ ⟨HS.out _ (hgo2.mono (fun k _ hk => .inl hk)), .inr (HT.out _ hgo2)⟩ (fun hHeld => ?_)
    clear hK K
    try simp only [Act.put, List.setIfInBounds_toArray, List.set_cons_zero, List.set_cons_succ]
    refine wpAnyG_ready (rs := [30]) (by kernel_rfl) (by simp) ?_
    refine (AllReadyG.cons (o := { dst := some 40, op := Op.indexAddr 33 (Operand.tmp 10) (Operand.tmp 11), type := 0, pos := "count.go:39", after := #[{ on := 0, ground := Ground.data }, { on := 1, ground := Ground.data }, { on := 0, ground := Ground.phase }, { on := 1, ground := Ground.phase }, { on := 2, ground := Ground.textOnly Departure.inlinedCapture }, { on := 3, ground := Ground.textOnly Departure.lateStores }, { on := 4, ground := Ground.phase }, { on := 5, ground := Ground.phase }, { on := 6, ground := Ground.phase }, { on := 7, ground := Ground.phase }, { on := 8, ground := Ground.phase }, { on := 9, ground := Ground.phase }, { on := 10, ground := Ground.phase }, { on := 11, ground := Ground.phase }, { on := 12, ground := Ground.phase }, { on := 13, ground := Ground.phase }, { on := 14, ground := Ground.phase }, { on := 15, ground := Ground.phase }, { on := 16, ground := Ground.phase }, { on := 17, ground := Ground.textOnly Departure.inlinedCapture }, { on := 18, ground := Ground.textOnly Departure.lateStoresUnsure }, { on := 19, ground := Ground.textOnly Departure.lateStoresUnsure }, { on := 20, ground := Ground.phase }, { on := 21, ground := Ground.textOnly Departure.inlinedCapture }, { on := 22, ground := Ground.textOnly Departure.lateStores }, { on := 23, ground := Ground.textOnly Departure.lateStoresUnsure }, { on := 24, ground := Ground.phase }, { on := 25, ground := Ground.textOnly Departure.inlinedCapture }, { on := 26, ground := Ground.textOnly Departure.lateStores }, { on := 27, ground := Ground.textOnly Departure.lateStoresUnsure }, { on := 28, ground := Ground.phase }, { on := 29, ground := Ground.phase }], guard := none }) rfl (fun K hK => ?_) AllReadyG.nil)
    rw [if_pos (by rfl)]
    go_simp
    refine hK.out _ _ ⟨HS.out _ (hgo2.mono (fun k _ hk => .inl hk)), .inl (by kernel_rfl)⟩ (fun hHeld => ?_)
    clear hK K
    try simp only [Act.put, List.setIfInBounds_toArray, List.set_cons_zero, List.set_cons_succ]
    refine wpAnyG_ready (rs := [31]) (by kernel_rfl) (by simp) ?_
    refine (AllReadyG.cons (o := { dst := none, op := Op.store 3 (Operand.tmp 40) (Operand.tmp 26), type := 0, pos := "count.go:39", after := #[{ on := 30, ground := Ground.data }, { on := 16, ground := Ground.data }, { on := 29, ground := Ground.chain }, { on := 0, ground := Ground.phase }, { on := 1, ground := Ground.phase }, { on := 2, ground := Ground.textOnly Departure.inlinedCapture }, { on := 3, ground := Ground.textOnly Departure.lateStores }, { on := 4, ground := Ground.phase }, { on := 5, ground := Ground.phase }, { on := 6, ground := Ground.phase }, { on := 7, ground := Ground.phase }, { on := 8, ground := Ground.phase }, { on := 9, ground := Ground.phase }, { on := 10, ground := Ground.phase }, { on := 11, ground := Ground.phase }, { on := 12, ground := Ground.phase }, { on := 13, ground := Ground.phase }, { on := 14, ground := Ground.phase }, { on := 15, ground := Ground.phase }, { on := 16, ground := Ground.phase }, { on := 17, ground := Ground.textOnly Departure.inlinedCapture }, { on := 18, ground := Ground.textOnly Departure.lateStoresUnsure }, { on := 19, ground := Ground.textOnly Departure.lateStoresUnsure }, { on := 20, ground := Ground.phase }, { on := 21, ground := Ground.textOnly Departure.inlinedCapture }, { on := 22, ground := Ground.textOnly Departure.lateStores }, { on := 23, ground := Ground.textOnly Departure.lateStoresUnsure }, { on := 24, ground := Ground.phase }, { on := 25, ground := Ground.textOnly Departure.inlinedCapture }, { on := 26, ground := Ground.textOnly Departure.lateStores }, { on := 27, ground := Ground.textOnly Departure.lateStoresUnsure }, { on := 28, ground := Ground.phase }, { on := 29, ground := Ground.phase }], guard := none }) rfl (fun K hK => ?_) AllReadyG.nil)
    rw [if_pos (by rfl)]
    have hia2 := HIA.out.1.off hgo2 HMB.out
    have c0 := hia2.cells i x HIA.out.2.1
    have cf := hia2.fr i
    go_simp
    clear c0 cf
    have HI3 := Lib.hid (hia2.set HIA.out.2.1 v1)
    clear hia2
    have hgs := Off.own (hgo2.mono (fun k _ hk => (.inl hk : NB M n br k))) (grown_set w2 br i (.int .i64 v1)) (fun k hk => by cases hk; exact .inl (.inr ⟨HN.out.1, rfl⟩))
    refine hK.out _ _ ⟨HS.out _ hgs, .inl (by kernel_rfl)⟩ (fun hHeld => ?_)
    clear hK K
    try simp only [Act.put, List.setIfInBounds_toArray, List.set_cons_zero, List.set_cons_succ]
    refine wpAnyG_take (i := 32) (oi := { dst := some 41, op := Op.indexAddr 33 (Operand.tmp 12) (Operand.tmp 13), type := 0, pos := "count.go:39", after := #[{ on := 2, ground := Ground.data }, { on := 3, ground := Ground.data }, { on := 0, ground := Ground.phase }, { on := 1, ground := Ground.phase }, { on := 2, ground := Ground.phase }, { on := 3, ground := Ground.phase }, { on := 4, ground := Ground.phase }, { on := 5, ground := Ground.phase }, { on := 6, ground := Ground.phase }, { on := 7, ground := Ground.phase }, { on := 8, ground := Ground.phase }, { on := 9, ground := Ground.phase }, { on := 10, ground := Ground.phase }, { on := 11, ground := Ground.phase }, { on := 12, ground := Ground.phase }, { on := 13, ground := Ground.phase }, { on := 14, ground := Ground.phase }, { on := 15, ground := Ground.phase }, { on := 16, ground := Ground.phase }, { on := 17, ground := Ground.phase }, { on := 18, ground := Ground.phase }, { on := 19, ground := Ground.phase }, { on := 20, ground := Ground.phase }, { on := 21, ground := Ground.phase }, { on := 22, ground := Ground.phase }, { on := 23, ground := Ground.phase }, { on := 24, ground := Ground.phase }, { on := 25, ground := Ground.phase }, { on := 26, ground := Ground.phase }, { on := 27, ground := Ground.phase }, { on := 28, ground := Ground.phase }, { on := 29, ground := Ground.phase }, { on := 30, ground := Ground.phase }, { on := 31, ground := Ground.phase }], guard := none }) (v := ?_) rfl (by decide) (by kernel_rfl) (by kernel_rfl) (by kernel_rfl) (fun _ _ _ h => h) (Or.inl ⟨by rfl, ?_⟩) (by assumption) ?_
    rotate_left 1
    · (intro W hSW; (try dsimp only at hSW); first | (go_simp; done) | (go_simp; with_reducible rfl))
    try simp only [Act.put, List.setIfInBounds_toArray, List.set_cons_zero, List.set_cons_succ]
    refine wpAnyG_ready (rs := [33]) (by kernel_rfl) (by simp) ?_
    refine (AllReadyG.cons (o := { dst := none, op := Op.store 3 (Operand.tmp 41) (Operand.tmp 39), type := 0, pos := "count.go:39", after := #[{ on := 32, ground := Ground.data }, { on := 29, ground := Ground.data }, { on := 31, ground := Ground.chain }, { on := 0, ground := Ground.phase }, { on := 1, ground := Ground.phase }, { on := 2, ground := Ground.phase }, { on := 3, ground := Ground.phase }, { on := 4, ground := Ground.phase }, { on := 5, ground := Ground.phase }, { on := 6, ground := Ground.phase }, { on := 7, ground := Ground.phase }, { on := 8, ground := Ground.phase }, { on := 9, ground := Ground.phase }, { on := 10, ground := Ground.phase }, { on := 11, ground := Ground.phase }, { on := 12, ground := Ground.phase }, { on := 13, ground := Ground.phase }, { on := 14, ground := Ground.phase }, { on := 15, ground := Ground.phase }, { on := 16, ground := Ground.phase }, { on := 17, ground := Ground.phase }, { on := 18, ground := Ground.phase }, { on := 19, ground := Ground.phase }, { on := 20, ground := Ground.phase }, { on := 21, ground := Ground.phase }, { on := 22, ground := Ground.phase }, { on := 23, ground := Ground.phase }, { on := 24, ground := Ground.phase }, { on := 25, ground := Ground.phase }, { on := 26, ground := Ground.phase }, { on := 27, ground := Ground.phase }, { on := 28, ground := Ground.phase }, { on := 29, ground := Ground.phase }, { on := 30, ground := Ground.phase }, { on := 31, ground := Ground.phase }], guard := none }) rfl (fun K hK => ?_) AllReadyG.nil)
    rw [if_pos (by rfl)]
    have hy3 : (out.set i v1)[j]? = some y := by rw [List.getElem?_set_ne (by have := HN.out.2.1; omega)]; exact HIA.out.2.2
    have c0 := HI3.out.cells j y hy3
    have cf := HI3.out.fr j
    go_simp
    clear c0 cf
    have HI4 := Lib.hid (HI3.out.set hy3 v2)
    have hgt := Off.own hgs (grown_set (w2.setCell ⟨br, i, none⟩ (.int .i64 v1)) br j (.int .i64 v2)) (fun k hk => by cases hk; exact .inl (.inr ⟨HN.out.1, rfl⟩))
    refine hK.out _ _ ⟨HS.out _ hgt, .inl (by kernel_rfl)⟩ (fun hHeld => ?_)
    clear hK K
    try simp only [Act.put, List.setIfInBounds_toArray, List.set_cons_zero, List.set_cons_succ]
    refine wpAnyG_done (by kernel_rfl) ?_ _
    have hEND := hgt
    clear hHeld
    have HGT := Lib.hid hgt
    clear hdr hdr0 hEND hgs hgt hgo1 hgo2 ho1 ho2 i0 i1 j0 j1
    go_wp2_with fail
    go_end0
    refine ⟨rfl, grewM (grewM M w.drew w1) w1 w2, ?_, HGT.out, ?_⟩
    · rw [HRR.out]
      have hnb : ∀ k, k < w.heap.size → ¬ NB M n br k → ¬ NB (grewM (grewM M w.drew w1) w1 w2) n br k := fun k hk hn hm => by
        have e : w.drew.heap.size = w.heap.size := rfl
        have s1 := HO2.out.2.1
        rcases hm with hm | hm
        · rcases hm.1 with h1 | h1
          · rcases h1.1 with h2 | h2
            · exact hn (.inl h2)
            · omega
          · omega
        · exact hn (.inr hm)
      have hg3 := World.grownBy.trans (grown_set w2 br i (.int .i64 v1)) (grown_set (w2.setCell ⟨br, i, none⟩ (.int .i64 v1)) br j (.int .i64 v2))
      have hbm : ¬ grewM (grewM M w.drew w1) w1 w2 br := fun hm => by
        have e : w.drew.heap.size = w.heap.size := rfl
        have s0 := HIA.out.1.low
        have s1 := HO2.out.2.1
        rcases hm.1 with h1 | h1
        · rcases h1.1 with h2 | h2
          · exact HMB.out h2
          · omega
        · omega
      refine ⟨HGT.out.cell HH.out.o0 HH.out.fo, HGT.out.cell HH.out.w0 HH.out.fw, HGT.out.cell HH.out.q0 HH.out.fq, by rw [List.length_set, List.length_set]; exact HH.out.len, .inr ⟨rfl, HNC.out, HI4.out, hbm⟩, ?_, hnb _ (lies_lt HH.out.o0) HH.out.fo, hnb _ (lies_lt HH.out.w0) HH.out.fw, hnb _ (lies_lt HH.out.q0) HH.out.fq, HH.out.pb⟩
      exact HX2.out.far hg3 (fun k hk => by cases hk; exact ⟨HPB.out, hbm⟩)
    · intro k hm
      have e : w.drew.heap.size = w.heap.size := rfl
      have s1 := HO2.out.2.1
      rcases hm with hm | hm
      · rcases hm.1 with h1 | h1
        · rcases h1.1 with h2 | h2
          · exact .inl (.inl h2)
          · exact .inr h2
        · exact .inr (by omega)
      · exact .inl (.inr hm)
  · have f1 : decide (j < n) = false := decide_eq_false hjn
    have f2 : decide ((j : Int) < (n : Int)) = false := decide_eq_false (by omega)
    have HR := Lib.hid (run_cmpP_no (i := i) (j := j) (by rw [h.len]; exact hjn) gs)
    clear h hok hG hl hij hn hj hjn
    go_enter Try.func37, Try.ntmps37
    go_wp2_with fail
    go_end0
    exact ⟨rfl, M, by rw [HR.out]; have t := HH.out; exact ⟨t.o0, t.w0, t.q0, t.len, t.row, t.gx.wide (fun _ h => h) (by omega), t.fo, t.fw, t.fq, t.pb⟩, Off.refl _ _, fun k hk => .inl hk⟩
end Go.Proofs.Ythagoihpppppkaa

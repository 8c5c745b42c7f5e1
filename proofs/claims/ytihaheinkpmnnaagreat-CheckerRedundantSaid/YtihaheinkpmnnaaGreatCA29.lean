/- Texts of the proof: LH. -/
import Derived.Test.YtihaheinkpmnnaaGreatCA28
namespace Go.Proofs.YtihaheinkpmnnaaGreat
set_option maxRecDepth 200000
open Go.RowKit Go.Shelf Go.Maps Go.Sort
/-- What a state was made with lies there, and is not too large. -/
structure KOk (w0 : World) (K : Kst) : Prop where
  f : ClsW w0 K.fa K.fc K.F
  y : ClsW w0 K.ya K.yc K.Y
  V : K.V0 ≤ 400
  fl : K.F.length ≤ 1000
  fw : ∀ c ∈ K.F, c.length ≤ 12
  yl : K.Y.length ≤ 1000
  yw : ∀ c ∈ K.Y, c.length ≤ 12
theorem ready_known {K : Kst} {ops : Array Oper} {o : Oper} {a : Act} {Q : Exit → Act → World → Prop} {K' : Act → World → Prop} {w : World} (m x z : Operand) (hgd : o.guard = none)
    (ho : o.op = .mapUpdate 50 m x z) (b : Nat) (hm : a.eval m = .map (some b)) {N : Nat} (hown : KnownM K w b N) (hN : N ≤ 1000000) (k : Int) (hx : a.eval x = .int .i64 k) (hk : (Lit.int .i64 k).wf = true) (hz : a.eval z = .bool (symB K.V0 K.F (K.Y.getD k.toNat [])))
    (h : ∀ w', KnownM K w' b (N + 1) → w.grownBy w' (some b) → K' (a.put o.dst undef) w') :
    if Region.wanted o (yielded ops a.tmps) = true then Oper.wp Tryz.prog o a w K' Q else K' (a.put o.dst undef) w := by
  obtain ⟨w', hr, h2, h3⟩ := hown.store hN hk
  generalize symB K.V0 K.F (K.Y.getD k.toNat []) = q at hr hz
  have hw : Region.wanted o (yielded ops a.tmps) = true := by simp only [Region.wanted, hgd]
  rw [if_pos hw]
  unfold Oper.wp
  simp [execOp, ho, hm, hx, hz, hr, Result.andThen]
  exact h w' h2 h3
theorem BoxM.known {w0 : World} {K : Kst} {b : Nat} {s : CkS} {N M : Nat} {v : Value} {bm : Nat} {ps : List Nr} {w w' : World} (h : BoxM w0 K b s N v bm ps w) (hk : KnownM K w' bm M) (hg : w.grownBy w' (some bm)) : BoxM w0 K b s M v bm ps w' := by
  have hmap : ∀ cur T fr, w.heap[bm]? ≠ some (.cells cur T fr) := fun cur T fr e => h.map.ne_cells e rfl
  refine ⟨(hg.block b (Array.getElem?_eq_some_iff.1 h.hp).1 (fun e => by cases e; exact hmap _ _ _ h.hp)).trans h.hp, h.low, h.mlow, hk, h.row.kept hg ?_, h.eqs, fun p hp => (h.ok p hp).keep hg (fun g e => by cases e; exact ⟨h.mlow, fun cur fr => hmap cur 3 fr⟩), grown_own h.grown hg (fun k e => by cases e; exact h.mlow), h.oth.step hg (fun g e => .inl (by cases e; rfl)), h.hbm⟩
  rcases h.row.2 with ⟨e, _⟩ | ⟨g, cap, cur, e, _, hb, _⟩
  · exact .inl (by rw [e]; rfl)
  · refine .inr fun e2 => ?_
    rw [e] at e2; cases e2; exact hmap _ _ _ hb
set_option maxHeartbeats 16000000 in
theorem symmetry_calls {w0 : World} {K : Kst} {b : Nat} {s : CkS} {N : Nat} {w : World} (hK0 : KOk w0 K) (h : StM w0 K b s N w) {x : St} {la : Option Addr} {lc : Nat} (hf : Fine w0 s N x la lc) :
    Calls Tryz.prog 48 #[.pointer (some ⟨b, 0, none⟩), .agg #[.int .i64 x.1, .slice la x.2.1.length lc, .int .i64 x.2.2]] w fun e w' =>
      e = .returned (.bool (syB K.fs K.Y s.2 x)) ∧ (syB K.fs K.Y s.2 x = true → StM w0 K b (s.1, s.2 ++ [x.2.1]) (N + 1) w') ∧ w0.grownBy w' none := by
  obtain ⟨v0, bm, ps, hB⟩ := h
  obtain ⟨kd, L, y⟩ := x
  obtain ⟨ln, hln⟩ : ∃ z, L.length = z := ⟨_, rfl⟩
  obtain ⟨yn, hyn⟩ : ∃ z, K.Y.length = z := ⟨_, rfl⟩
  obtain ⟨bp, hbp⟩ : ∃ z, w.heap.size = z := ⟨_, rfl⟩
  obtain ⟨W1, hW1⟩ : ∃ z, (w.alloc (.cells #[.pointer (some ⟨b, 0, none⟩)] 49)).alloc (.cells #[.int .i64 kd, .slice la ln lc, .int .i64 y] 46) = z := ⟨_, rfl⟩
  obtain ⟨bx, hbx⟩ : ∃ z, bp + 1 = z := ⟨_, rfl⟩
  have hw1 : w.grownBy W1 none ∧ W1.heap[bp]? = some (.cells #[.pointer (some ⟨b, 0, none⟩)] 49 (0, 0)) ∧ W1.heap[bx]? = some (.cells #[.int .i64 kd, .slice la ln lc, .int .i64 y] 46 (0, 0)) := by
    rw [← hW1, ← hbx, ← hbp]
    refine ⟨(World.grownBy_alloc _ _ none).trans (World.grownBy_alloc _ _ none), (Below.heap_alloc _ _ _ (by simp)).trans (World.alloc_heap_new w _), ?_⟩
    have := World.alloc_heap_new (w.alloc (.cells #[.pointer (some ⟨b, 0, none⟩)] 49)) (.cells #[.int .i64 kd, .slice la ln lc, .int .i64 y] 46)
    simpa using this
  have hB1 := hB.later hw1.1
  have HB1 := Lib.hid (And.intro hB1 hw1)
  have HF := Lib.hid (And.intro hf (And.intro hK0 (And.intro hln hyn)))
  have HS1 : Hid (∀ W, W1.grownBy W none → W.cell? ⟨bp, 0, none⟩ = some (.pointer (some ⟨b, 0, none⟩)) ∧ W.cell? ⟨bx, 2, none⟩ = some (.int .i64 y) ∧ W.cell? ⟨b, 2, none⟩ = some (.slice K.ya yn K.yc)) := Lib.hid (fun W hg => by
    refine ⟨hg.cell (by simp [World.cell?, hw1.2.1]) (by simp), hg.cell (by simp [World.cell?, hw1.2.2]) (by simp), ?_⟩
    have := (hB1.later hg).cells.2.2.1
    rwa [hyn] at this)
  have hdr : W1.grownBy W1.drew none := grown_drew W1 none
  simp only [hln]
  have HBXP := Lib.hid hbx
  clear hB hB1 hw1 hf hK0 hln
  by_cases hy0 : y < 0
  · have f1 : decide (y < 0) = true := decide_eq_true hy0
    have HR : Hid (syB K.fs K.Y s.2 (kd, L, y) = false) := Lib.hid (by unfold syB; rw [decide_eq_false (by simp only; omega)]; rfl)
    clear hy0 hyn
    go_enter Tryz.func48, Tryz.ntmps48
    go_wp2_with fail
    clear hW1 hbp hbx
    refine wp_region_gone_drew (S := (fun Wh : World => Wh.cell? ⟨bp, 0, none⟩ = some (.pointer (some ⟨b, 0, none⟩)) ∧ Wh.cell? ⟨bx, 2, none⟩ = some (.int .i64 y) ∧ Wh.cell? ⟨b, 2, none⟩ = some (.slice K.ya yn K.yc))) (T := (fun _ => True)) (m := 999) (by kernel_rfl) ⟨HS1.out _ hdr, trivial⟩ (fun hHeld => ?_)
    refine wpAnyG_take (i := 0) (oi := { dst := some 10, op := Op.fieldAddr 46 (Operand.tmp 3) 2, type := 0, pos := "checker.go:99", after := #[], guard := none }) (v := ?_) rfl (by decide) (by kernel_rfl) (by kernel_rfl) (by kernel_rfl) (fun _ _ _ h => h) (Or.inl ⟨by rfl, ?_⟩) (by assumption) ?_
    rotate_left 1
    · (intro W hSW; (try dsimp only at hSW); obtain ⟨z0, z1, z2⟩ := hSW; first | (go_simp; done) | (go_simp; with_reducible rfl))
    try simp only [Act.put, List.setIfInBounds_toArray, List.set_cons_zero, List.set_cons_succ]
    refine wpAnyG_take (i := 1) (oi := { dst := some 11, op := Op.load 3 (Operand.tmp 10), type := 3, pos := "checker.go:99", after := #[{ on := 0, ground := Ground.data }], guard := none }) (v := ?_) rfl (by decide) (by kernel_rfl) (by kernel_rfl) (by kernel_rfl) (fun _ _ _ h => h) (Or.inl ⟨by rfl, ?_⟩) (by assumption) ?_
    rotate_left 1
    · (intro W hSW; (try dsimp only at hSW); obtain ⟨z0, z1, z2⟩ := hSW; first | (go_simp; done) | (go_simp; with_reducible rfl))
    try simp only [Act.put, List.setIfInBounds_toArray, List.set_cons_zero, List.set_cons_succ]
    refine wpAnyG_take (i := 2) (oi := { dst := some 12, op := Op.binOp BinOp.lss 3 (Operand.tmp 11) (Operand.const (Value.int IntKind.i64 0)) 3, type := 4, pos := "checker.go:99", after := #[{ on := 1, ground := Ground.data }], guard := none }) (v := ?_) rfl (by decide) (by kernel_rfl) (by kernel_rfl) (by kernel_rfl) (fun _ _ _ h => h) (Or.inl ⟨by rfl, ?_⟩) (by assumption) ?_
    rotate_left 1
    · (intro W hSW; (try dsimp only at hSW); obtain ⟨z0, z1, z2⟩ := hSW; first | (go_simp; done) | (go_simp; with_reducible rfl))
    try simp only [Act.put, List.setIfInBounds_toArray, List.set_cons_zero, List.set_cons_succ]
    refine wpAnyG_take (i := 3) (oi := { dst := some 13, op := Op.move (Operand.tmp 12), type := 4, pos := "checker.go:99", after := #[{ on := 2, ground := Ground.data }], guard := none }) (v := ?_) rfl (by decide) (by kernel_rfl) (by kernel_rfl) (by kernel_rfl) (fun _ _ _ h => h) (Or.inl ⟨by rfl, ?_⟩) (by assumption) ?_
    rotate_left 1
    · (intro W hSW; (try dsimp only at hSW); obtain ⟨z0, z1, z2⟩ := hSW; first | (go_simp; done) | (go_simp; with_reducible rfl))
    try simp only [Act.put, List.setIfInBounds_toArray, List.set_cons_zero, List.set_cons_succ]
    refine wpAnyG_take (i := 4) (oi := { dst := some 14, op := Op.fieldAddr 46 (Operand.tmp 3) 2, type := 0, pos := "checker.go:99", after := #[{ on := 3, ground := Ground.guard }], guard := some (3, false) }) (v := undef) rfl (by decide) (by kernel_rfl) (by kernel_rfl) (by kernel_rfl) (fun _ _ _ h => h) (Or.inr ⟨by rfl, rfl⟩) (by assumption) ?_
    try simp only [Act.put, List.setIfInBounds_toArray, List.set_cons_zero, List.set_cons_succ]
    refine wpAnyG_take (i := 5) (oi := { dst := some 15, op := Op.load 3 (Operand.tmp 14), type := 3, pos := "checker.go:99", after := #[{ on := 4, ground := Ground.data }, { on := 3, ground := Ground.guard }], guard := some (3, false) }) (v := undef) rfl (by decide) (by kernel_rfl) (by kernel_rfl) (by kernel_rfl) (fun _ _ _ h => h) (Or.inr ⟨by rfl, rfl⟩) (by assumption) ?_
    try simp only [Act.put, List.setIfInBounds_toArray, List.set_cons_zero, List.set_cons_succ]
    refine wpAnyG_take (i := 6) (oi := { dst := some 16, op := Op.load 49 (Operand.tmp 2), type := 49, pos := "checker.go:99", after := #[{ on := 3, ground := Ground.guard }], guard := some (3, false) }) (v := undef) rfl (by decide) (by kernel_rfl) (by kernel_rfl) (by kernel_rfl) (fun _ _ _ h => h) (Or.inr ⟨by rfl, rfl⟩) (by assumption) ?_
    try simp only [Act.put, List.setIfInBounds_toArray, List.set_cons_zero, List.set_cons_succ]
    refine wpAnyG_take (i := 7) (oi := { dst := some 17, op := Op.nilCheck (Operand.tmp 16), type := 0, pos := "checker.go:99", after := #[{ on := 6, ground := Ground.data }, { on := 3, ground := Ground.guard }], guard := some (3, false) }) (v := undef) rfl (by decide) (by kernel_rfl) (by kernel_rfl) (by kernel_rfl) (fun _ _ _ h => h) (Or.inr ⟨by rfl, rfl⟩) (by assumption) ?_
    try simp only [Act.put, List.setIfInBounds_toArray, List.set_cons_zero, List.set_cons_succ]
    refine wpAnyG_take (i := 8) (oi := { dst := some 18, op := Op.fieldAddr 53 (Operand.tmp 17) 1, type := 0, pos := "checker.go:99", after := #[{ on := 7, ground := Ground.data }, { on := 3, ground := Ground.guard }], guard := some (3, false) }) (v := undef) rfl (by decide) (by kernel_rfl) (by kernel_rfl) (by kernel_rfl) (fun _ _ _ h => h) (Or.inr ⟨by rfl, rfl⟩) (by assumption) ?_
    try simp only [Act.put, List.setIfInBounds_toArray, List.set_cons_zero, List.set_cons_succ]
    refine wpAnyG_take (i := 9) (oi := { dst := some 19, op := Op.load 22 (Operand.tmp 18), type := 22, pos := "checker.go:99", after := #[{ on := 8, ground := Ground.data }, { on := 3, ground := Ground.guard }], guard := some (3, false) }) (v := undef) rfl (by decide) (by kernel_rfl) (by kernel_rfl) (by kernel_rfl) (fun _ _ _ h => h) (Or.inr ⟨by rfl, rfl⟩) (by assumption) ?_
    try simp only [Act.put, List.setIfInBounds_toArray, List.set_cons_zero, List.set_cons_succ]
    refine wpAnyG_take (i := 10) (oi := { dst := some 20, op := Op.call { callee := Callee.builtin Builtin.len, args := #[Operand.tmp 19], argTypes := #[22] }, type := 3, pos := "checker.go:99", after := #[{ on := 9, ground := Ground.data }, { on := 3, ground := Ground.guard }], guard := some (3, false) }) (v := undef) rfl (by decide) (by kernel_rfl) (by kernel_rfl) (by kernel_rfl) (fun _ _ _ h => h) (Or.inr ⟨by rfl, rfl⟩) (by assumption) ?_
    try simp only [Act.put, List.setIfInBounds_toArray, List.set_cons_zero, List.set_cons_succ]
    refine wpAnyG_take (i := 11) (oi := { dst := some 21, op := Op.binOp BinOp.geq 3 (Operand.tmp 15) (Operand.tmp 20) 3, type := 4, pos := "checker.go:99", after := #[{ on := 5, ground := Ground.data }, { on := 10, ground := Ground.data }, { on := 3, ground := Ground.guard }], guard := some (3, false) }) (v := undef) rfl (by decide) (by kernel_rfl) (by kernel_rfl) (by kernel_rfl) (fun _ _ _ h => h) (Or.inr ⟨by rfl, rfl⟩) (by assumption) ?_
    try simp only [Act.put, List.setIfInBounds_toArray, List.set_cons_zero, List.set_cons_succ]
    refine wpAnyG_take (i := 12) (oi := { dst := some 22, op := Op.pick (Operand.tmp 13) (Operand.const (Value.bool true)) (Operand.tmp 21), type := 4, pos := "checker.go:99", after := #[{ on := 3, ground := Ground.data }, { on := 11, ground := Ground.data }], guard := none }) (v := ?_) rfl (by decide) (by kernel_rfl) (by kernel_rfl) (by kernel_rfl) (fun _ _ _ h => h) (Or.inl ⟨by rfl, ?_⟩) (by assumption) ?_
    rotate_left 1
    · (intro W hSW; (try dsimp only at hSW); obtain ⟨z0, z1, z2⟩ := hSW; first | (go_simp; done) | (go_simp; with_reducible rfl))
    try simp only [Act.put, List.setIfInBounds_toArray, List.set_cons_zero, List.set_cons_succ]
    refine wpAnyG_done (by kernel_rfl) ?_ _
    have HE := Lib.hid (HB1.out.1.grown.trans hdr)
    clear hHeld hdr
    go_wp2_with fail
    go_ret
    exact ⟨by rw [HR.out]; rfl, (fun h => by rw [HR.out] at h; cases h), HE.out⟩
  have f1 : decide (y < 0) = false := decide_eq_false hy0
  by_cases hyl : (yn : Int) ≤ y
  · have f2 : decide (y ≥ (yn : Int)) = true := decide_eq_true hyl
    have f2' : decide ((yn : Int) ≤ y) = true := decide_eq_true hyl
    have HR : Hid (syB K.fs K.Y s.2 (kd, L, y) = false) := Lib.hid (by unfold syB; rw [decide_eq_false (by simp only; omega)]; rfl)
    clear hy0 hyn hyl
    go_enter Tryz.func48, Tryz.ntmps48
    go_wp2_with fail
    clear hW1 hbp hbx
    refine wp_region_gone_drew (S := (fun Wh : World => Wh.cell? ⟨bp, 0, none⟩ = some (.pointer (some ⟨b, 0, none⟩)) ∧ Wh.cell? ⟨bx, 2, none⟩ = some (.int .i64 y) ∧ Wh.cell? ⟨b, 2, none⟩ = some (.slice K.ya yn K.yc))) (T := (fun _ => True)) (m := 999) (by kernel_rfl) ⟨HS1.out _ hdr, trivial⟩ (fun hHeld => ?_)
    refine wpAnyG_take (i := 0) (oi := { dst := some 10, op := Op.fieldAddr 46 (Operand.tmp 3) 2, type := 0, pos := "checker.go:99", after := #[], guard := none }) (v := ?_) rfl (by decide) (by kernel_rfl) (by kernel_rfl) (by kernel_rfl) (fun _ _ _ h => h) (Or.inl ⟨by rfl, ?_⟩) (by assumption) ?_
    rotate_left 1
    · (intro W hSW; (try dsimp only at hSW); obtain ⟨z0, z1, z2⟩ := hSW; first | (go_simp; done) | (go_simp; with_reducible rfl))
    try simp only [Act.put, List.setIfInBounds_toArray, List.set_cons_zero, List.set_cons_succ]
    refine wpAnyG_take (i := 1) (oi := { dst := some 11, op := Op.load 3 (Operand.tmp 10), type := 3, pos := "checker.go:99", after := #[{ on := 0, ground := Ground.data }], guard := none }) (v := ?_) rfl (by decide) (by kernel_rfl) (by kernel_rfl) (by kernel_rfl) (fun _ _ _ h => h) (Or.inl ⟨by rfl, ?_⟩) (by assumption) ?_
    rotate_left 1
    · (intro W hSW; (try dsimp only at hSW); obtain ⟨z0, z1, z2⟩ := hSW; first | (go_simp; done) | (go_simp; with_reducible rfl))
    try simp only [Act.put, List.setIfInBounds_toArray, List.set_cons_zero, List.set_cons_succ]
    refine wpAnyG_take (i := 2) (oi := { dst := some 12, op := Op.binOp BinOp.lss 3 (Operand.tmp 11) (Operand.const (Value.int IntKind.i64 0)) 3, type := 4, pos := "checker.go:99", after := #[{ on := 1, ground := Ground.data }], guard := none }) (v := ?_) rfl (by decide) (by kernel_rfl) (by kernel_rfl) (by kernel_rfl) (fun _ _ _ h => h) (Or.inl ⟨by rfl, ?_⟩) (by assumption) ?_
    rotate_left 1
    · (intro W hSW; (try dsimp only at hSW); obtain ⟨z0, z1, z2⟩ := hSW; first | (go_simp; done) | (go_simp; with_reducible rfl))
    try simp only [Act.put, List.setIfInBounds_toArray, List.set_cons_zero, List.set_cons_succ]
    refine wpAnyG_take (i := 3) (oi := { dst := some 13, op := Op.move (Operand.tmp 12), type := 4, pos := "checker.go:99", after := #[{ on := 2, ground := Ground.data }], guard := none }) (v := ?_) rfl (by decide) (by kernel_rfl) (by kernel_rfl) (by kernel_rfl) (fun _ _ _ h => h) (Or.inl ⟨by rfl, ?_⟩) (by assumption) ?_
    rotate_left 1
    · (intro W hSW; (try dsimp only at hSW); obtain ⟨z0, z1, z2⟩ := hSW; first | (go_simp; done) | (go_simp; with_reducible rfl))
    try simp only [Act.put, List.setIfInBounds_toArray, List.set_cons_zero, List.set_cons_succ]
    refine wpAnyG_take (i := 4) (oi := { dst := some 14, op := Op.fieldAddr 46 (Operand.tmp 3) 2, type := 0, pos := "checker.go:99", after := #[{ on := 3, ground := Ground.guard }], guard := some (3, false) }) (v := ?_) rfl (by decide) (by kernel_rfl) (by kernel_rfl) (by kernel_rfl) (fun _ _ _ h => h) (Or.inl ⟨by rfl, ?_⟩) (by assumption) ?_
    rotate_left 1
    · (intro W hSW; (try dsimp only at hSW); obtain ⟨z0, z1, z2⟩ := hSW; first | (go_simp; done) | (go_simp; with_reducible rfl))
    try simp only [Act.put, List.setIfInBounds_toArray, List.set_cons_zero, List.set_cons_succ]
    refine wpAnyG_take (i := 5) (oi := { dst := some 15, op := Op.load 3 (Operand.tmp 14), type := 3, pos := "checker.go:99", after := #[{ on := 4, ground := Ground.data }, { on := 3, ground := Ground.guard }], guard := some (3, false) }) (v := ?_) rfl (by decide) (by kernel_rfl) (by kernel_rfl) (by kernel_rfl) (fun _ _ _ h => h) (Or.inl ⟨by rfl, ?_⟩) (by assumption) ?_
    rotate_left 1
    · (intro W hSW; (try dsimp only at hSW); obtain ⟨z0, z1, z2⟩ := hSW; first | (go_simp; done) | (go_simp; with_reducible rfl))
    try simp only [Act.put, List.setIfInBounds_toArray, List.set_cons_zero, List.set_cons_succ]
    refine wpAnyG_take (i := 6) (oi := { dst := some 16, op := Op.load 49 (Operand.tmp 2), type := 49, pos := "checker.go:99", after := #[{ on := 3, ground := Ground.guard }], guard := some (3, false) }) (v := ?_) rfl (by decide) (by kernel_rfl) (by kernel_rfl) (by kernel_rfl) (fun _ _ _ h => h) (Or.inl ⟨by rfl, ?_⟩) (by assumption) ?_
    rotate_left 1
    · (intro W hSW; (try dsimp only at hSW); obtain ⟨z0, z1, z2⟩ := hSW; first | (go_simp; done) | (go_simp; with_reducible rfl))
    try simp only [Act.put, List.setIfInBounds_toArray, List.set_cons_zero, List.set_cons_succ]
    refine wpAnyG_take (i := 7) (oi := { dst := some 17, op := Op.nilCheck (Operand.tmp 16), type := 0, pos := "checker.go:99", after := #[{ on := 6, ground := Ground.data }, { on := 3, ground := Ground.guard }], guard := some (3, false) }) (v := ?_) rfl (by decide) (by kernel_rfl) (by kernel_rfl) (by kernel_rfl) (fun _ _ _ h => h) (Or.inl ⟨by rfl, ?_⟩) (by assumption) ?_
    rotate_left 1
    · (intro W hSW; (try dsimp only at hSW); obtain ⟨z0, z1, z2⟩ := hSW; first | (go_simp; done) | (go_simp; with_reducible rfl))
    try simp only [Act.put, List.setIfInBounds_toArray, List.set_cons_zero, List.set_cons_succ]
    refine wpAnyG_take (i := 8) (oi := { dst := some 18, op := Op.fieldAddr 53 (Operand.tmp 17) 1, type := 0, pos := "checker.go:99", after := #[{ on := 7, ground := Ground.data }, { on := 3, ground := Ground.guard }], guard := some (3, false) }) (v := ?_) rfl (by decide) (by kernel_rfl) (by kernel_rfl) (by kernel_rfl) (fun _ _ _ h => h) (Or.inl ⟨by rfl, ?_⟩) (by assumption) ?_
    rotate_left 1
    · (intro W hSW; (try dsimp only at hSW); obtain ⟨z0, z1, z2⟩ := hSW; first | (go_simp; done) | (go_simp; with_reducible rfl))
    try simp only [Act.put, List.setIfInBounds_toArray, List.set_cons_zero, List.set_cons_succ]
    refine wpAnyG_take (i := 9) (oi := { dst := some 19, op := Op.load 22 (Operand.tmp 18), type := 22, pos := "checker.go:99", after := #[{ on := 8, ground := Ground.data }, { on := 3, ground := Ground.guard }], guard := some (3, false) }) (v := ?_) rfl (by decide) (by kernel_rfl) (by kernel_rfl) (by kernel_rfl) (fun _ _ _ h => h) (Or.inl ⟨by rfl, ?_⟩) (by assumption) ?_
    rotate_left 1
    · (intro W hSW; (try dsimp only at hSW); obtain ⟨z0, z1, z2⟩ := hSW; first | (go_simp; done) | (go_simp; with_reducible rfl))
    try simp only [Act.put, List.setIfInBounds_toArray, List.set_cons_zero, List.set_cons_succ]
    refine wpAnyG_take (i := 10) (oi := { dst := some 20, op := Op.call { callee := Callee.builtin Builtin.len, args := #[Operand.tmp 19], argTypes := #[22] }, type := 3, pos := "checker.go:99", after := #[{ on := 9, ground := Ground.data }, { on := 3, ground := Ground.guard }], guard := some (3, false) }) (v := ?_) rfl (by decide) (by kernel_rfl) (by kernel_rfl) (by kernel_rfl) (fun _ _ _ h => h) (Or.inl ⟨by rfl, ?_⟩) (by assumption) ?_
    rotate_left 1
    · (intro W hSW; (try dsimp only at hSW); obtain ⟨z0, z1, z2⟩ := hSW; first | (go_simp; done) | (go_simp; with_reducible rfl))
    try simp only [Act.put, List.setIfInBounds_toArray, List.set_cons_zero, List.set_cons_succ]
    refine wpAnyG_take (i := 11) (oi := { dst := some 21, op := Op.binOp BinOp.geq 3 (Operand.tmp 15) (Operand.tmp 20) 3, type := 4, pos := "checker.go:99", after := #[{ on := 5, ground := Ground.data }, { on := 10, ground := Ground.data }, { on := 3, ground := Ground.guard }], guard := some (3, false) }) (v := ?_) rfl (by decide) (by kernel_rfl) (by kernel_rfl) (by kernel_rfl) (fun _ _ _ h => h) (Or.inl ⟨by rfl, ?_⟩) (by assumption) ?_
    rotate_left 1
    · (intro W hSW; (try dsimp only at hSW); obtain ⟨z0, z1, z2⟩ := hSW; first | (go_simp; done) | (go_simp; with_reducible rfl))
    try simp only [Act.put, List.setIfInBounds_toArray, List.set_cons_zero, List.set_cons_succ]
    refine wpAnyG_take (i := 12) (oi := { dst := some 22, op := Op.pick (Operand.tmp 13) (Operand.const (Value.bool true)) (Operand.tmp 21), type := 4, pos := "checker.go:99", after := #[{ on := 3, ground := Ground.data }, { on := 11, ground := Ground.data }], guard := none }) (v := ?_) rfl (by decide) (by kernel_rfl) (by kernel_rfl) (by kernel_rfl) (fun _ _ _ h => h) (Or.inl ⟨by rfl, ?_⟩) (by assumption) ?_
    rotate_left 1
    · (intro W hSW; (try dsimp only at hSW); obtain ⟨z0, z1, z2⟩ := hSW; first | (go_simp; done) | (go_simp; with_reducible rfl))
    try simp only [Act.put, List.setIfInBounds_toArray, List.set_cons_zero, List.set_cons_succ]
    refine wpAnyG_done (by kernel_rfl) ?_ _
    have HE := Lib.hid (HB1.out.1.grown.trans hdr)
    clear hHeld hdr
    go_wp2_with fail
    go_ret
    exact ⟨by rw [HR.out]; rfl, (fun h => by rw [HR.out] at h; cases h), HE.out⟩
  · have f2 : decide (y ≥ (yn : Int)) = false := decide_eq_false (by omega)
    have f2' : decide ((yn : Int) ≤ y) = false := decide_eq_false (by omega)
    obtain ⟨yk, rfl⟩ : ∃ k : Nat, y = (k : Int) := ⟨y.toNat, by omega⟩
    have hykl : yk < K.Y.length := by omega
    obtain ⟨S, hS⟩ : ∃ z, K.Y[yk]? = some z := ⟨_, List.getElem?_eq_getElem hykl⟩
    obtain ⟨yb, yo, sa, sc, hya, hycell, hyi⟩ := (HF.out.2.1.y).at hS
    obtain ⟨sn, hsn⟩ : ∃ z, S.length = z := ⟨_, rfl⟩
    rw [hsn] at hycell
    rw [hya] at HS1
    have HS3 : Hid (∀ W, W1.grownBy W none → W.cell? ⟨bp, 0, none⟩ = some (.pointer (some ⟨b, 0, none⟩)) ∧ W.cell? ⟨bx, 2, none⟩ = some (.int .i64 (yk : Int)) ∧ W.cell? ⟨b, 2, none⟩ = some (.slice (some ⟨yb, yo, none⟩) yn K.yc) ∧ W.cell? ⟨yb, yo + yk, none⟩ = some (.slice sa sn sc)) := Lib.hid (fun W hg => by
      obtain ⟨k1, k2, k3⟩ := HS1.out W hg
      exact ⟨k1, k2, k3, (HB1.out.1.grown.trans hg).cell hycell (by simp)⟩)
    have HSY := Lib.hid (And.intro hS (And.intro hyi hsn))
    have i0' : (0 : Int) ≤ (yk : Int) := by omega
    have i1' : (yk : Int) < (yn : Int) := by omega
    rw [show K.ya = _ from hya] at *
    clear hy0 hyn hyl hykl hS hycell hyi hsn
    go_enter Tryz.func48, Tryz.ntmps48
    go_wp2_with fail
    clear hW1 hbp hbx
    refine wp_region_gone_drew (S := (fun Wh : World => Wh.cell? ⟨bp, 0, none⟩ = some (.pointer (some ⟨b, 0, none⟩)) ∧ Wh.cell? ⟨bx, 2, none⟩ = some (.int .i64 (yk : Int)) ∧ Wh.cell? ⟨b, 2, none⟩ = some (.slice (some ⟨yb, yo, none⟩) yn K.yc))) (T := (fun _ => True)) (m := 999) (by kernel_rfl) ⟨HS1.out _ hdr, trivial⟩ (fun hHeld => ?_)
    refine wpAnyG_take (i := 0) (oi := { dst := some 10, op := Op.fieldAddr 46 (Operand.tmp 3) 2, type := 0, pos := "checker.go:99", after := #[], guard := none }) (v := ?_) rfl (by decide) (by kernel_rfl) (by kernel_rfl) (by kernel_rfl) (fun _ _ _ h => h) (Or.inl ⟨by rfl, ?_⟩) (by assumption) ?_
    rotate_left 1
    · (intro W hSW; (try dsimp only at hSW); obtain ⟨z0, z1, z2⟩ := hSW; first | (go_simp; done) | (go_simp; with_reducible rfl))
    try simp only [Act.put, List.setIfInBounds_toArray, List.set_cons_zero, List.set_cons_succ]
    refine wpAnyG_take (i := 1) (oi := { dst := some 11, op := Op.load 3 (Operand.tmp 10), type := 3, pos := "checker.go:99", after := #[{ on := 0, ground := Ground.data }], guard := none }) (v := ?_) rfl (by decide) (by kernel_rfl) (by kernel_rfl) (by kernel_rfl) (fun _ _ _ h => h) (Or.inl ⟨by rfl, ?_⟩) (by assumption) ?_
    rotate_left 1
    · (intro W hSW; (try dsimp only at hSW); obtain ⟨z0, z1, z2⟩ := hSW; first | (go_simp; done) | (go_simp; with_reducible rfl))
    try simp only [Act.put, List.setIfInBounds_toArray, List.set_cons_zero, List.set_cons_succ]
    refine wpAnyG_take (i := 2) (oi := { dst := some 12, op := Op.binOp BinOp.lss 3 (Operand.tmp 11) (Operand.const (Value.int IntKind.i64 0)) 3, type := 4, pos := "checker.go:99", after := #[{ on := 1, ground := Ground.data }], guard := none }) (v := ?_) rfl (by decide) (by kernel_rfl) (by kernel_rfl) (by kernel_rfl) (fun _ _ _ h => h) (Or.inl ⟨by rfl, ?_⟩) (by assumption) ?_
    rotate_left 1
    · (intro W hSW; (try dsimp only at hSW); obtain ⟨z0, z1, z2⟩ := hSW; first | (go_simp; done) | (go_simp; with_reducible rfl))
    try simp only [Act.put, List.setIfInBounds_toArray, List.set_cons_zero, List.set_cons_succ]
    refine wpAnyG_take (i := 3) (oi := { dst := some 13, op := Op.move (Operand.tmp 12), type := 4, pos := "checker.go:99", after := #[{ on := 2, ground := Ground.data }], guard := none }) (v := ?_) rfl (by decide) (by kernel_rfl) (by kernel_rfl) (by kernel_rfl) (fun _ _ _ h => h) (Or.inl ⟨by rfl, ?_⟩) (by assumption) ?_
    rotate_left 1
    · (intro W hSW; (try dsimp only at hSW); obtain ⟨z0, z1, z2⟩ := hSW; first | (go_simp; done) | (go_simp; with_reducible rfl))
    try simp only [Act.put, List.setIfInBounds_toArray, List.set_cons_zero, List.set_cons_succ]
    refine wpAnyG_take (i := 4) (oi := { dst := some 14, op := Op.fieldAddr 46 (Operand.tmp 3) 2, type := 0, pos := "checker.go:99", after := #[{ on := 3, ground := Ground.guard }], guard := some (3, false) }) (v := ?_) rfl (by decide) (by kernel_rfl) (by kernel_rfl) (by kernel_rfl) (fun _ _ _ h => h) (Or.inl ⟨by rfl, ?_⟩) (by assumption) ?_
    rotate_left 1
    · (intro W hSW; (try dsimp only at hSW); obtain ⟨z0, z1, z2⟩ := hSW; first | (go_simp; done) | (go_simp; with_reducible rfl))
    try simp only [Act.put, List.setIfInBounds_toArray, List.set_cons_zero, List.set_cons_succ]
    refine wpAnyG_take (i := 5) (oi := { dst := some 15, op := Op.load 3 (Operand.tmp 14), type := 3, pos := "checker.go:99", after := #[{ on := 4, ground := Ground.data }, { on := 3, ground := Ground.guard }], guard := some (3, false) }) (v := ?_) rfl (by decide) (by kernel_rfl) (by kernel_rfl) (by kernel_rfl) (fun _ _ _ h => h) (Or.inl ⟨by rfl, ?_⟩) (by assumption) ?_
    rotate_left 1
    · (intro W hSW; (try dsimp only at hSW); obtain ⟨z0, z1, z2⟩ := hSW; first | (go_simp; done) | (go_simp; with_reducible rfl))
    try simp only [Act.put, List.setIfInBounds_toArray, List.set_cons_zero, List.set_cons_succ]
    refine wpAnyG_take (i := 6) (oi := { dst := some 16, op := Op.load 49 (Operand.tmp 2), type := 49, pos := "checker.go:99", after := #[{ on := 3, ground := Ground.guard }], guard := some (3, false) }) (v := ?_) rfl (by decide) (by kernel_rfl) (by kernel_rfl) (by kernel_rfl) (fun _ _ _ h => h) (Or.inl ⟨by rfl, ?_⟩) (by assumption) ?_
    rotate_left 1
    · (intro W hSW; (try dsimp only at hSW); obtain ⟨z0, z1, z2⟩ := hSW; first | (go_simp; done) | (go_simp; with_reducible rfl))
    try simp only [Act.put, List.setIfInBounds_toArray, List.set_cons_zero, List.set_cons_succ]
    refine wpAnyG_take (i := 7) (oi := { dst := some 17, op := Op.nilCheck (Operand.tmp 16), type := 0, pos := "checker.go:99", after := #[{ on := 6, ground := Ground.data }, { on := 3, ground := Ground.guard }], guard := some (3, false) }) (v := ?_) rfl (by decide) (by kernel_rfl) (by kernel_rfl) (by kernel_rfl) (fun _ _ _ h => h) (Or.inl ⟨by rfl, ?_⟩) (by assumption) ?_
    rotate_left 1
    · (intro W hSW; (try dsimp only at hSW); obtain ⟨z0, z1, z2⟩ := hSW; first | (go_simp; done) | (go_simp; with_reducible rfl))
    try simp only [Act.put, List.setIfInBounds_toArray, List.set_cons_zero, List.set_cons_succ]
    refine wpAnyG_take (i := 8) (oi := { dst := some 18, op := Op.fieldAddr 53 (Operand.tmp 17) 1, type := 0, pos := "checker.go:99", after := #[{ on := 7, ground := Ground.data }, { on := 3, ground := Ground.guard }], guard := some (3, false) }) (v := ?_) rfl (by decide) (by kernel_rfl) (by kernel_rfl) (by kernel_rfl) (fun _ _ _ h => h) (Or.inl ⟨by rfl, ?_⟩) (by assumption) ?_
    rotate_left 1
    · (intro W hSW; (try dsimp only at hSW); obtain ⟨z0, z1, z2⟩ := hSW; first | (go_simp; done) | (go_simp; with_reducible rfl))
    try simp only [Act.put, List.setIfInBounds_toArray, List.set_cons_zero, List.set_cons_succ]
    refine wpAnyG_take (i := 9) (oi := { dst := some 19, op := Op.load 22 (Operand.tmp 18), type := 22, pos := "checker.go:99", after := #[{ on := 8, ground := Ground.data }, { on := 3, ground := Ground.guard }], guard := some (3, false) }) (v := ?_) rfl (by decide) (by kernel_rfl) (by kernel_rfl) (by kernel_rfl) (fun _ _ _ h => h) (Or.inl ⟨by rfl, ?_⟩) (by assumption) ?_
    rotate_left 1
    · (intro W hSW; (try dsimp only at hSW); obtain ⟨z0, z1, z2⟩ := hSW; first | (go_simp; done) | (go_simp; with_reducible rfl))
    try simp only [Act.put, List.setIfInBounds_toArray, List.set_cons_zero, List.set_cons_succ]
    refine wpAnyG_take (i := 10) (oi := { dst := some 20, op := Op.call { callee := Callee.builtin Builtin.len, args := #[Operand.tmp 19], argTypes := #[22] }, type := 3, pos := "checker.go:99", after := #[{ on := 9, ground := Ground.data }, { on := 3, ground := Ground.guard }], guard := some (3, false) }) (v := ?_) rfl (by decide) (by kernel_rfl) (by kernel_rfl) (by kernel_rfl) (fun _ _ _ h => h) (Or.inl ⟨by rfl, ?_⟩) (by assumption) ?_
    rotate_left 1
    · (intro W hSW; (try dsimp only at hSW); obtain ⟨z0, z1, z2⟩ := hSW; first | (go_simp; done) | (go_simp; with_reducible rfl))
    try simp only [Act.put, List.setIfInBounds_toArray, List.set_cons_zero, List.set_cons_succ]
    refine wpAnyG_take (i := 11) (oi := { dst := some 21, op := Op.binOp BinOp.geq 3 (Operand.tmp 15) (Operand.tmp 20) 3, type := 4, pos := "checker.go:99", after := #[{ on := 5, ground := Ground.data }, { on := 10, ground := Ground.data }, { on := 3, ground := Ground.guard }], guard := some (3, false) }) (v := ?_) rfl (by decide) (by kernel_rfl) (by kernel_rfl) (by kernel_rfl) (fun _ _ _ h => h) (Or.inl ⟨by rfl, ?_⟩) (by assumption) ?_
    rotate_left 1
    · (intro W hSW; (try dsimp only at hSW); obtain ⟨z0, z1, z2⟩ := hSW; first | (go_simp; done) | (go_simp; with_reducible rfl))
    try simp only [Act.put, List.setIfInBounds_toArray, List.set_cons_zero, List.set_cons_succ]
    refine wpAnyG_take (i := 12) (oi := { dst := some 22, op := Op.pick (Operand.tmp 13) (Operand.const (Value.bool true)) (Operand.tmp 21), type := 4, pos := "checker.go:99", after := #[{ on := 3, ground := Ground.data }, { on := 11, ground := Ground.data }], guard := none }) (v := ?_) rfl (by decide) (by kernel_rfl) (by kernel_rfl) (by kernel_rfl) (fun _ _ _ h => h) (Or.inl ⟨by rfl, ?_⟩) (by assumption) ?_
    rotate_left 1
    · (intro W hSW; (try dsimp only at hSW); obtain ⟨z0, z1, z2⟩ := hSW; first | (go_simp; done) | (go_simp; with_reducible rfl))
    try simp only [Act.put, List.setIfInBounds_toArray, List.set_cons_zero, List.set_cons_succ]
    refine wpAnyG_done (by kernel_rfl) ?_ _
    go_wp2_with fail
    clear hHeld
    obtain ⟨w2, hw2⟩ : ∃ z, W1.drew = z := ⟨_, rfl⟩
    rw [hw2] at hdr ⊢
    clear hw2
    have HG2 := Lib.hid hdr
    clear hdr
    have HA3 : Hid (W1.grownBy ((World.alloc w2 (.cells #[.slice none 0 0] 34)).drew) none ∧ W1.grownBy ((World.alloc w2 (.cells #[.slice sa sn sc] 34)).drew) none ∧ ((World.alloc w2 (.cells #[.slice sa sn sc] 34)).drew).heap[w2.heap.size]? = some (.cells #[.slice sa sn sc] 34 (0, 0))) := Lib.hid (by
      have k1 := (HG2.out.trans (World.grownBy_alloc w2 (.cells #[.slice none 0 0] 34) none)).trans (grown_drew _ none)
      exact ⟨k1, (HG2.out.trans (World.grownBy_alloc w2 (.cells #[.slice sa sn sc] 34) none)).trans (grown_drew _ none), World.alloc_heap_new w2 _⟩)
    have hdr : W1.grownBy w2.drew none := HG2.out.trans (grown_drew w2 none)
    refine wp_region_gone_drew (S := (fun Wh : World => Wh.cell? ⟨bp, 0, none⟩ = some (.pointer (some ⟨b, 0, none⟩)) ∧ Wh.cell? ⟨bx, 2, none⟩ = some (.int .i64 (yk : Int)) ∧ Wh.cell? ⟨b, 2, none⟩ = some (.slice (some ⟨yb, yo, none⟩) yn K.yc) ∧ Wh.cell? ⟨yb, yo + yk, none⟩ = some (.slice sa sn sc))) (T := (fun _ => True)) (m := 9) (by kernel_rfl) ⟨HS3.out _ hdr, trivial⟩ (fun hHeld => ?_)
    refine wpAnyG_take (i := 0) (oi := { dst := some 23, op := Op.load 49 (Operand.tmp 2), type := 49, pos := "checker.go:102", after := #[], guard := none }) (v := ?_) rfl (by decide) (by kernel_rfl) (by kernel_rfl) (by kernel_rfl) (fun _ _ _ h => h) (Or.inl ⟨by rfl, ?_⟩) (by assumption) ?_
    rotate_left 1
    · (intro W hSW; (try dsimp only at hSW); obtain ⟨z0, z1, z2, z3⟩ := hSW; first | (go_simp; done) | (go_simp; with_reducible rfl))
    try simp only [Act.put, List.setIfInBounds_toArray, List.set_cons_zero, List.set_cons_succ]
    refine wpAnyG_take (i := 1) (oi := { dst := some 24, op := Op.nilCheck (Operand.tmp 23), type := 0, pos := "checker.go:102", after := #[{ on := 0, ground := Ground.data }], guard := none }) (v := ?_) rfl (by decide) (by kernel_rfl) (by kernel_rfl) (by kernel_rfl) (fun _ _ _ h => h) (Or.inl ⟨by rfl, ?_⟩) (by assumption) ?_
    rotate_left 1
    · (intro W hSW; (try dsimp only at hSW); obtain ⟨z0, z1, z2, z3⟩ := hSW; first | (go_simp; done) | (go_simp; with_reducible rfl))
    try simp only [Act.put, List.setIfInBounds_toArray, List.set_cons_zero, List.set_cons_succ]
    refine wpAnyG_take (i := 2) (oi := { dst := some 25, op := Op.fieldAddr 53 (Operand.tmp 24) 1, type := 0, pos := "checker.go:102", after := #[{ on := 1, ground := Ground.data }], guard := none }) (v := ?_) rfl (by decide) (by kernel_rfl) (by kernel_rfl) (by kernel_rfl) (fun _ _ _ h => h) (Or.inl ⟨by rfl, ?_⟩) (by assumption) ?_
    rotate_left 1
    · (intro W hSW; (try dsimp only at hSW); obtain ⟨z0, z1, z2, z3⟩ := hSW; first | (go_simp; done) | (go_simp; with_reducible rfl))
    try simp only [Act.put, List.setIfInBounds_toArray, List.set_cons_zero, List.set_cons_succ]
    refine wpAnyG_take (i := 3) (oi := { dst := some 26, op := Op.load 22 (Operand.tmp 25), type := 22, pos := "checker.go:102", after := #[{ on := 2, ground := Ground.data }], guard := none }) (v := ?_) rfl (by decide) (by kernel_rfl) (by kernel_rfl) (by kernel_rfl) (fun _ _ _ h => h) (Or.inl ⟨by rfl, ?_⟩) (by assumption) ?_
    rotate_left 1
    · (intro W hSW; (try dsimp only at hSW); obtain ⟨z0, z1, z2, z3⟩ := hSW; first | (go_simp; done) | (go_simp; with_reducible rfl))
    try simp only [Act.put, List.setIfInBounds_toArray, List.set_cons_zero, List.set_cons_succ]
    refine wpAnyG_take (i := 4) (oi := { dst := some 27, op := Op.fieldAddr 46 (Operand.tmp 3) 2, type := 0, pos := "checker.go:102", after := #[], guard := none }) (v := ?_) rfl (by decide) (by kernel_rfl) (by kernel_rfl) (by kernel_rfl) (fun _ _ _ h => h) (Or.inl ⟨by rfl, ?_⟩) (by assumption) ?_
    rotate_left 1
    · (intro W hSW; (try dsimp only at hSW); obtain ⟨z0, z1, z2, z3⟩ := hSW; first | (go_simp; done) | (go_simp; with_reducible rfl))
    try simp only [Act.put, List.setIfInBounds_toArray, List.set_cons_zero, List.set_cons_succ]
    refine wpAnyG_take (i := 5) (oi := { dst := some 28, op := Op.load 3 (Operand.tmp 27), type := 3, pos := "checker.go:102", after := #[{ on := 4, ground := Ground.data }], guard := none }) (v := ?_) rfl (by decide) (by kernel_rfl) (by kernel_rfl) (by kernel_rfl) (fun _ _ _ h => h) (Or.inl ⟨by rfl, ?_⟩) (by assumption) ?_
    rotate_left 1
    · (intro W hSW; (try dsimp only at hSW); obtain ⟨z0, z1, z2, z3⟩ := hSW; first | (go_simp; done) | (go_simp; with_reducible rfl))
    try simp only [Act.put, List.setIfInBounds_toArray, List.set_cons_zero, List.set_cons_succ]
    refine wpAnyG_take (i := 6) (oi := { dst := some 29, op := Op.indexAddr 22 (Operand.tmp 26) (Operand.tmp 28), type := 0, pos := "checker.go:102", after := #[{ on := 3, ground := Ground.data }, { on := 5, ground := Ground.data }], guard := none }) (v := ?_) rfl (by decide) (by kernel_rfl) (by kernel_rfl) (by kernel_rfl) (fun _ _ _ h => h) (Or.inl ⟨by rfl, ?_⟩) (by assumption) ?_
    rotate_left 1
    · (intro W hSW; (try dsimp only at hSW); obtain ⟨z0, z1, z2, z3⟩ := hSW; first | (go_simp; done) | (go_simp; with_reducible rfl))
    try simp only [Act.put, List.setIfInBounds_toArray, List.set_cons_zero, List.set_cons_succ]
    refine wpAnyG_take (i := 7) (oi := { dst := some 30, op := Op.load 34 (Operand.tmp 29), type := 34, pos := "checker.go:102", after := #[{ on := 6, ground := Ground.data }], guard := none }) (v := ?_) rfl (by decide) (by kernel_rfl) (by kernel_rfl) (by kernel_rfl) (fun _ _ _ h => h) (Or.inl ⟨by rfl, ?_⟩) (by assumption) ?_
    rotate_left 1
    · (intro W hSW; (try dsimp only at hSW); obtain ⟨z0, z1, z2, z3⟩ := hSW; first | (go_simp; done) | (go_simp; with_reducible rfl))
    try simp only [Act.put, List.setIfInBounds_toArray, List.set_cons_zero, List.set_cons_succ]
    refine wpAnyG_ready (rs := [8]) (by kernel_rfl) (by simp) ?_
    refine (AllReadyG.cons (o := { dst := some 5, op := Op.alloc 34, type := 0, pos := "checker.go:102", after := #[], guard := none }) rfl (fun K hK => ?_) AllReadyG.nil)
    rw [if_pos (by rfl)]
    go_simp
    refine hK.out _ _ ⟨HS3.out _ HA3.out.1, .inr trivial⟩ (fun hHeld => ?_)
    clear hK K
    try simp only [Act.put, List.setIfInBounds_toArray, List.set_cons_zero, List.set_cons_succ]
    refine wpAnyG_ready (rs := [9]) (by kernel_rfl) (by simp) ?_
    refine (AllReadyG.cons (o := { dst := none, op := Op.store 34 (Operand.tmp 5) (Operand.tmp 30), type := 0, pos := "checker.go:102", after := #[{ on := 8, ground := Ground.data }, { on := 7, ground := Ground.data }, { on := 0, ground := Ground.phase }, { on := 1, ground := Ground.phase }, { on := 2, ground := Ground.phase }, { on := 3, ground := Ground.phase }, { on := 4, ground := Ground.phase }, { on := 5, ground := Ground.phase }, { on := 6, ground := Ground.phase }, { on := 7, ground := Ground.phase }, { on := 8, ground := Ground.phase }], guard := none }) rfl (fun K hK => ?_) AllReadyG.nil)
    rw [if_pos (by rfl)]
    go_simp
    refine hK.out _ _ ⟨HS3.out _ HA3.out.2.1, .inl (by rfl)⟩ (fun hHeld => ?_)
    clear hK K
    try simp only [Act.put, List.setIfInBounds_toArray, List.set_cons_zero, List.set_cons_succ]
    refine wpAnyG_done (by kernel_rfl) ?_ _
    obtain ⟨w3, hw3⟩ : ∃ z, (World.alloc w2 (.cells #[.slice sa sn sc] 34)).drew = z := ⟨_, rfl⟩
    obtain ⟨bs, hbs⟩ : ∃ z, w2.heap.size = z := ⟨_, rfl⟩
    have HB3 : Hid (BoxM w0 K b s N v0 bm ps w3 ∧ w3.heap[bs]? = some (.cells #[.slice sa sn sc] 34 (0, 0)) ∧ W1.grownBy w3 none) := Lib.hid (by
      rw [← hw3, ← hbs]; exact ⟨HB1.out.1.later HA3.out.2.1, HA3.out.2.2, HA3.out.2.1⟩)
    rw [hw3, hbs]
    clear hHeld hdr hw3 hbs HA3 HG2
    have HWF : Hid ((Lit.int .i64 (yk : Int)).wf = true) := Lib.hid (wf64 (by omega) (by have := HF.out.2.1.yl; have := HF.out.2.2.2; omega))
    have HGD : Hid (K.Y.getD (yk : Int).toNat [] = S) := Lib.hid (by rw [show (yk : Int).toNat = yk from rfl, List.getD_eq_getElem?_getD, HSY.out.1]; rfl)
    obtain ⟨kv, kok, hlk, hlv⟩ := (HB3.out.1.map.kept (grown_drew w3 none) (by simp)).look HWF.out
    rw [HGD.out] at hlv
    have HLV := Lib.hid hlv
    have HS4 := Lib.hid (show w3.drew.cell? ⟨bp, 0, none⟩ = some (.pointer (some ⟨b, 0, none⟩)) ∧ w3.drew.cell? ⟨bx, 2, none⟩ = some (.int .i64 (yk : Int)) ∧ w3.drew.cell? ⟨b, 3, none⟩ = some (.map (some bm)) ∧ (Instr.lookup 50 (.map (some bm)) (.int .i64 (yk : Int)) true).run Tryz.prog w3.drew = .ok (.tuple #[.bool kv, .bool kok]) w3.drew by
      obtain ⟨k1, k2, _⟩ := HS1.out _ (HB3.out.2.2.trans (grown_drew w3 none))
      exact ⟨k1, k2, (HB3.out.1.later (grown_drew w3 none)).cells.2.2.2.1, hlk⟩)
    clear hlk hlv
    go_wp2_with fail
    refine wp_region_gone_drew (S := (fun Wh : World => Wh.cell? ⟨bp, 0, none⟩ = some (.pointer (some ⟨b, 0, none⟩)) ∧ Wh.cell? ⟨bx, 2, none⟩ = some (.int .i64 (yk : Int)) ∧ Wh.cell? ⟨b, 3, none⟩ = some (.map (some bm)) ∧ (Instr.lookup 50 (.map (some bm)) (.int .i64 (yk : Int)) true).run Tryz.prog Wh = .ok (.tuple #[.bool kv, .bool kok]) Wh)) (T := (fun _ => True)) (m := 999) (by kernel_rfl) ⟨HS4.out, trivial⟩ (fun hHeld => ?_)
    refine wpAnyG_take (i := 0) (oi := { dst := some 32, op := Op.load 49 (Operand.tmp 2), type := 49, pos := "checker.go:103", after := #[], guard := none }) (v := ?_) rfl (by decide) (by kernel_rfl) (by kernel_rfl) (by kernel_rfl) (fun _ _ _ h => h) (Or.inl ⟨by rfl, ?_⟩) (by assumption) ?_
    rotate_left 1
    · (intro W hSW; (try dsimp only at hSW); obtain ⟨z0, z1, z2, z3⟩ := hSW; first | (go_simp; done) | (go_simp; with_reducible rfl))
    try simp only [Act.put, List.setIfInBounds_toArray, List.set_cons_zero, List.set_cons_succ]
    refine wpAnyG_take (i := 1) (oi := { dst := some 33, op := Op.nilCheck (Operand.tmp 32), type := 0, pos := "checker.go:103", after := #[{ on := 0, ground := Ground.data }], guard := none }) (v := ?_) rfl (by decide) (by kernel_rfl) (by kernel_rfl) (by kernel_rfl) (fun _ _ _ h => h) (Or.inl ⟨by rfl, ?_⟩) (by assumption) ?_
    rotate_left 1
    · (intro W hSW; (try dsimp only at hSW); obtain ⟨z0, z1, z2, z3⟩ := hSW; first | (go_simp; done) | (go_simp; with_reducible rfl))
    try simp only [Act.put, List.setIfInBounds_toArray, List.set_cons_zero, List.set_cons_succ]
    refine wpAnyG_take (i := 2) (oi := { dst := some 34, op := Op.fieldAddr 53 (Operand.tmp 33) 2, type := 0, pos := "checker.go:103", after := #[{ on := 1, ground := Ground.data }], guard := none }) (v := ?_) rfl (by decide) (by kernel_rfl) (by kernel_rfl) (by kernel_rfl) (fun _ _ _ h => h) (Or.inl ⟨by rfl, ?_⟩) (by assumption) ?_
    rotate_left 1
    · (intro W hSW; (try dsimp only at hSW); obtain ⟨z0, z1, z2, z3⟩ := hSW; first | (go_simp; done) | (go_simp; with_reducible rfl))
    try simp only [Act.put, List.setIfInBounds_toArray, List.set_cons_zero, List.set_cons_succ]
    refine wpAnyG_take (i := 3) (oi := { dst := some 35, op := Op.load 50 (Operand.tmp 34), type := 50, pos := "checker.go:103", after := #[{ on := 2, ground := Ground.data }], guard := none }) (v := ?_) rfl (by decide) (by kernel_rfl) (by kernel_rfl) (by kernel_rfl) (fun _ _ _ h => h) (Or.inl ⟨by rfl, ?_⟩) (by assumption) ?_
    rotate_left 1
    · (intro W hSW; (try dsimp only at hSW); obtain ⟨z0, z1, z2, z3⟩ := hSW; first | (go_simp; done) | (go_simp; with_reducible rfl))
    try simp only [Act.put, List.setIfInBounds_toArray, List.set_cons_zero, List.set_cons_succ]
    refine wpAnyG_take (i := 4) (oi := { dst := some 36, op := Op.fieldAddr 46 (Operand.tmp 3) 2, type := 0, pos := "checker.go:103", after := #[], guard := none }) (v := ?_) rfl (by decide) (by kernel_rfl) (by kernel_rfl) (by kernel_rfl) (fun _ _ _ h => h) (Or.inl ⟨by rfl, ?_⟩) (by assumption) ?_
    rotate_left 1
    · (intro W hSW; (try dsimp only at hSW); obtain ⟨z0, z1, z2, z3⟩ := hSW; first | (go_simp; done) | (go_simp; with_reducible rfl))
    try simp only [Act.put, List.setIfInBounds_toArray, List.set_cons_zero, List.set_cons_succ]
    refine wpAnyG_take (i := 5) (oi := { dst := some 37, op := Op.load 3 (Operand.tmp 36), type := 3, pos := "checker.go:103", after := #[{ on := 4, ground := Ground.data }], guard := none }) (v := ?_) rfl (by decide) (by kernel_rfl) (by kernel_rfl) (by kernel_rfl) (fun _ _ _ h => h) (Or.inl ⟨by rfl, ?_⟩) (by assumption) ?_
    rotate_left 1
    · (intro W hSW; (try dsimp only at hSW); obtain ⟨z0, z1, z2, z3⟩ := hSW; first | (go_simp; done) | (go_simp; with_reducible rfl))
    try simp only [Act.put, List.setIfInBounds_toArray, List.set_cons_zero, List.set_cons_succ]
    refine wpAnyG_take (i := 6) (oi := { dst := some 38, op := Op.lookup 50 (Operand.tmp 35) (Operand.tmp 37) true, type := 93, pos := "checker.go:103", after := #[{ on := 3, ground := Ground.data }, { on := 5, ground := Ground.data }], guard := none }) (v := ?_) rfl (by decide) (by kernel_rfl) (by kernel_rfl) (by kernel_rfl) (fun _ _ _ h => h) (Or.inl ⟨by rfl, ?_⟩) (by assumption) ?_
    rotate_left 1
    · (intro W hSW; (try dsimp only at hSW); obtain ⟨z0, z1, z2, z3⟩ := hSW; first | (go_simp; done) | (go_simp; with_reducible rfl))
    try simp only [Act.put, List.setIfInBounds_toArray, List.set_cons_zero, List.set_cons_succ]
    refine wpAnyG_take (i := 7) (oi := { dst := some 31, op := Op.move (Operand.tmp 38), type := 93, pos := "checker.go:103", after := #[{ on := 6, ground := Ground.data }], guard := none }) (v := ?_) rfl (by decide) (by kernel_rfl) (by kernel_rfl) (by kernel_rfl) (fun _ _ _ h => h) (Or.inl ⟨by rfl, ?_⟩) (by assumption) ?_
    rotate_left 1
    · (intro W hSW; (try dsimp only at hSW); obtain ⟨z0, z1, z2, z3⟩ := hSW; first | (go_simp; done) | (go_simp; with_reducible rfl))
    try simp only [Act.put, List.setIfInBounds_toArray, List.set_cons_zero, List.set_cons_succ]
    refine wpAnyG_take (i := 8) (oi := { dst := some 39, op := Op.extract (Operand.tmp 31) 0, type := 4, pos := "checker.go:103", after := #[{ on := 7, ground := Ground.data }], guard := none }) (v := ?_) rfl (by decide) (by kernel_rfl) (by kernel_rfl) (by kernel_rfl) (fun _ _ _ h => h) (Or.inl ⟨by rfl, ?_⟩) (by assumption) ?_
    rotate_left 1
    · (intro W hSW; (try dsimp only at hSW); obtain ⟨z0, z1, z2, z3⟩ := hSW; first | (go_simp; done) | (go_simp; with_reducible rfl))
    try simp only [Act.put, List.setIfInBounds_toArray, List.set_cons_zero, List.set_cons_succ]
    refine wpAnyG_take (i := 9) (oi := { dst := some 40, op := Op.extract (Operand.tmp 31) 1, type := 4, pos := "checker.go:103", after := #[{ on := 7, ground := Ground.data }, { on := 10, ground := Ground.gcOnly Departure.lateStores }], guard := none }) (v := ?_) rfl (by decide) (by kernel_rfl) (by kernel_rfl) (by kernel_rfl) (fun _ _ _ h => h) (Or.inl ⟨by rfl, ?_⟩) (by assumption) ?_
    rotate_left 1
    · (intro W hSW; (try dsimp only at hSW); obtain ⟨z0, z1, z2, z3⟩ := hSW; first | (go_simp; done) | (go_simp; with_reducible rfl))
    try simp only [Act.put, List.setIfInBounds_toArray, List.set_cons_zero, List.set_cons_succ]
    refine wpAnyG_take (i := 10) (oi := { dst := some 6, op := Op.assign (Operand.tmp 39), type := 4, pos := "checker.go:103", after := #[{ on := 8, ground := Ground.data }, { on := 0, ground := Ground.phase }, { on := 1, ground := Ground.phase }, { on := 2, ground := Ground.phase }, { on := 3, ground := Ground.phase }, { on := 4, ground := Ground.phase }, { on := 5, ground := Ground.phase }, { on := 6, ground := Ground.phase }, { on := 7, ground := Ground.phase }, { on := 8, ground := Ground.phase }, { on := 9, ground := Ground.textOnly Departure.lateStores }], guard := none }) (v := ?_) rfl (by decide) (by kernel_rfl) (by kernel_rfl) (by kernel_rfl) (fun _ _ _ h => h) (Or.inl ⟨by rfl, ?_⟩) (by assumption) ?_
    rotate_left 1
    · (intro W hSW; (try dsimp only at hSW); obtain ⟨z0, z1, z2, z3⟩ := hSW; first | (go_simp; done) | (go_simp; with_reducible rfl))
    try simp only [Act.put, List.setIfInBounds_toArray, List.set_cons_zero, List.set_cons_succ]
    refine wpAnyG_take (i := 11) (oi := { dst := some 7, op := Op.assign (Operand.tmp 40), type := 4, pos := "checker.go:103", after := #[{ on := 9, ground := Ground.data }, { on := 10, ground := Ground.chain }, { on := 0, ground := Ground.phase }, { on := 1, ground := Ground.phase }, { on := 2, ground := Ground.phase }, { on := 3, ground := Ground.phase }, { on := 4, ground := Ground.phase }, { on := 5, ground := Ground.phase }, { on := 6, ground := Ground.phase }, { on := 7, ground := Ground.phase }, { on := 8, ground := Ground.phase }, { on := 9, ground := Ground.phase }, { on := 10, ground := Ground.phase }], guard := none }) (v := ?_) rfl (by decide) (by kernel_rfl) (by kernel_rfl) (by kernel_rfl) (fun _ _ _ h => h) (Or.inl ⟨by rfl, ?_⟩) (by assumption) ?_
    rotate_left 1
    · (intro W hSW; (try dsimp only at hSW); obtain ⟨z0, z1, z2, z3⟩ := hSW; first | (go_simp; done) | (go_simp; with_reducible rfl))
    try simp only [Act.put, List.setIfInBounds_toArray, List.set_cons_zero, List.set_cons_succ]
    refine wpAnyG_done (by kernel_rfl) ?_ _
    clear hHeld
    obtain ⟨w4, hw4⟩ : ∃ z, w3.drew = z := ⟨_, rfl⟩
    have HB4 : Hid (BoxM w0 K b s N v0 bm ps w4 ∧ w4.heap[bp]? = some (.cells #[.pointer (some ⟨b, 0, none⟩)] 49 (0, 0)) ∧ w4.heap[bx]? = some (.cells #[.int .i64 kd, .slice la ln lc, .int .i64 (yk : Int)] 46 (0, 0)) ∧ w4.heap[bs]? = some (.cells #[.slice sa sn sc] 34 (0, 0))) := Lib.hid (by
      have hgd : w3.grownBy w4 none := by rw [← hw4]; exact grown_drew w3 none
      have hg14 := HB3.out.2.2.trans hgd
      refine ⟨HB3.out.1.later hgd, (hg14.block bp (Array.getElem?_eq_some_iff.1 HB1.out.2.2.1).1 (by simp)).trans HB1.out.2.2.1, (hg14.block bx (Array.getElem?_eq_some_iff.1 HB1.out.2.2.2).1 (by simp)).trans HB1.out.2.2.2, (hgd.block bs (Array.getElem?_eq_some_iff.1 HB3.out.2.1).1 (by simp)).trans HB3.out.2.1⟩)
    rw [hw4]
    clear hw4 HB3 HS4 HS3 HS1
    cases kok with
    | true =>
      obtain ⟨vd, hvd⟩ : ∃ z, kv = z := ⟨_, rfl⟩
      have HVD : Hid (symB K.V0 K.F S = vd) := Lib.hid (by rw [← hvd]; exact (HLV.out rfl).symm)
      obtain ⟨M, hM⟩ : ∃ z, N = z := ⟨_, rfl⟩
      have HB9 : Hid (BoxM w0 K b s M v0 bm ps w4 ∧ w4.heap[bp]? = some (.cells #[.pointer (some ⟨b, 0, none⟩)] 49 (0, 0)) ∧ w4.heap[bx]? = some (.cells #[.int .i64 kd, .slice la ln lc, .int .i64 (yk : Int)] 46 (0, 0)) ∧ w4.heap[bs]? = some (.cells #[.slice sa sn sc] 34 (0, 0))) := Lib.hid (by rw [← hM]; exact HB4.out)
      have HM : Hid (M ≤ N + 1) := Lib.hid (by omega)
      rw [hvd]
      clear hvd hM HLV HB4
      obtain ⟨w9, hw9⟩ : ∃ z, w4 = z := ⟨_, rfl⟩
      rw [hw9] at HB9 ⊢
      clear hw9
      cases vd with
      | false =>
        have HR : Hid (syB K.fs K.Y s.2 (kd, L, (yk : Int)) = false) := Lib.hid (by unfold syB; simp only [HGD.out]; rw [show symB K.fs.1 K.fs.2 S = false from HVD.out, Bool.false_and, Bool.and_false])
        go_wp2_with fail
        go_ret
        exact ⟨by rw [HR.out]; rfl, (fun h => by rw [HR.out] at h; cases h), HB9.out.1.grown⟩
      | true =>
        obtain ⟨va, vc, rfl, hcls⟩ := HB9.out.1.shape
        obtain ⟨n, hn⟩ : ∃ z, s.2.length = z := ⟨_, rfl⟩
        have hnl : n ≤ 1000 := by have := HF.out.1.fit.len; omega
        have q9 : w9.cell? ⟨bx, 1, none⟩ = some (.slice la ln lc) := by simp [World.cell?, HB9.out.2.2.1]
        have HSA : Hid (Calls Tryz.prog 63 #[.slice la ln lc] w9 fun e w' => ∃ bb, e = .returned (.func (.func 92) #[] #[.pointer (some ⟨bb, 0, none⟩)]) ∧ Hid (NormAt w' bb L) ∧ w9.grownBy w' none) := Lib.hid (by
          have := same_calls (M := L) (by have := HF.out.1.len; simp only at this; omega) w9 (HF.out.1.ints.grown HB9.out.1.grown)
          rw [HF.out.2.2.1] at this
          exact this.mono fun e w' ⟨⟨bb, h1, _, h3⟩, h4⟩ => ⟨bb, h1, Lib.hid h3, h4⟩)
        have HCL := Lib.hid hcls
        clear hcls
        go_wp2_with fail
        refine HSA.out.mono ?_
        rintro e w10 ⟨bb, rfl, HNB, g10⟩
        obtain ⟨b8, hb8⟩ : ∃ z, w10.heap.size = z := ⟨_, rfl⟩
        obtain ⟨W11, hW11⟩ : ∃ z, w10.alloc (.cells #[.func (.func 92) #[] #[.pointer (some ⟨bb, 0, none⟩)]] 63) = z := ⟨_, rfl⟩
        have hg11 : w10.grownBy W11 none ∧ W11.cell? ⟨b8, 0, none⟩ = some (.func (.func 92) #[] #[.pointer (some ⟨bb, 0, none⟩)]) := by
          rw [← hW11, ← hb8]
          refine ⟨World.grownBy_alloc _ _ none, ?_⟩
          have := cell_one_new w10 (.func (.func 92) #[] #[.pointer (some ⟨bb, 0, none⟩)]) 63 0 _ rfl; rwa [add_at] at this
        have HG11 := Lib.hid (g10.trans hg11.1)
        have hB11 := HB9.out.1.later HG11.out
        have x0 := hB11.cells.2.2.2.2.1
        have x1 : W11.cell? ⟨bp, 0, none⟩ = some (.pointer (some ⟨b, 0, none⟩)) := HG11.out.cell (by simp [World.cell?, HB9.out.2.1]) (by simp)
        obtain ⟨fb, hfb⟩ : ∃ z, s.2.any (mapB K.V0 S L) = z := ⟨_, rfl⟩
        have HCT : Hid (Calls Tryz.prog 33 #[.slice va n vc, .func (.func 65) #[] #[.pointer (some ⟨bp, 0, none⟩), .pointer (some ⟨b8, 0, none⟩), .pointer (some ⟨bs, 0, none⟩)]] W11 fun e w' => e = .returned (.bool fb) ∧ W11.grownBy w' none) := Lib.hid (by
          obtain ⟨p1, p2, _⟩ := symB_parts HVD.out
          have x3 : W11.cell? ⟨bs, 0, none⟩ = some (.slice sa S.length sc) := by rw [HSY.out.2.2]; exact HG11.out.cell (by simp [World.cell?, HB9.out.2.2.2]) (by simp)
          have x4 := hB11.cells.1
          have := contains65_calls (F := mapB K.V0 S L) (p0 := .pointer (some ⟨bp, 0, none⟩)) (p1 := .pointer (some ⟨b8, 0, none⟩)) (p2 := .pointer (some ⟨bs, 0, none⟩)) (HCL.out.grown HG11.out) (by omega) (fun z a c W hz hgW hi =>
            symc_calls W bp b b8 bs bb K.V0 L S sa sc (hgW.cell x1 (by simp)) (hgW.cell x4 (by simp)) (hgW.cell hg11.2 (by simp)) (hgW.cell x3 (by simp)) ((HNB.out.grown hg11.1).grown hgW) (HSY.out.2.1.grown (hB11.grown.trans hgW)) (by have := HF.out.1.len; simp only at this; omega) (by have := HF.out.2.1.V; omega) p1 p2 z a c hi (by have := HF.out.1.fit.lits z hz; omega))
          rwa [hn, hfb] at this)
        have HRB : Hid (syB K.fs K.Y s.2 (kd, L, (yk : Int)) = fb) := Lib.hid (by
          unfold syB; simp only [HGD.out]
          rw [show symB K.fs.1 K.fs.2 S = true from HVD.out, decide_eq_true (by have := HF.out.2.2.2; omega), Bool.true_and, Bool.true_and]; exact hfb)
        have HB11 := Lib.hid (And.intro hB11 (And.intro x1 (HG11.out.cell q9 (by simp))))
        rw [hn] at x0
        clear hB11 hg11 hfb q9
        go_wp2_with fail
        clear hW11 hb8
        refine HCT.out.mono ?_
        rintro e w12 ⟨rfl, g12⟩
        have HG12 := Lib.hid g12
        clear g12 x0 x1
        cases fb with
        | false =>
          go_wp2_with fail
          go_ret
          exact ⟨by rw [HRB.out]; rfl, (fun h => by rw [HRB.out] at h; cases h), HB11.out.1.grown.trans HG12.out⟩
        | true =>
          go_wp2_with fail
          obtain ⟨v, hv⟩ : ∃ z, Value.slice va n vc = z := ⟨_, rfl⟩
          have hB5 := HB11.out.1.later HG12.out
          rw [hn, hv] at hB5
          obtain ⟨i0, hi0, hz0, hz1, hz2⟩ := info_parts info34
          have hdr12 : w12.grownBy w12.drew none := grown_drew w12 none
          have HB5 := Lib.hid hB5
          have HROW : Hid (w12.ownsRow w0.heap.size 34 1 v n (ps.map encP)) := Lib.hid (by have := hB5.row; rwa [hn] at this)
          have HST : Hid (∀ W, w12.grownBy W none → (W.cell? ⟨bp, 0, none⟩ = some (.pointer (some ⟨b, 0, none⟩)) ∧ W.cell? ⟨bx, 1, none⟩ = some (.slice la ln lc)) ∧ (W.cell? ⟨b, 4, none⟩ = some v ∧ W.frozen? ⟨b, 4, none⟩ = false)) := Lib.hid (fun W hg => by
            obtain ⟨_, _, _, _, k4, _, kf⟩ := (HB5.out.later hg).cells
            exact ⟨⟨(HG12.out.trans hg).cell HB11.out.2.1 (by simp), (HG12.out.trans hg).cell HB11.out.2.2 (by simp)⟩, k4, kf 4⟩)
          have HBS : Hid (∀ W, w12.grownBy W none → w0.heap.size ≤ W.heap.size) := Lib.hid (fun W hg => (HB5.out.grown.trans hg).size)
          have HBXN : Hid (some bx ≠ v.ownBlock ∧ some b ≠ v.ownBlock ∧ bx ≠ b ∧ some bp ≠ v.ownBlock ∧ bp ≠ b) := Lib.hid (by
            have hgg := HG11.out.trans HG12.out
            have hx5 := (hgg.block bx (Array.getElem?_eq_some_iff.1 HB9.out.2.2.1).1 (by simp)).trans HB9.out.2.2.1
            have hp5 := (hgg.block bp (Array.getElem?_eq_some_iff.1 HB9.out.2.1).1 (by simp)).trans HB9.out.2.1
            have own : ∀ (g : Nat) (cs : Array Value) (T : TypeId), w12.heap[g]? = some (.cells cs T (0, 0)) → T ≠ 34 → some g ≠ v.ownBlock := fun g cs T hh hT e => by
              rcases HROW.out.2 with ⟨e2, _⟩ | ⟨g', cap, cur, e2, _, hb, _⟩
              · rw [e2] at e; cases e
              · rw [e2] at e; cases e; rw [hh] at hb; injection hb with h5; injection h5 with _ h6; exact hT h6
            refine ⟨own _ _ _ hx5 (by decide), own _ _ _ HB5.out.hp (by decide), fun e => ?_, own _ _ _ hp5 (by decide), fun e => ?_⟩
            · subst e; rw [HB5.out.hp] at hx5; injection hx5 with h5; injection h5 with _ h6; exact absurd h6 (by decide)
            · subst e; rw [HB5.out.hp] at hp5; injection hp5 with h5; injection h5 with _ h6; exact absurd h6 (by decide))
          have HST6 : Hid (∀ W W', w12.grownBy W none → W.grownBy W' v.ownBlock → (W'.cell? ⟨bp, 0, none⟩ = some (.pointer (some ⟨b, 0, none⟩)) ∧ W'.cell? ⟨bx, 1, none⟩ = some (.slice la ln lc)) ∧ (W'.cell? ⟨b, 4, none⟩ = some v ∧ W'.frozen? ⟨b, 4, none⟩ = false)) := Lib.hid (fun W W' hg hg' => by
            obtain ⟨⟨k0, k1⟩, k2, k3⟩ := HST.out W hg
            have hbl : b < W.heap.size := World.block_lt_of_cell? W _ k2
            refine ⟨⟨hg'.cell k0 HBXN.out.2.2.2.1, hg'.cell k1 HBXN.out.1⟩, hg'.cell k2 HBXN.out.2.1, ?_⟩
            rw [World.frozen?_of_block (hg'.block b hbl HBXN.out.2.1)]; exact k3)
          have HSS : Hid (∀ (W : World) (u : Value), (W.cell? ⟨bp, 0, none⟩ = some (.pointer (some ⟨b, 0, none⟩)) ∧ W.cell? ⟨bx, 1, none⟩ = some (.slice la ln lc)) → ((W.setCell ⟨b, 4, none⟩ u).cell? ⟨bp, 0, none⟩ = some (.pointer (some ⟨b, 0, none⟩)) ∧ (W.setCell ⟨b, 4, none⟩ u).cell? ⟨bx, 1, none⟩ = some (.slice la ln lc))) := Lib.hid (fun W u hh => by
            rw [World.cell?_setCell_other _ _ _ _ (by intro e; injection e with e _; exact HBXN.out.2.2.2.2 e.symm), World.cell?_setCell_other _ _ _ _ (by intro e; injection e with e _; exact HBXN.out.2.2.1 e.symm)]; exact hh)
          rw [hv]
          have HN := Lib.hid hn
          clear hv hB5 hn
          refine wp_region_gone_drew (S := (fun Wh : World => Wh.cell? ⟨bp, 0, none⟩ = some (.pointer (some ⟨b, 0, none⟩)) ∧ Wh.cell? ⟨bx, 1, none⟩ = some (.slice la ln lc))) (T := (fun Wh : World => Wh.cell? ⟨b, 4, none⟩ = some v ∧ Wh.frozen? ⟨b, 4, none⟩ = false)) (m := 11) (by kernel_rfl) ⟨(HST.out _ hdr12).1, (HST.out _ hdr12).2⟩ (fun hHeld => ?_)
          refine wpAnyG_takeT (i := 0) (oi := { dst := some 68, op := Op.load 49 (Operand.tmp 2), type := 49, pos := "checker.go:116", after := #[], guard := none }) (v := ?_) rfl rfl (by kernel_rfl) (by decide) (by kernel_rfl) (by kernel_rfl) (by kernel_rfl) (by kernel_rfl) (fun _ _ _ h => h) (Or.inl ⟨by rfl, ?_⟩) (by assumption) ?_
          rotate_left 1
          · (intro W hSW; (try dsimp only at hSW); first | (obtain ⟨⟨z0, z1⟩, z2, z3⟩ := hSW; go_simp; done) | (obtain ⟨z0, z1⟩ := hSW; go_simp; done) | (obtain ⟨z0, z1⟩ := hSW; go_simp; with_reducible rfl))
          try simp only [Act.put, List.setIfInBounds_toArray, List.set_cons_zero, List.set_cons_succ]
          refine wpAnyG_takeT (i := 1) (oi := { dst := some 69, op := Op.load 49 (Operand.tmp 2), type := 49, pos := "checker.go:116", after := #[], guard := none }) (v := ?_) rfl rfl (by kernel_rfl) (by decide) (by kernel_rfl) (by kernel_rfl) (by kernel_rfl) (by kernel_rfl) (fun _ _ _ h => h) (Or.inl ⟨by rfl, ?_⟩) (by assumption) ?_
          rotate_left 1
          · (intro W hSW; (try dsimp only at hSW); first | (obtain ⟨⟨z0, z1⟩, z2, z3⟩ := hSW; go_simp; done) | (obtain ⟨z0, z1⟩ := hSW; go_simp; done) | (obtain ⟨z0, z1⟩ := hSW; go_simp; with_reducible rfl))
          try simp only [Act.put, List.setIfInBounds_toArray, List.set_cons_zero, List.set_cons_succ]
          refine wpAnyG_takeT (i := 2) (oi := { dst := some 70, op := Op.nilCheck (Operand.tmp 69), type := 0, pos := "checker.go:116", after := #[{ on := 1, ground := Ground.data }], guard := none }) (v := ?_) rfl rfl (by kernel_rfl) (by decide) (by kernel_rfl) (by kernel_rfl) (by kernel_rfl) (by kernel_rfl) (fun _ _ _ h => h) (Or.inl ⟨by rfl, ?_⟩) (by assumption) ?_
          rotate_left 1
          · (intro W hSW; (try dsimp only at hSW); first | (obtain ⟨⟨z0, z1⟩, z2, z3⟩ := hSW; go_simp; done) | (obtain ⟨z0, z1⟩ := hSW; go_simp; done) | (obtain ⟨z0, z1⟩ := hSW; go_simp; with_reducible rfl))
          try simp only [Act.put, List.setIfInBounds_toArray, List.set_cons_zero, List.set_cons_succ]
          refine wpAnyG_take (i := 3) (oi := { dst := some 71, op := Op.fieldAddr 53 (Operand.tmp 70) 3, type := 0, pos := "checker.go:116", after := #[{ on := 2, ground := Ground.data }], guard := none }) (v := ?_) rfl (by decide) (by kernel_rfl) (by kernel_rfl) (by kernel_rfl) (fun _ _ _ h => h) (Or.inl ⟨by rfl, ?_⟩) (by assumption) ?_
          rotate_left 1
          · (intro W hSW; (try dsimp only at hSW); first | (obtain ⟨⟨z0, z1⟩, z2, z3⟩ := hSW; go_simp; done) | (obtain ⟨z0, z1⟩ := hSW; go_simp; done) | (obtain ⟨z0, z1⟩ := hSW; go_simp; with_reducible rfl))
          try simp only [Act.put, List.setIfInBounds_toArray, List.set_cons_zero, List.set_cons_succ]
          refine wpAnyG_takeT (i := 4) (oi := { dst := some 72, op := Op.load 22 (Operand.tmp 71), type := 22, pos := "checker.go:116", after := #[{ on := 3, ground := Ground.data }], guard := none }) (v := ?_) rfl rfl (by kernel_rfl) (by decide) (by kernel_rfl) (by kernel_rfl) (by kernel_rfl) (by kernel_rfl) (fun _ _ _ h => h) (Or.inl ⟨by rfl, ?_⟩) (by assumption) ?_
          rotate_left 1
          · (intro W hSW; (try dsimp only at hSW); first | (obtain ⟨⟨z0, z1⟩, z2, z3⟩ := hSW; go_simp; done) | (obtain ⟨z0, z1⟩ := hSW; go_simp; done) | (obtain ⟨z0, z1⟩ := hSW; go_simp; with_reducible rfl))
          try simp only [Act.put, List.setIfInBounds_toArray, List.set_cons_zero, List.set_cons_succ]
          refine wpAnyG_take (i := 5) (oi := { dst := some 73, op := Op.fieldAddr 46 (Operand.tmp 3) 1, type := 0, pos := "checker.go:116", after := #[], guard := none }) (v := ?_) rfl (by decide) (by kernel_rfl) (by kernel_rfl) (by kernel_rfl) (fun _ _ _ h => h) (Or.inl ⟨by rfl, ?_⟩) (by assumption) ?_
          rotate_left 1
          · (intro W hSW; (try dsimp only at hSW); first | (obtain ⟨⟨z0, z1⟩, z2, z3⟩ := hSW; go_simp; done) | (obtain ⟨z0, z1⟩ := hSW; go_simp; done) | (obtain ⟨z0, z1⟩ := hSW; go_simp; with_reducible rfl))
          try simp only [Act.put, List.setIfInBounds_toArray, List.set_cons_zero, List.set_cons_succ]
          refine wpAnyG_takeT (i := 6) (oi := { dst := some 74, op := Op.load 34 (Operand.tmp 73), type := 34, pos := "checker.go:116", after := #[{ on := 5, ground := Ground.data }], guard := none }) (v := ?_) rfl rfl (by kernel_rfl) (by decide) (by kernel_rfl) (by kernel_rfl) (by kernel_rfl) (by kernel_rfl) (fun _ _ _ h => h) (Or.inl ⟨by rfl, ?_⟩) (by assumption) ?_
          rotate_left 1
          · (intro W hSW; (try dsimp only at hSW); first | (obtain ⟨⟨z0, z1⟩, z2, z3⟩ := hSW; go_simp; done) | (obtain ⟨z0, z1⟩ := hSW; go_simp; done) | (obtain ⟨z0, z1⟩ := hSW; go_simp; with_reducible rfl))
          try simp only [Act.put, List.setIfInBounds_toArray, List.set_cons_zero, List.set_cons_succ]
          refine wpAnyG_ready (rs := [7]) (by kernel_rfl) (by simp) ?_
          refine (AllReadyG.cons (o := { dst := some 75, op := Op.buildSlice 22 1 #[(0, Operand.tmp 74)], type := 22, pos := "checker.go:116", after := #[{ on := 6, ground := Ground.data }], guard := none }) rfl (fun K hK => ?_) AllReadyG.nil)
          rw [if_pos (by rfl)]
          go_simp
          have haA : ∀ r, w12.grownBy ((World.alloc w12 (.cells #[.slice la ln lc] 34)).drew) r := fun r => (World.grownBy_alloc w12 _ r).trans (grown_drew _ r)
          have hnA : ∀ j u, [Value.slice la ln lc][j]? = some u → ((World.alloc w12 (.cells #[.slice la ln lc] 34)).drew).cell? ((⟨w12.heap.size, 0, none⟩ : Addr).add j) = some u := cell_one_new w12 _ _
          obtain ⟨WA, hWA⟩ : ∃ WA, (World.alloc w12 (.cells #[.slice la ln lc] 34)).drew = WA := ⟨_, rfl⟩
          rw [hWA] at haA hnA ⊢
          clear hWA
          have hA := haA none
          have hST := HST.out _ hA
          refine hK.out _ _ ⟨hST.1, .inr hST.2⟩ (fun hHeld => ?_)
          clear hK K
          try simp only [Act.put, List.setIfInBounds_toArray, List.set_cons_zero, List.set_cons_succ]
          refine wpAnyG_ready (rs := [8]) (by kernel_rfl) (by simp) ?_
          refine (AllReadyG.cons (o := { dst := some 76, op := Op.call { callee := Callee.builtin Builtin.append, args := #[Operand.tmp 72, Operand.tmp 75], argTypes := #[22, 22] }, type := 22, pos := "checker.go:116", after := #[{ on := 4, ground := Ground.data }, { on := 7, ground := Ground.data }], guard := none }) rfl (fun K hK => ?_) AllReadyG.nil)
          refine ready_append_g 22 34 (.tmp 72) (.tmp 75) rfl rfl Tryz.underlying22 hi0 hz0 hz1 hz2 rfl (by decide) (by omega) w0.heap.size v n (ps.map encP) rfl (own_grown HROW.out hA) ⟨w12.heap.size, 0, none⟩ [.slice la ln lc] rfl rfl hnA (fun u hu => by simp at hu; subst hu; rfl) (by omega) (HBS.out _ hA) (fun v' w6 hown' hgrow6 hat6 => ?_)
          obtain ⟨rgA, rcA, rfl⟩ := own_shape hown'
          have hST6 := HST6.out _ _ hA hgrow6
          refine hK.out _ _ ⟨hST6.1, .inr hST6.2⟩ (fun hHeld => ?_)
          clear hK K
          try simp only [Act.put, List.setIfInBounds_toArray, List.set_cons_zero, List.set_cons_succ]
          refine wpAnyG_take (i := 9) (oi := { dst := some 77, op := Op.nilCheck (Operand.tmp 68), type := 0, pos := "checker.go:116", after := #[{ on := 0, ground := Ground.data }, { on := 0, ground := Ground.phase }, { on := 1, ground := Ground.phase }, { on := 2, ground := Ground.phase }, { on := 3, ground := Ground.phase }, { on := 4, ground := Ground.phase }, { on := 5, ground := Ground.phase }, { on := 6, ground := Ground.phase }, { on := 7, ground := Ground.phase }, { on := 8, ground := Ground.phase }], guard := none }) (v := ?_) rfl (by decide) (by kernel_rfl) (by kernel_rfl) (by kernel_rfl) (fun _ _ _ h => h) (Or.inl ⟨by rfl, ?_⟩) (by assumption) ?_
          rotate_left 1
          · (intro W hSW; (try dsimp only at hSW); first | (obtain ⟨⟨z0, z1⟩, z2, z3⟩ := hSW; go_simp; done) | (obtain ⟨z0, z1⟩ := hSW; go_simp; done) | (obtain ⟨z0, z1⟩ := hSW; go_simp; with_reducible rfl))
          try simp only [Act.put, List.setIfInBounds_toArray, List.set_cons_zero, List.set_cons_succ]
          refine wpAnyG_take (i := 10) (oi := { dst := some 78, op := Op.fieldAddr 53 (Operand.tmp 77) 3, type := 0, pos := "checker.go:116", after := #[{ on := 9, ground := Ground.data }, { on := 0, ground := Ground.phase }, { on := 1, ground := Ground.phase }, { on := 2, ground := Ground.phase }, { on := 3, ground := Ground.phase }, { on := 4, ground := Ground.phase }, { on := 5, ground := Ground.phase }, { on := 6, ground := Ground.phase }, { on := 7, ground := Ground.phase }, { on := 8, ground := Ground.phase }], guard := none }) (v := ?_) rfl (by decide) (by kernel_rfl) (by kernel_rfl) (by kernel_rfl) (fun _ _ _ h => h) (Or.inl ⟨by rfl, ?_⟩) (by assumption) ?_
          rotate_left 1
          · (intro W hSW; (try dsimp only at hSW); first | (obtain ⟨⟨z0, z1⟩, z2, z3⟩ := hSW; go_simp; done) | (obtain ⟨z0, z1⟩ := hSW; go_simp; done) | (obtain ⟨z0, z1⟩ := hSW; go_simp; with_reducible rfl))
          try simp only [Act.put, List.setIfInBounds_toArray, List.set_cons_zero, List.set_cons_succ]
          refine wpAnyG_ready (rs := [11]) (by kernel_rfl) (by simp) ?_
          refine (AllReadyG.cons (o := { dst := none, op := Op.store 22 (Operand.tmp 78) (Operand.tmp 76), type := 0, pos := "checker.go:116", after := #[{ on := 10, ground := Ground.data }, { on := 8, ground := Ground.data }, { on := 8, ground := Ground.chain }, { on := 0, ground := Ground.phase }, { on := 1, ground := Ground.phase }, { on := 2, ground := Ground.phase }, { on := 3, ground := Ground.phase }, { on := 4, ground := Ground.phase }, { on := 5, ground := Ground.phase }, { on := 6, ground := Ground.phase }, { on := 7, ground := Ground.phase }, { on := 8, ground := Ground.phase }], guard := none }) rfl (fun K hK => ?_) AllReadyG.nil)
          rw [if_pos (by rfl)]
          obtain ⟨s1, s2⟩ := hST6.2
          go_simp
          refine hK.out _ _ ⟨HSS.out _ _ hST6.1, .inl (by rfl)⟩ (fun hHeld => ?_)
          clear hK K
          try simp only [Act.put, List.setIfInBounds_toArray, List.set_cons_zero, List.set_cons_succ]
          refine wpAnyG_done (by kernel_rfl) ?_ _
          have HE : Hid (StM w0 K b (s.1, s.2 ++ [L]) (N + 1) (w6.setCell ⟨b, 4, none⟩ (.slice rgA (n + 1) rcA))) := Lib.hid (by
            have hBA := HB5.out.later hA
            have hln := HF.out.2.2.1
            have hp : Ok3 w0.heap.size WA (la, lc, L) := ok3_old HF.out.1.ints hBA.grown
            have e1 : encP (la, lc, L) = .slice la ln lc := by unfold encP; simp only; rw [hln]
            have hr6 : w6.ownsRow w0.heap.size 34 1 (.slice rgA (n + 1) rcA) (s.2.length + 1) (ps.map encP ++ [encP (la, lc, L)]) := by
              rw [e1, HN.out]; exact hown'
            exact StM.more ⟨_, _, _, hBA.app hp hr6 hgrow6⟩ HM.out)
          clear hHeld hST6 s1 s2 hown' hgrow6 hat6 hST hA hnA haA hdr12
          go_wp2_with fail
          go_ret
          exact ⟨by rw [HRB.out]; rfl, fun _ => HE.out, HE.out.grown⟩
    | false =>
      obtain ⟨vd, hvd⟩ : ∃ z, symB K.V0 K.F S = z := ⟨_, rfl⟩
      have HVD := Lib.hid hvd
      obtain ⟨fn, hfn⟩ : ∃ z, K.F.length = z := ⟨_, rfl⟩
      have HSV : Hid (∀ W, w4.grownBy W none → Calls Tryz.prog 17 #[.agg #[.int .i64 (K.V0 : Int), .slice K.fa fn K.fc], .slice sa sn sc] W fun e w' => e = .returned (.bool vd) ∧ W.grownBy w' none) := Lib.hid (fun W hg => by
        have hg0 := HB4.out.1.grown.trans hg
        have := symValid_calls K.V0 K.F K.fa K.fc S sa sc W (HF.out.2.1.f.grown hg0) (HSY.out.2.1.grown hg0) (by have := HF.out.2.1.V; omega) (by have := HF.out.2.1.fl; omega) (fun c hc => by have := HF.out.2.1.fw c hc; omega) (by have := HF.out.2.1.yw S (List.mem_of_getElem? HSY.out.1); omega)
        rwa [hfn, HSY.out.2.2, hvd] at this)
      have HS6 : Hid (∀ W, w4.grownBy W none → W.cell? ⟨bp, 0, none⟩ = some (.pointer (some ⟨b, 0, none⟩)) ∧ W.cell? ⟨b, 0, none⟩ = some (.int .i64 (K.V0 : Int)) ∧ W.cell? ⟨b, 1, none⟩ = some (.slice K.fa fn K.fc) ∧ W.cell? ⟨bs, 0, none⟩ = some (.slice sa sn sc)) := Lib.hid (fun W hg => by
        obtain ⟨k0, k1, _⟩ := (HB4.out.1.later hg).cells
        rw [hfn] at k1
        exact ⟨hg.cell (by simp [World.cell?, HB4.out.2.1]) (by simp), k0, k1, hg.cell (by simp [World.cell?, HB4.out.2.2.2]) (by simp)⟩)
      have hdr6 : w4.grownBy w4.drew none := grown_drew w4 none
      clear hvd hfn
      go_wp2_with fail
      refine wp_region_gone_drew (S := (fun Wh : World => Wh.cell? ⟨bp, 0, none⟩ = some (.pointer (some ⟨b, 0, none⟩)) ∧ Wh.cell? ⟨b, 0, none⟩ = some (.int .i64 (K.V0 : Int)) ∧ Wh.cell? ⟨b, 1, none⟩ = some (.slice K.fa fn K.fc) ∧ Wh.cell? ⟨bs, 0, none⟩ = some (.slice sa sn sc))) (T := (fun _ => True)) (m := 999) (by kernel_rfl) ⟨HS6.out _ hdr6, trivial⟩ (fun hHeld => ?_)
      refine wpAnyG_take (i := 0) (oi := { dst := some 43, op := Op.load 49 (Operand.tmp 2), type := 49, pos := "checker.go:105", after := #[], guard := none }) (v := ?_) rfl (by decide) (by kernel_rfl) (by kernel_rfl) (by kernel_rfl) (fun _ _ _ h => h) (Or.inl ⟨by rfl, ?_⟩) (by assumption) ?_
      rotate_left 1
      · (intro W hSW; (try dsimp only at hSW); obtain ⟨z0, z1, z2, z3⟩ := hSW; first | (go_simp; done) | (go_simp; with_reducible rfl))
      try simp only [Act.put, List.setIfInBounds_toArray, List.set_cons_zero, List.set_cons_succ]
      refine wpAnyG_take (i := 1) (oi := { dst := some 44, op := Op.nilCheck (Operand.tmp 43), type := 0, pos := "checker.go:105", after := #[{ on := 0, ground := Ground.data }], guard := none }) (v := ?_) rfl (by decide) (by kernel_rfl) (by kernel_rfl) (by kernel_rfl) (fun _ _ _ h => h) (Or.inl ⟨by rfl, ?_⟩) (by assumption) ?_
      rotate_left 1
      · (intro W hSW; (try dsimp only at hSW); obtain ⟨z0, z1, z2, z3⟩ := hSW; first | (go_simp; done) | (go_simp; with_reducible rfl))
      try simp only [Act.put, List.setIfInBounds_toArray, List.set_cons_zero, List.set_cons_succ]
      refine wpAnyG_take (i := 2) (oi := { dst := some 45, op := Op.fieldAddr 53 (Operand.tmp 44) 0, type := 0, pos := "checker.go:105", after := #[{ on := 1, ground := Ground.data }], guard := none }) (v := ?_) rfl (by decide) (by kernel_rfl) (by kernel_rfl) (by kernel_rfl) (fun _ _ _ h => h) (Or.inl ⟨by rfl, ?_⟩) (by assumption) ?_
      rotate_left 1
      · (intro W hSW; (try dsimp only at hSW); obtain ⟨z0, z1, z2, z3⟩ := hSW; first | (go_simp; done) | (go_simp; with_reducible rfl))
      try simp only [Act.put, List.setIfInBounds_toArray, List.set_cons_zero, List.set_cons_succ]
      refine wpAnyG_take (i := 3) (oi := { dst := some 46, op := Op.load 24 (Operand.tmp 45), type := 24, pos := "checker.go:105", after := #[{ on := 2, ground := Ground.data }], guard := none }) (v := ?_) rfl (by decide) (by kernel_rfl) (by kernel_rfl) (by kernel_rfl) (fun _ _ _ h => h) (Or.inl ⟨by rfl, ?_⟩) (by assumption) ?_
      rotate_left 1
      · (intro W hSW; (try dsimp only at hSW); obtain ⟨z0, z1, z2, z3⟩ := hSW; first | (go_simp; done) | (go_simp; with_reducible rfl))
      try simp only [Act.put, List.setIfInBounds_toArray, List.set_cons_zero, List.set_cons_succ]
      refine wpAnyG_take (i := 4) (oi := { dst := some 47, op := Op.load 34 (Operand.tmp 5), type := 34, pos := "checker.go:105", after := #[], guard := none }) (v := ?_) rfl (by decide) (by kernel_rfl) (by kernel_rfl) (by kernel_rfl) (fun _ _ _ h => h) (Or.inl ⟨by rfl, ?_⟩) (by assumption) ?_
      rotate_left 1
      · (intro W hSW; (try dsimp only at hSW); obtain ⟨z0, z1, z2, z3⟩ := hSW; first | (go_simp; done) | (go_simp; with_reducible rfl))
      try simp only [Act.put, List.setIfInBounds_toArray, List.set_cons_zero, List.set_cons_succ]
      refine wpAnyG_ready (rs := [5]) (by kernel_rfl) (by simp) ?_
      refine (AllReadyG.cons (o := { dst := some 48, op := Op.call { callee := Callee.value (Operand.func 17), args := #[Operand.tmp 46, Operand.tmp 47], argTypes := #[24, 34] }, type := 4, pos := "checker.go:105", after := #[{ on := 3, ground := Ground.data }, { on := 4, ground := Ground.data }], guard := none }) rfl (fun K hK => ?_) AllReadyG.nil)
      rw [if_pos (by rfl)]
      go_simp
      go_at_call 17
      refine (HSV.out _ hdr6).mono ?_
      rintro e w8 ⟨rfl, g8⟩
      have hgr8 := World.grownBy.trans hdr6 g8
      go_wp2_with fail
      refine hK.out _ _ ⟨HS6.out _ hgr8, .inr trivial⟩ (fun hHeld => ?_)
      clear hK K
      try simp only [Act.put, List.setIfInBounds_toArray, List.set_cons_zero, List.set_cons_succ]
      refine wpAnyG_take (i := 6) (oi := { dst := some 6, op := Op.assign (Operand.tmp 48), type := 4, pos := "checker.go:105", after := #[{ on := 5, ground := Ground.data }, { on := 5, ground := Ground.chain }, { on := 0, ground := Ground.phase }, { on := 1, ground := Ground.phase }, { on := 2, ground := Ground.phase }, { on := 3, ground := Ground.phase }, { on := 4, ground := Ground.phase }, { on := 5, ground := Ground.phase }], guard := none }) (v := ?_) rfl (by decide) (by kernel_rfl) (by kernel_rfl) (by kernel_rfl) (fun _ _ _ h => h) (Or.inl ⟨by rfl, ?_⟩) (by assumption) ?_
      rotate_left 1
      · (intro W hSW; (try dsimp only at hSW); obtain ⟨z0, z1, z2, z3⟩ := hSW; first | (go_simp; done) | (go_simp; with_reducible rfl))
      try simp only [Act.put, List.setIfInBounds_toArray, List.set_cons_zero, List.set_cons_succ]
      refine wpAnyG_done (by kernel_rfl) ?_ _
      have HG8 := Lib.hid hgr8
      clear hHeld hdr6 g8 hgr8
      have HKN : Hid (KnownM K w8.drew bm N) := Lib.hid ((HB4.out.1.map.kept HG8.out (by simp)).kept (grown_drew w8 none) (by simp))
      have HN1 : Hid (N ≤ 1000000) := Lib.hid (by have := HF.out.1.cnt; omega)
      have HVAL : Hid (symB K.V0 K.F (K.Y.getD (yk : Int).toNat []) = vd) := Lib.hid (by rw [HGD.out]; exact HVD.out)
      have HB8 : Hid (BoxM w0 K b s N v0 bm ps w8.drew ∧ w8.drew.heap[bp]? = some (.cells #[.pointer (some ⟨b, 0, none⟩)] 49 (0, 0)) ∧ w8.drew.heap[bx]? = some (.cells #[.int .i64 kd, .slice la ln lc, .int .i64 (yk : Int)] 46 (0, 0)) ∧ w8.drew.heap[bs]? = some (.cells #[.slice sa sn sc] 34 (0, 0))) := Lib.hid (by
        have hgd := HG8.out.trans (grown_drew w8 none)
        exact ⟨HB4.out.1.later hgd, (hgd.block bp (Array.getElem?_eq_some_iff.1 HB4.out.2.1).1 (by simp)).trans HB4.out.2.1, (hgd.block bx (Array.getElem?_eq_some_iff.1 HB4.out.2.2.1).1 (by simp)).trans HB4.out.2.2.1, (hgd.block bs (Array.getElem?_eq_some_iff.1 HB4.out.2.2.2).1 (by simp)).trans HB4.out.2.2.2⟩)
      have HNE : Hid (bp ≠ bm ∧ bx ≠ bm ∧ bs ≠ bm) := Lib.hid ⟨fun e => HB8.out.1.map.ne_cells HB8.out.2.1 e.symm, fun e => HB8.out.1.map.ne_cells HB8.out.2.2.1 e.symm, fun e => HB8.out.1.map.ne_cells HB8.out.2.2.2 e.symm⟩
      have HS70 : Hid (w8.drew.cell? ⟨bp, 0, none⟩ = some (.pointer (some ⟨b, 0, none⟩)) ∧ w8.drew.cell? ⟨bx, 2, none⟩ = some (.int .i64 (yk : Int)) ∧ w8.drew.cell? ⟨b, 3, none⟩ = some (.map (some bm))) := Lib.hid
        ⟨by simp [World.cell?, HB8.out.2.1], by simp [World.cell?, HB8.out.2.2.1], HB8.out.1.cells.2.2.2.1⟩
      have HS7 : Hid (∀ W, w8.drew.grownBy W (some bm) → W.cell? ⟨bp, 0, none⟩ = some (.pointer (some ⟨b, 0, none⟩)) ∧ W.cell? ⟨bx, 2, none⟩ = some (.int .i64 (yk : Int)) ∧ W.cell? ⟨b, 3, none⟩ = some (.map (some bm))) := Lib.hid (fun W hg => by
        have hbm : b ≠ bm := fun e => HB8.out.1.map.ne_cells HB8.out.1.hp e.symm
        exact ⟨hg.cell HS70.out.1 (by simp; exact HNE.out.1), hg.cell HS70.out.2.1 (by simp; exact HNE.out.2.1), hg.cell HS70.out.2.2 (by simp; exact hbm)⟩)
      go_wp2_with fail
      refine wp_region_gone_drew (S := (fun Wh : World => Wh.cell? ⟨bp, 0, none⟩ = some (.pointer (some ⟨b, 0, none⟩)) ∧ Wh.cell? ⟨bx, 2, none⟩ = some (.int .i64 (yk : Int)) ∧ Wh.cell? ⟨b, 3, none⟩ = some (.map (some bm)))) (T := (fun _ => True)) (m := 7) (by kernel_rfl) ⟨HS70.out, trivial⟩ (fun hHeld => ?_)
      refine wpAnyG_take (i := 0) (oi := { dst := some 49, op := Op.load 49 (Operand.tmp 2), type := 49, pos := "checker.go:106", after := #[], guard := none }) (v := ?_) rfl (by decide) (by kernel_rfl) (by kernel_rfl) (by kernel_rfl) (fun _ _ _ h => h) (Or.inl ⟨by rfl, ?_⟩) (by assumption) ?_
      rotate_left 1
      · (intro W hSW; (try dsimp only at hSW); obtain ⟨z0, z1, z2⟩ := hSW; first | (go_simp; done) | (go_simp; with_reducible rfl))
      try simp only [Act.put, List.setIfInBounds_toArray, List.set_cons_zero, List.set_cons_succ]
      refine wpAnyG_take (i := 1) (oi := { dst := some 50, op := Op.nilCheck (Operand.tmp 49), type := 0, pos := "checker.go:106", after := #[{ on := 0, ground := Ground.data }], guard := none }) (v := ?_) rfl (by decide) (by kernel_rfl) (by kernel_rfl) (by kernel_rfl) (fun _ _ _ h => h) (Or.inl ⟨by rfl, ?_⟩) (by assumption) ?_
      rotate_left 1
      · (intro W hSW; (try dsimp only at hSW); obtain ⟨z0, z1, z2⟩ := hSW; first | (go_simp; done) | (go_simp; with_reducible rfl))
      try simp only [Act.put, List.setIfInBounds_toArray, List.set_cons_zero, List.set_cons_succ]
      refine wpAnyG_take (i := 2) (oi := { dst := some 51, op := Op.fieldAddr 53 (Operand.tmp 50) 2, type := 0, pos := "checker.go:106", after := #[{ on := 1, ground := Ground.data }], guard := none }) (v := ?_) rfl (by decide) (by kernel_rfl) (by kernel_rfl) (by kernel_rfl) (fun _ _ _ h => h) (Or.inl ⟨by rfl, ?_⟩) (by assumption) ?_
      rotate_left 1
      · (intro W hSW; (try dsimp only at hSW); obtain ⟨z0, z1, z2⟩ := hSW; first | (go_simp; done) | (go_simp; with_reducible rfl))
      try simp only [Act.put, List.setIfInBounds_toArray, List.set_cons_zero, List.set_cons_succ]
      refine wpAnyG_take (i := 3) (oi := { dst := some 52, op := Op.load 50 (Operand.tmp 51), type := 50, pos := "checker.go:106", after := #[{ on := 2, ground := Ground.data }], guard := none }) (v := ?_) rfl (by decide) (by kernel_rfl) (by kernel_rfl) (by kernel_rfl) (fun _ _ _ h => h) (Or.inl ⟨by rfl, ?_⟩) (by assumption) ?_
      rotate_left 1
      · (intro W hSW; (try dsimp only at hSW); obtain ⟨z0, z1, z2⟩ := hSW; first | (go_simp; done) | (go_simp; with_reducible rfl))
      try simp only [Act.put, List.setIfInBounds_toArray, List.set_cons_zero, List.set_cons_succ]
      refine wpAnyG_take (i := 4) (oi := { dst := some 53, op := Op.fieldAddr 46 (Operand.tmp 3) 2, type := 0, pos := "checker.go:106", after := #[], guard := none }) (v := ?_) rfl (by decide) (by kernel_rfl) (by kernel_rfl) (by kernel_rfl) (fun _ _ _ h => h) (Or.inl ⟨by rfl, ?_⟩) (by assumption) ?_
      rotate_left 1
      · (intro W hSW; (try dsimp only at hSW); obtain ⟨z0, z1, z2⟩ := hSW; first | (go_simp; done) | (go_simp; with_reducible rfl))
      try simp only [Act.put, List.setIfInBounds_toArray, List.set_cons_zero, List.set_cons_succ]
      refine wpAnyG_take (i := 5) (oi := { dst := some 54, op := Op.load 3 (Operand.tmp 53), type := 3, pos := "checker.go:106", after := #[{ on := 4, ground := Ground.data }], guard := none }) (v := ?_) rfl (by decide) (by kernel_rfl) (by kernel_rfl) (by kernel_rfl) (fun _ _ _ h => h) (Or.inl ⟨by rfl, ?_⟩) (by assumption) ?_
      rotate_left 1
      · (intro W hSW; (try dsimp only at hSW); obtain ⟨z0, z1, z2⟩ := hSW; first | (go_simp; done) | (go_simp; with_reducible rfl))
      try simp only [Act.put, List.setIfInBounds_toArray, List.set_cons_zero, List.set_cons_succ]
      refine wpAnyG_take (i := 6) (oi := { dst := some 55, op := Op.move (Operand.tmp 6), type := 4, pos := "checker.go:106", after := #[], guard := none }) (v := ?_) rfl (by decide) (by kernel_rfl) (by kernel_rfl) (by kernel_rfl) (fun _ _ _ h => h) (Or.inl ⟨by rfl, ?_⟩) (by assumption) ?_
      rotate_left 1
      · (intro W hSW; (try dsimp only at hSW); obtain ⟨z0, z1, z2⟩ := hSW; first | (go_simp; done) | (go_simp; with_reducible rfl))
      try simp only [Act.put, List.setIfInBounds_toArray, List.set_cons_zero, List.set_cons_succ]
      refine wpAnyG_ready (rs := [7]) (by kernel_rfl) (by simp) ?_
      refine (AllReadyG.cons (o := { dst := none, op := Op.mapUpdate 50 (Operand.tmp 52) (Operand.tmp 54) (Operand.tmp 55), type := 0, pos := "checker.go:106", after := #[{ on := 3, ground := Ground.data }, { on := 5, ground := Ground.data }, { on := 6, ground := Ground.data }, { on := 0, ground := Ground.phase }, { on := 1, ground := Ground.phase }, { on := 2, ground := Ground.phase }, { on := 3, ground := Ground.phase }, { on := 4, ground := Ground.phase }, { on := 5, ground := Ground.phase }, { on := 6, ground := Ground.phase }], guard := none }) rfl (fun K hK => ?_) AllReadyG.nil)
      refine ready_known (.tmp 52) (.tmp 54) (.tmp 55) rfl rfl bm rfl HKN.out HN1.out (yk : Int) rfl HWF.out (by rw [HVAL.out]; rfl) (fun w9 hk9 hg9 => ?_)
      refine hK.out _ _ ⟨HS7.out _ hg9, .inl (by rfl)⟩ (fun hHeld => ?_)
      clear hK K
      try simp only [Act.put]
      refine wpAnyG_done (by kernel_rfl) ?_ _
      have HB9 : Hid (BoxM w0 K b s (N + 1) v0 bm ps w9 ∧ w9.heap[bp]? = some (.cells #[.pointer (some ⟨b, 0, none⟩)] 49 (0, 0)) ∧ w9.heap[bx]? = some (.cells #[.int .i64 kd, .slice la ln lc, .int .i64 (yk : Int)] 46 (0, 0)) ∧ w9.heap[bs]? = some (.cells #[.slice sa sn sc] 34 (0, 0))) := Lib.hid
        ⟨HB8.out.1.known hk9 hg9, (hg9.block bp (Array.getElem?_eq_some_iff.1 HB8.out.2.1).1 (by simp; exact HNE.out.1)).trans HB8.out.2.1, (hg9.block bx (Array.getElem?_eq_some_iff.1 HB8.out.2.2.1).1 (by simp; exact HNE.out.2.1)).trans HB8.out.2.2.1, (hg9.block bs (Array.getElem?_eq_some_iff.1 HB8.out.2.2.2).1 (by simp; exact HNE.out.2.2)).trans HB8.out.2.2.2⟩
      obtain ⟨M, hM⟩ : ∃ z, N + 1 = z := ⟨_, rfl⟩
      rw [hM] at HB9
      have HM : Hid (M ≤ N + 1) := Lib.hid (by omega)
      clear hHeld hk9 hg9 hM HB8 HS7 HS70 HKN HB4 HNE HG8 HS6 HSV HLV HVAL
      cases vd with
      | false =>
        have HR : Hid (syB K.fs K.Y s.2 (kd, L, (yk : Int)) = false) := Lib.hid (by unfold syB; simp only [HGD.out]; rw [show symB K.fs.1 K.fs.2 S = false from HVD.out, Bool.false_and, Bool.and_false])
        go_wp2_with fail
        go_ret
        exact ⟨by rw [HR.out]; rfl, (fun h => by rw [HR.out] at h; cases h), HB9.out.1.grown⟩
      | true =>
        obtain ⟨va, vc, rfl, hcls⟩ := HB9.out.1.shape
        obtain ⟨n, hn⟩ : ∃ z, s.2.length = z := ⟨_, rfl⟩
        have hnl : n ≤ 1000 := by have := HF.out.1.fit.len; omega
        have q9 : w9.cell? ⟨bx, 1, none⟩ = some (.slice la ln lc) := by simp [World.cell?, HB9.out.2.2.1]
        have HSA : Hid (Calls Tryz.prog 63 #[.slice la ln lc] w9 fun e w' => ∃ bb, e = .returned (.func (.func 92) #[] #[.pointer (some ⟨bb, 0, none⟩)]) ∧ Hid (NormAt w' bb L) ∧ w9.grownBy w' none) := Lib.hid (by
          have := same_calls (M := L) (by have := HF.out.1.len; simp only at this; omega) w9 (HF.out.1.ints.grown HB9.out.1.grown)
          rw [HF.out.2.2.1] at this
          exact this.mono fun e w' ⟨⟨bb, h1, _, h3⟩, h4⟩ => ⟨bb, h1, Lib.hid h3, h4⟩)
        have HCL := Lib.hid hcls
        clear hcls
        go_wp2_with fail
        refine HSA.out.mono ?_
        rintro e w10 ⟨bb, rfl, HNB, g10⟩
        obtain ⟨b8, hb8⟩ : ∃ z, w10.heap.size = z := ⟨_, rfl⟩
        obtain ⟨W11, hW11⟩ : ∃ z, w10.alloc (.cells #[.func (.func 92) #[] #[.pointer (some ⟨bb, 0, none⟩)]] 63) = z := ⟨_, rfl⟩
        have hg11 : w10.grownBy W11 none ∧ W11.cell? ⟨b8, 0, none⟩ = some (.func (.func 92) #[] #[.pointer (some ⟨bb, 0, none⟩)]) := by
          rw [← hW11, ← hb8]
          refine ⟨World.grownBy_alloc _ _ none, ?_⟩
          have := cell_one_new w10 (.func (.func 92) #[] #[.pointer (some ⟨bb, 0, none⟩)]) 63 0 _ rfl; rwa [add_at] at this
        have HG11 := Lib.hid (g10.trans hg11.1)
        have hB11 := HB9.out.1.later HG11.out
        have x0 := hB11.cells.2.2.2.2.1
        have x1 : W11.cell? ⟨bp, 0, none⟩ = some (.pointer (some ⟨b, 0, none⟩)) := HG11.out.cell (by simp [World.cell?, HB9.out.2.1]) (by simp)
        obtain ⟨fb, hfb⟩ : ∃ z, s.2.any (mapB K.V0 S L) = z := ⟨_, rfl⟩
        have HCT : Hid (Calls Tryz.prog 33 #[.slice va n vc, .func (.func 65) #[] #[.pointer (some ⟨bp, 0, none⟩), .pointer (some ⟨b8, 0, none⟩), .pointer (some ⟨bs, 0, none⟩)]] W11 fun e w' => e = .returned (.bool fb) ∧ W11.grownBy w' none) := Lib.hid (by
          obtain ⟨p1, p2, _⟩ := symB_parts HVD.out
          have x3 : W11.cell? ⟨bs, 0, none⟩ = some (.slice sa S.length sc) := by rw [HSY.out.2.2]; exact HG11.out.cell (by simp [World.cell?, HB9.out.2.2.2]) (by simp)
          have x4 := hB11.cells.1
          have := contains65_calls (F := mapB K.V0 S L) (p0 := .pointer (some ⟨bp, 0, none⟩)) (p1 := .pointer (some ⟨b8, 0, none⟩)) (p2 := .pointer (some ⟨bs, 0, none⟩)) (HCL.out.grown HG11.out) (by omega) (fun z a c W hz hgW hi =>
            symc_calls W bp b b8 bs bb K.V0 L S sa sc (hgW.cell x1 (by simp)) (hgW.cell x4 (by simp)) (hgW.cell hg11.2 (by simp)) (hgW.cell x3 (by simp)) ((HNB.out.grown hg11.1).grown hgW) (HSY.out.2.1.grown (hB11.grown.trans hgW)) (by have := HF.out.1.len; simp only at this; omega) (by have := HF.out.2.1.V; omega) p1 p2 z a c hi (by have := HF.out.1.fit.lits z hz; omega))
          rwa [hn, hfb] at this)
        have HRB : Hid (syB K.fs K.Y s.2 (kd, L, (yk : Int)) = fb) := Lib.hid (by
          unfold syB; simp only [HGD.out]
          rw [show symB K.fs.1 K.fs.2 S = true from HVD.out, decide_eq_true (by have := HF.out.2.2.2; omega), Bool.true_and, Bool.true_and]; exact hfb)
        have HB11 := Lib.hid (And.intro hB11 (And.intro x1 (HG11.out.cell q9 (by simp))))
        rw [hn] at x0
        clear hB11 hg11 hfb q9
        go_wp2_with fail
        clear hW11 hb8
        refine HCT.out.mono ?_
        rintro e w12 ⟨rfl, g12⟩
        have HG12 := Lib.hid g12
        clear g12 x0 x1
        cases fb with
        | false =>
          go_wp2_with fail
          go_ret
          exact ⟨by rw [HRB.out]; rfl, (fun h => by rw [HRB.out] at h; cases h), HB11.out.1.grown.trans HG12.out⟩
        | true =>
          go_wp2_with fail
          obtain ⟨v, hv⟩ : ∃ z, Value.slice va n vc = z := ⟨_, rfl⟩
          have hB5 := HB11.out.1.later HG12.out
          rw [hn, hv] at hB5
          obtain ⟨i0, hi0, hz0, hz1, hz2⟩ := info_parts info34
          have hdr12 : w12.grownBy w12.drew none := grown_drew w12 none
          have HB5 := Lib.hid hB5
          have HROW : Hid (w12.ownsRow w0.heap.size 34 1 v n (ps.map encP)) := Lib.hid (by have := hB5.row; rwa [hn] at this)
          have HST : Hid (∀ W, w12.grownBy W none → (W.cell? ⟨bp, 0, none⟩ = some (.pointer (some ⟨b, 0, none⟩)) ∧ W.cell? ⟨bx, 1, none⟩ = some (.slice la ln lc)) ∧ (W.cell? ⟨b, 4, none⟩ = some v ∧ W.frozen? ⟨b, 4, none⟩ = false)) := Lib.hid (fun W hg => by
            obtain ⟨_, _, _, _, k4, _, kf⟩ := (HB5.out.later hg).cells
            exact ⟨⟨(HG12.out.trans hg).cell HB11.out.2.1 (by simp), (HG12.out.trans hg).cell HB11.out.2.2 (by simp)⟩, k4, kf 4⟩)
          have HBS : Hid (∀ W, w12.grownBy W none → w0.heap.size ≤ W.heap.size) := Lib.hid (fun W hg => (HB5.out.grown.trans hg).size)
          have HBXN : Hid (some bx ≠ v.ownBlock ∧ some b ≠ v.ownBlock ∧ bx ≠ b ∧ some bp ≠ v.ownBlock ∧ bp ≠ b) := Lib.hid (by
            have hgg := HG11.out.trans HG12.out
            have hx5 := (hgg.block bx (Array.getElem?_eq_some_iff.1 HB9.out.2.2.1).1 (by simp)).trans HB9.out.2.2.1
            have hp5 := (hgg.block bp (Array.getElem?_eq_some_iff.1 HB9.out.2.1).1 (by simp)).trans HB9.out.2.1
            have own : ∀ (g : Nat) (cs : Array Value) (T : TypeId), w12.heap[g]? = some (.cells cs T (0, 0)) → T ≠ 34 → some g ≠ v.ownBlock := fun g cs T hh hT e => by
              rcases HROW.out.2 with ⟨e2, _⟩ | ⟨g', cap, cur, e2, _, hb, _⟩
              · rw [e2] at e; cases e
              · rw [e2] at e; cases e; rw [hh] at hb; injection hb with h5; injection h5 with _ h6; exact hT h6
            refine ⟨own _ _ _ hx5 (by decide), own _ _ _ HB5.out.hp (by decide), fun e => ?_, own _ _ _ hp5 (by decide), fun e => ?_⟩
            · subst e; rw [HB5.out.hp] at hx5; injection hx5 with h5; injection h5 with _ h6; exact absurd h6 (by decide)
            · subst e; rw [HB5.out.hp] at hp5; injection hp5 with h5; injection h5 with _ h6; exact absurd h6 (by decide))
          have HST6 : Hid (∀ W W', w12.grownBy W none → W.grownBy W' v.ownBlock → (W'.cell? ⟨bp, 0, none⟩ = some (.pointer (some ⟨b, 0, none⟩)) ∧ W'.cell? ⟨bx, 1, none⟩ = some (.slice la ln lc)) ∧ (W'.cell? ⟨b, 4, none⟩ = some v ∧ W'.frozen? ⟨b, 4, none⟩ = false)) := Lib.hid (fun W W' hg hg' => by
            obtain ⟨⟨k0, k1⟩, k2, k3⟩ := HST.out W hg
            have hbl : b < W.heap.size := World.block_lt_of_cell? W _ k2
            refine ⟨⟨hg'.cell k0 HBXN.out.2.2.2.1, hg'.cell k1 HBXN.out.1⟩, hg'.cell k2 HBXN.out.2.1, ?_⟩
            rw [World.frozen?_of_block (hg'.block b hbl HBXN.out.2.1)]; exact k3)
          have HSS : Hid (∀ (W : World) (u : Value), (W.cell? ⟨bp, 0, none⟩ = some (.pointer (some ⟨b, 0, none⟩)) ∧ W.cell? ⟨bx, 1, none⟩ = some (.slice la ln lc)) → ((W.setCell ⟨b, 4, none⟩ u).cell? ⟨bp, 0, none⟩ = some (.pointer (some ⟨b, 0, none⟩)) ∧ (W.setCell ⟨b, 4, none⟩ u).cell? ⟨bx, 1, none⟩ = some (.slice la ln lc))) := Lib.hid (fun W u hh => by
            rw [World.cell?_setCell_other _ _ _ _ (by intro e; injection e with e _; exact HBXN.out.2.2.2.2 e.symm), World.cell?_setCell_other _ _ _ _ (by intro e; injection e with e _; exact HBXN.out.2.2.1 e.symm)]; exact hh)
          rw [hv]
          have HN := Lib.hid hn
          clear hv hB5 hn
          refine wp_region_gone_drew (S := (fun Wh : World => Wh.cell? ⟨bp, 0, none⟩ = some (.pointer (some ⟨b, 0, none⟩)) ∧ Wh.cell? ⟨bx, 1, none⟩ = some (.slice la ln lc))) (T := (fun Wh : World => Wh.cell? ⟨b, 4, none⟩ = some v ∧ Wh.frozen? ⟨b, 4, none⟩ = false)) (m := 11) (by kernel_rfl) ⟨(HST.out _ hdr12).1, (HST.out _ hdr12).2⟩ (fun hHeld => ?_)
          refine wpAnyG_takeT (i := 0) (oi := { dst := some 68, op := Op.load 49 (Operand.tmp 2), type := 49, pos := "checker.go:116", after := #[], guard := none }) (v := ?_) rfl rfl (by kernel_rfl) (by decide) (by kernel_rfl) (by kernel_rfl) (by kernel_rfl) (by kernel_rfl) (fun _ _ _ h => h) (Or.inl ⟨by rfl, ?_⟩) (by assumption) ?_
          rotate_left 1
          · (intro W hSW; (try dsimp only at hSW); first | (obtain ⟨⟨z0, z1⟩, z2, z3⟩ := hSW; go_simp; done) | (obtain ⟨z0, z1⟩ := hSW; go_simp; done) | (obtain ⟨z0, z1⟩ := hSW; go_simp; with_reducible rfl))
          try simp only [Act.put, List.setIfInBounds_toArray, List.set_cons_zero, List.set_cons_succ]
          refine wpAnyG_takeT (i := 1) (oi := { dst := some 69, op := Op.load 49 (Operand.tmp 2), type := 49, pos := "checker.go:116", after := #[], guard := none }) (v := ?_) rfl rfl (by kernel_rfl) (by decide) (by kernel_rfl) (by kernel_rfl) (by kernel_rfl) (by kernel_rfl) (fun _ _ _ h => h) (Or.inl ⟨by rfl, ?_⟩) (by assumption) ?_
          rotate_left 1
          · (intro W hSW; (try dsimp only at hSW); first | (obtain ⟨⟨z0, z1⟩, z2, z3⟩ := hSW; go_simp; done) | (obtain ⟨z0, z1⟩ := hSW; go_simp; done) | (obtain ⟨z0, z1⟩ := hSW; go_simp; with_reducible rfl))
          try simp only [Act.put, List.setIfInBounds_toArray, List.set_cons_zero, List.set_cons_succ]
          refine wpAnyG_takeT (i := 2) (oi := { dst := some 70, op := Op.nilCheck (Operand.tmp 69), type := 0, pos := "checker.go:116", after := #[{ on := 1, ground := Ground.data }], guard := none }) (v := ?_) rfl rfl (by kernel_rfl) (by decide) (by kernel_rfl) (by kernel_rfl) (by kernel_rfl) (by kernel_rfl) (fun _ _ _ h => h) (Or.inl ⟨by rfl, ?_⟩) (by assumption) ?_
          rotate_left 1
          · (intro W hSW; (try dsimp only at hSW); first | (obtain ⟨⟨z0, z1⟩, z2, z3⟩ := hSW; go_simp; done) | (obtain ⟨z0, z1⟩ := hSW; go_simp; done) | (obtain ⟨z0, z1⟩ := hSW; go_simp; with_reducible rfl))
          try simp only [Act.put, List.setIfInBounds_toArray, List.set_cons_zero, List.set_cons_succ]
          refine wpAnyG_take (i := 3) (oi := { dst := some 71, op := Op.fieldAddr 53 (Operand.tmp 70) 3, type := 0, pos := "checker.go:116", after := #[{ on := 2, ground := Ground.data }], guard := none }) (v := ?_) rfl (by decide) (by kernel_rfl) (by kernel_rfl) (by kernel_rfl) (fun _ _ _ h => h) (Or.inl ⟨by rfl, ?_⟩) (by assumption) ?_
          rotate_left 1
          · (intro W hSW; (try dsimp only at hSW); first | (obtain ⟨⟨z0, z1⟩, z2, z3⟩ := hSW; go_simp; done) | (obtain ⟨z0, z1⟩ := hSW; go_simp; done) | (obtain ⟨z0, z1⟩ := hSW; go_simp; with_reducible rfl))
          try simp only [Act.put, List.setIfInBounds_toArray, List.set_cons_zero, List.set_cons_succ]
          refine wpAnyG_takeT (i := 4) (oi := { dst := some 72, op := Op.load 22 (Operand.tmp 71), type := 22, pos := "checker.go:116", after := #[{ on := 3, ground := Ground.data }], guard := none }) (v := ?_) rfl rfl (by kernel_rfl) (by decide) (by kernel_rfl) (by kernel_rfl) (by kernel_rfl) (by kernel_rfl) (fun _ _ _ h => h) (Or.inl ⟨by rfl, ?_⟩) (by assumption) ?_
          rotate_left 1
          · (intro W hSW; (try dsimp only at hSW); first | (obtain ⟨⟨z0, z1⟩, z2, z3⟩ := hSW; go_simp; done) | (obtain ⟨z0, z1⟩ := hSW; go_simp; done) | (obtain ⟨z0, z1⟩ := hSW; go_simp; with_reducible rfl))
          try simp only [Act.put, List.setIfInBounds_toArray, List.set_cons_zero, List.set_cons_succ]
          refine wpAnyG_take (i := 5) (oi := { dst := some 73, op := Op.fieldAddr 46 (Operand.tmp 3) 1, type := 0, pos := "checker.go:116", after := #[], guard := none }) (v := ?_) rfl (by decide) (by kernel_rfl) (by kernel_rfl) (by kernel_rfl) (fun _ _ _ h => h) (Or.inl ⟨by rfl, ?_⟩) (by assumption) ?_
          rotate_left 1
          · (intro W hSW; (try dsimp only at hSW); first | (obtain ⟨⟨z0, z1⟩, z2, z3⟩ := hSW; go_simp; done) | (obtain ⟨z0, z1⟩ := hSW; go_simp; done) | (obtain ⟨z0, z1⟩ := hSW; go_simp; with_reducible rfl))
          try simp only [Act.put, List.setIfInBounds_toArray, List.set_cons_zero, List.set_cons_succ]
          refine wpAnyG_takeT (i := 6) (oi := { dst := some 74, op := Op.load 34 (Operand.tmp 73), type := 34, pos := "checker.go:116", after := #[{ on := 5, ground := Ground.data }], guard := none }) (v := ?_) rfl rfl (by kernel_rfl) (by decide) (by kernel_rfl) (by kernel_rfl) (by kernel_rfl) (by kernel_rfl) (fun _ _ _ h => h) (Or.inl ⟨by rfl, ?_⟩) (by assumption) ?_
          rotate_left 1
          · (intro W hSW; (try dsimp only at hSW); first | (obtain ⟨⟨z0, z1⟩, z2, z3⟩ := hSW; go_simp; done) | (obtain ⟨z0, z1⟩ := hSW; go_simp; done) | (obtain ⟨z0, z1⟩ := hSW; go_simp; with_reducible rfl))
          try simp only [Act.put, List.setIfInBounds_toArray, List.set_cons_zero, List.set_cons_succ]
          refine wpAnyG_ready (rs := [7]) (by kernel_rfl) (by simp) ?_
          refine (AllReadyG.cons (o := { dst := some 75, op := Op.buildSlice 22 1 #[(0, Operand.tmp 74)], type := 22, pos := "checker.go:116", after := #[{ on := 6, ground := Ground.data }], guard := none }) rfl (fun K hK => ?_) AllReadyG.nil)
          rw [if_pos (by rfl)]
          go_simp
          have haA : ∀ r, w12.grownBy ((World.alloc w12 (.cells #[.slice la ln lc] 34)).drew) r := fun r => (World.grownBy_alloc w12 _ r).trans (grown_drew _ r)
          have hnA : ∀ j u, [Value.slice la ln lc][j]? = some u → ((World.alloc w12 (.cells #[.slice la ln lc] 34)).drew).cell? ((⟨w12.heap.size, 0, none⟩ : Addr).add j) = some u := cell_one_new w12 _ _
          obtain ⟨WA, hWA⟩ : ∃ WA, (World.alloc w12 (.cells #[.slice la ln lc] 34)).drew = WA := ⟨_, rfl⟩
          rw [hWA] at haA hnA ⊢
          clear hWA
          have hA := haA none
          have hST := HST.out _ hA
          refine hK.out _ _ ⟨hST.1, .inr hST.2⟩ (fun hHeld => ?_)
          clear hK K
          try simp only [Act.put, List.setIfInBounds_toArray, List.set_cons_zero, List.set_cons_succ]
          refine wpAnyG_ready (rs := [8]) (by kernel_rfl) (by simp) ?_
          refine (AllReadyG.cons (o := { dst := some 76, op := Op.call { callee := Callee.builtin Builtin.append, args := #[Operand.tmp 72, Operand.tmp 75], argTypes := #[22, 22] }, type := 22, pos := "checker.go:116", after := #[{ on := 4, ground := Ground.data }, { on := 7, ground := Ground.data }], guard := none }) rfl (fun K hK => ?_) AllReadyG.nil)
          refine ready_append_g 22 34 (.tmp 72) (.tmp 75) rfl rfl Tryz.underlying22 hi0 hz0 hz1 hz2 rfl (by decide) (by omega) w0.heap.size v n (ps.map encP) rfl (own_grown HROW.out hA) ⟨w12.heap.size, 0, none⟩ [.slice la ln lc] rfl rfl hnA (fun u hu => by simp at hu; subst hu; rfl) (by omega) (HBS.out _ hA) (fun v' w6 hown' hgrow6 hat6 => ?_)
          obtain ⟨rgA, rcA, rfl⟩ := own_shape hown'
          have hST6 := HST6.out _ _ hA hgrow6
          refine hK.out _ _ ⟨hST6.1, .inr hST6.2⟩ (fun hHeld => ?_)
          clear hK K
          try simp only [Act.put, List.setIfInBounds_toArray, List.set_cons_zero, List.set_cons_succ]
          refine wpAnyG_take (i := 9) (oi := { dst := some 77, op := Op.nilCheck (Operand.tmp 68), type := 0, pos := "checker.go:116", after := #[{ on := 0, ground := Ground.data }, { on := 0, ground := Ground.phase }, { on := 1, ground := Ground.phase }, { on := 2, ground := Ground.phase }, { on := 3, ground := Ground.phase }, { on := 4, ground := Ground.phase }, { on := 5, ground := Ground.phase }, { on := 6, ground := Ground.phase }, { on := 7, ground := Ground.phase }, { on := 8, ground := Ground.phase }], guard := none }) (v := ?_) rfl (by decide) (by kernel_rfl) (by kernel_rfl) (by kernel_rfl) (fun _ _ _ h => h) (Or.inl ⟨by rfl, ?_⟩) (by assumption) ?_
          rotate_left 1
          · (intro W hSW; (try dsimp only at hSW); first | (obtain ⟨⟨z0, z1⟩, z2, z3⟩ := hSW; go_simp; done) | (obtain ⟨z0, z1⟩ := hSW; go_simp; done) | (obtain ⟨z0, z1⟩ := hSW; go_simp; with_reducible rfl))
          try simp only [Act.put, List.setIfInBounds_toArray, List.set_cons_zero, List.set_cons_succ]
          refine wpAnyG_take (i := 10) (oi := { dst := some 78, op := Op.fieldAddr 53 (Operand.tmp 77) 3, type := 0, pos := "checker.go:116", after := #[{ on := 9, ground := Ground.data }, { on := 0, ground := Ground.phase }, { on := 1, ground := Ground.phase }, { on := 2, ground := Ground.phase }, { on := 3, ground := Ground.phase }, { on := 4, ground := Ground.phase }, { on := 5, ground := Ground.phase }, { on := 6, ground := Ground.phase }, { on := 7, ground := Ground.phase }, { on := 8, ground := Ground.phase }], guard := none }) (v := ?_) rfl (by decide) (by kernel_rfl) (by kernel_rfl) (by kernel_rfl) (fun _ _ _ h => h) (Or.inl ⟨by rfl, ?_⟩) (by assumption) ?_
          rotate_left 1
          · (intro W hSW; (try dsimp only at hSW); first | (obtain ⟨⟨z0, z1⟩, z2, z3⟩ := hSW; go_simp; done) | (obtain ⟨z0, z1⟩ := hSW; go_simp; done) | (obtain ⟨z0, z1⟩ := hSW; go_simp; with_reducible rfl))
          try simp only [Act.put, List.setIfInBounds_toArray, List.set_cons_zero, List.set_cons_succ]
          refine wpAnyG_ready (rs := [11]) (by kernel_rfl) (by simp) ?_
          refine (AllReadyG.cons (o := { dst := none, op := Op.store 22 (Operand.tmp 78) (Operand.tmp 76), type := 0, pos := "checker.go:116", after := #[{ on := 10, ground := Ground.data }, { on := 8, ground := Ground.data }, { on := 8, ground := Ground.chain }, { on := 0, ground := Ground.phase }, { on := 1, ground := Ground.phase }, { on := 2, ground := Ground.phase }, { on := 3, ground := Ground.phase }, { on := 4, ground := Ground.phase }, { on := 5, ground := Ground.phase }, { on := 6, ground := Ground.phase }, { on := 7, ground := Ground.phase }, { on := 8, ground := Ground.phase }], guard := none }) rfl (fun K hK => ?_) AllReadyG.nil)
          rw [if_pos (by rfl)]
          obtain ⟨s1, s2⟩ := hST6.2
          go_simp
          refine hK.out _ _ ⟨HSS.out _ _ hST6.1, .inl (by rfl)⟩ (fun hHeld => ?_)
          clear hK K
          try simp only [Act.put, List.setIfInBounds_toArray, List.set_cons_zero, List.set_cons_succ]
          refine wpAnyG_done (by kernel_rfl) ?_ _
          have HE : Hid (StM w0 K b (s.1, s.2 ++ [L]) (N + 1) (w6.setCell ⟨b, 4, none⟩ (.slice rgA (n + 1) rcA))) := Lib.hid (by
            have hBA := HB5.out.later hA
            have hln := HF.out.2.2.1
            have hp : Ok3 w0.heap.size WA (la, lc, L) := ok3_old HF.out.1.ints hBA.grown
            have e1 : encP (la, lc, L) = .slice la ln lc := by unfold encP; simp only; rw [hln]
            have hr6 : w6.ownsRow w0.heap.size 34 1 (.slice rgA (n + 1) rcA) (s.2.length + 1) (ps.map encP ++ [encP (la, lc, L)]) := by
              rw [e1, HN.out]; exact hown'
            exact StM.more ⟨_, _, _, hBA.app hp hr6 hgrow6⟩ HM.out)
          clear hHeld hST6 s1 s2 hown' hgrow6 hat6 hST hA hnA haA hdr12
          go_wp2_with fail
          go_ret
          exact ⟨by rw [HRB.out]; rfl, fun _ => HE.out, HE.out.grown⟩
end Go.Proofs.YtihaheinkpmnnaaGreat

/- Texts of the proof: R2. -/
import Derived.Test.YthkjjiijjedipaaDoorCD15
import Derived.Test.YthkjjiijjedipaaDoorCD18
namespace Go.Proofs.YthkjjiijjedipaaDoor
open Go.RowKit

theorem results37 (tmps : Array Value) (w : World) (b : Nat) (a : Option Addr) (n c : Nat) (x : Int) (ht : tmps.getD 4 undef = .pointer (some ⟨b, 0, none⟩)) (hs : tmps.getD 5 undef = .int .i64 x) (h0 : w.cell? ⟨b, 0, none⟩ = some (.slice a n c)) :
    (results Tryd.f40 tmps).run Tryd.prog w = .ok (.tuple #[.agg #[.slice a n c], .int .i64 x]) w := by
  have ht' : tmps[4]?.getD undef = .pointer (some ⟨b, 0, none⟩) := by simpa using ht
  have hs' : tmps[5]?.getD undef = .int .i64 x := by simpa using hs
  simp [results, ht', hs', go_sem, h0, Result.andThen]
theorem results13 (tmps : Array Value) (w : World) (b : Nat) (a : Option Addr) (n c : Nat) (x : Int) (ht : tmps.getD 4 undef = .pointer (some ⟨b, 0, none⟩)) (hs : tmps.getD 5 undef = .int .i64 x) (h0 : w.cell? ⟨b, 0, none⟩ = some (.slice a n c)) :
    (results Tryd.f24 tmps).run Tryd.prog w = .ok (.tuple #[.agg #[.slice a n c], .int .i64 x]) w := by
  have ht' : tmps[4]?.getD undef = .pointer (some ⟨b, 0, none⟩) := by simpa using ht
  have hs' : tmps[5]?.getD undef = .int .i64 x := by simpa using hs
  simp [results, ht', hs', go_sem, h0, Result.andThen]
theorem results15 (tmps : Array Value) (w : World) (b : Nat) (a : Option Addr) (n c : Nat) (x : Int) (ht : tmps.getD 6 undef = .pointer (some ⟨b, 0, none⟩)) (hs : tmps.getD 7 undef = .int .i64 x) (h0 : w.cell? ⟨b, 0, none⟩ = some (.slice a n c)) :
    (results Tryd.f26 tmps).run Tryd.prog w = .ok (.tuple #[.agg #[.slice a n c], .int .i64 x]) w := by
  have ht' : tmps[6]?.getD undef = .pointer (some ⟨b, 0, none⟩) := by simpa using ht
  have hs' : tmps[7]?.getD undef = .int .i64 x := by simpa using hs
  simp [results, ht', hs', go_sem, h0, Result.andThen]
theorem results17 (tmps : Array Value) (w : World) (b : Nat) (a : Option Addr) (n c : Nat) (x : Int) (ht : tmps.getD 6 undef = .pointer (some ⟨b, 0, none⟩)) (hs : tmps.getD 7 undef = .int .i64 x) (h0 : w.cell? ⟨b, 0, none⟩ = some (.slice a n c)) :
    (results Tryd.f41 tmps).run Tryd.prog w = .ok (.tuple #[.agg #[.slice a n c], .int .i64 x]) w := by
  have ht' : tmps[6]?.getD undef = .pointer (some ⟨b, 0, none⟩) := by simpa using ht
  have hs' : tmps[7]?.getD undef = .int .i64 x := by simpa using hs
  simp [results, ht', hs', go_sem, h0, Result.andThen]
theorem results19 (tmps : Array Value) (w : World) (b : Nat) (a : Option Addr) (n c : Nat) (x : Int) (ht : tmps.getD 6 undef = .pointer (some ⟨b, 0, none⟩)) (hs : tmps.getD 7 undef = .int .i64 x) (h0 : w.cell? ⟨b, 0, none⟩ = some (.slice a n c)) :
    (results Tryd.f42 tmps).run Tryd.prog w = .ok (.tuple #[.agg #[.slice a n c], .int .i64 x]) w := by
  have ht' : tmps[6]?.getD undef = .pointer (some ⟨b, 0, none⟩) := by simpa using ht
  have hs' : tmps[7]?.getD undef = .int .i64 x := by simpa using hs
  simp [results, ht', hs', go_sem, h0, Result.andThen]

set_option maxRecDepth 100000 in
set_option maxHeartbeats 4000000 in
theorem share_calls (gs : List Gt) (x : Gt) (a : Option Addr) (c : Nat) (w : World) (h : GatesW w a c gs) (hl : gs.length ≤ 1000) :
    Calls Tryd.prog 40 #[.agg #[.slice a gs.length c], gv x] w (Ans w (addG gs x).1 (addG gs x).2) := by
  obtain ⟨n, hn⟩ : ∃ n, gs.length = n := ⟨_, rfl⟩
  have hg1 := World.grownBy_alloc w (.cells #[.slice a n c] 27) none
  have e1 := one_cell w (.slice a n c) 27
  obtain ⟨W1, hW1⟩ : ∃ W, w.alloc (.cells #[.slice a n c] 27) = W := ⟨_, rfl⟩
  rw [hW1] at hg1 e1
  have hg2 := World.grownBy_alloc W1 (.cells #[.int .i64 x.1, .int .i64 x.2.1, .int .i64 x.2.2] 58) none
  have hx := gate_cells W1 x
  obtain ⟨W2, hW2⟩ : ∃ W, W1.alloc (.cells #[.int .i64 x.1, .int .i64 x.2.1, .int .i64 x.2.2] 58) = W := ⟨_, rfl⟩
  rw [hW2] at hg2 hx
  have hg3 := World.grownBy_alloc W2 (.cells #[.slice none 0 0] 27) none
  have e3 := one_cell W2 (.slice none 0 0) 27
  obtain ⟨W3, hW3⟩ : ∃ W, W2.alloc (.cells #[.slice none 0 0] 27) = W := ⟨_, rfl⟩
  rw [hW3] at hg3 e3
  have q1 := hg3.cell (hg2.cell e1.2.1 (by simp)) (by simp)
  have HX := Lib.hid (hx.grown hg3)
  have HQ := Lib.hid q1
  have HE := Lib.hid e3
  have HS := Lib.hid (show w.heap.size ≤ W2.heap.size from (World.grownBy.trans hg1 hg2).size)
  have HSZ := Lib.hid (show w.heap.size < W2.heap.size ∧ W1.heap.size < W2.heap.size from ⟨by have := e1.1; have := hg2.size; omega, lies_lt hx.1⟩)
  have HG := Lib.hid (World.grownBy.trans (World.grownBy.trans hg1 hg2) hg3)
  have HA := Lib.hid (((h.grown hg1).grown hg2).grown hg3)
  have HN := Lib.hid hn
  rw [hn] at hl ⊢
  clear h hg1 hg2 hg3 e1 e3 hn
  obtain ⟨y0, y1, y2⟩ := HX.out
  have HF := Lib.hid (rfind_calls gs x a c W3 HA.out.weak (by rw [HN.out]; omega))
  rw [HN.out] at HF
  go_enter Tryd.func40, Tryd.ntmps40
  go_wp2_with fail
  refine HF.out.mono ?_
  rintro e V ⟨rfl, g⟩
  have HV := Lib.hid g
  clear g hx q1 y0 y1 y2 hW1 hW2 hW3
  have k1 := HV.out.cell HQ.out (by simp)
  have r1 := HV.out.cell HE.out.2.1 (by simp)
  have rf : V.frozen? ⟨W2.heap.size, 0, none⟩ = false := (grown_frozen HV.out HE.out.1 0).trans HE.out.2.2
  have HGV := Lib.hid (World.grownBy.trans HG.out HV.out)
  have HAV := Lib.hid (HA.out.grown HV.out)
  cases hloc : locG x gs with
  | some i =>
    have hi := (List.getElem?_eq_some_iff.1 (locG_some hloc)).1
    rw [HN.out] at hi
    have HA' := Lib.hid (addG_some hloc)
    rw [locI_nat hloc]
    have HQQ := Lib.hid hloc; clear hloc
    have f1 : decide ((0 : Int) ≤ (i : Int)) = true := decide_eq_true (by omega)
    have f2 : IntKind.i64.wrap (2 * (i : Int)) = 2 * (i : Int) := IntWalk.i64_in _ (by omega)
    go_wp2_with fail
    refine bodyPost_ret (results37 _ _ W2.heap.size a n c _ rfl rfl (World.cell?_setCell_same _ _ _ r1)) rfl ⟨a, c, by rw [HA'.out, HN.out], ?_, grown_own HGV.out (grown_set V W2.heap.size 0 _) (fun k e => by cases e; exact HS.out)⟩
    rw [HA'.out]
    exact HAV.out.set r1 _
  | none =>
    have HA' := Lib.hid (addG_none hloc (by rw [HN.out]; omega))
    rw [locI_neg hloc]
    have HQQ := Lib.hid hloc; clear hloc
    have f1 : decide ((20000 : Int) ≤ (n : Int)) = false := decide_eq_false (by omega)
    have f1b : decide (20000 ≤ n) = false := decide_eq_false (by omega)
    have f2 : IntKind.i64.wrap (2 * (n : Int)) = 2 * (n : Int) := IntWalk.i64_in _ (by omega)
    go_wp2_with (at_builtin; refine append_gates rfl _ _ rfl V.heap.size _ 0 [] rfl (World.ownsRow_nil _ _ _ _) a n c gs rfl HN.out HAV.out (by omega) (Nat.le_refl _) ?_)
    intro v1 w1 hown1 hgrow1
    obtain ⟨a1, c1, rfl⟩ := own_shape hown1
    have HO1 := Lib.hid hown1
    have hg1 : V.grownBy w1 none := grown_own (grown_refl _ _) hgrow1 (fun k e => by cases e)
    have HG1 := Lib.hid hg1
    have y := HX.out.grown (World.grownBy.trans HV.out hg1)
    have hga := World.grownBy_alloc w1 (.cells #[.int .i64 x.1, .int .i64 x.2.1, .int .i64 x.2.2] 58) none
    have hnx := And.intro (gate_cells w1 x) (ty_alloc w1 #[.int .i64 x.1, .int .i64 x.2.1, .int .i64 x.2.2])
    have HGA := Lib.hid hga
    have HNX := Lib.hid hnx
    obtain ⟨y0, y1, y2⟩ := y
    clear hown1 hgrow1 hg1 hga hnx
    go_wp2_with (at_builtin; refine append_gates rfl _ _ rfl V.heap.size _ n gs rfl (own_grown HO1.out (World.grownBy_alloc w1 _ none)) (some ⟨w1.heap.size, 0, none⟩) 1 1 [x] rfl rfl (gate_news HNX.out.1 HNX.out.2) (by omega) (by have h1 := HG1.out.size; have h2 := HGA.out.size; omega) ?_)
    intro v2 w2 hown2 hgrow2
    obtain ⟨m, hm⟩ : ∃ m, (gs ++ [x]).length = m := ⟨_, rfl⟩
    have hmn : n + 1 = m := by rw [← hm, List.length_append, HN.out]; rfl
    rw [hmn] at hown2
    obtain ⟨a2, c2, rfl⟩ := own_shape hown2
    have HR := Lib.hid (show GatesW w2 a2 c2 (gs ++ [x]) from by
      rw [← hm] at hown2
      obtain ⟨a', c', e', hs'⟩ := gates_span (show w2.ownsRow V.heap.size 58 3 (.slice a2 (gs ++ [x]).length c2) (gs ++ [x]).length (gateCells (gs ++ [x])) by rw [gateCells_app]; exact hown2)
      cases e'
      exact hs'.here)
    have HG2 := Lib.hid (grown_own (World.grownBy.trans HG1.out HGA.out) hgrow2 (fun k e => (HO1.out.lt k e).1))
    have HM := Lib.hid (And.intro hm hmn)
    have HAQ := HA'
    clear k1 r1 rf y0 y1 y2 hown2 hgrow2 hm hmn f1 f1b
    have k2 := HG2.out.cell (HV.out.cell HQ.out (by simp)) (by simp)
    have r2 := HG2.out.cell (HV.out.cell HE.out.2.1 (by simp)) (by simp)
    have rf : w2.frozen? ⟨W2.heap.size, 0, none⟩ = false := (grown_frozen HG2.out (by have := HE.out.1; have := HV.out.size; omega) 0).trans ((grown_frozen HV.out HE.out.1 0).trans HE.out.2.2)
    have HK := Lib.hid k2
    have HRR := Lib.hid (And.intro r2 rf)
    clear k2 r2 rf
    go_wp2_with fail
    have hdr : w2.drew.cell? ⟨w.heap.size, 0, none⟩ = some (.slice a n c) := HK.out
    refine wp_region_held_drew (S := (fun Wh : World => Wh.cell? ⟨w.heap.size, 0, none⟩ = some (.slice a n c))) (by kernel_rfl) hdr (fun hHeld => ?_)
    refine tk 0 ({ dst := some 29, op := Op.move (Operand.tmp 7), type := 25, pos := "ref.go:65", after := #[], guard := none }) ?_ rfl (by kernel_rfl) (fun _ _ _ h => h) (by rfl) ?_ hHeld ?_
    rotate_left 1
    · (intro W hSW; (try dsimp only at hSW); first | (go_simp; done) | (go_simp; with_reducible rfl))
    try simp only [Act.put, List.setIfInBounds_toArray, List.set_cons_zero, List.set_cons_succ]
    refine tk 1 ({ dst := some 30, op := Op.build 27 #[(0, Operand.tmp 29)], type := 27, pos := "ref.go:65", after := #[{ on := 0, ground := Ground.data }], guard := none }) ?_ rfl (by kernel_rfl) (fun _ _ _ h => h) (by rfl) ?_ hHeld ?_
    rotate_left 1
    · (intro W hSW; (try dsimp only at hSW); first | (go_simp; done) | (go_simp; with_reducible rfl))
    try simp only [Act.put, List.setIfInBounds_toArray, List.set_cons_zero, List.set_cons_succ]
    refine tk 2 ({ dst := some 31, op := Op.fieldAddr 27 (Operand.tmp 2) 0, type := 0, pos := "ref.go:65", after := #[], guard := none }) ?_ rfl (by kernel_rfl) (fun _ _ _ h => h) (by rfl) ?_ hHeld ?_
    rotate_left 1
    · (intro W hSW; (try dsimp only at hSW); first | (go_simp; done) | (go_simp; with_reducible rfl))
    try simp only [Act.put, List.setIfInBounds_toArray, List.set_cons_zero, List.set_cons_succ]
    refine tk 3 ({ dst := some 32, op := Op.load 25 (Operand.tmp 31), type := 25, pos := "ref.go:65", after := #[{ on := 2, ground := Ground.data }], guard := none }) ?_ rfl (by kernel_rfl) (fun _ _ _ h => h) (by rfl) ?_ hHeld ?_
    rotate_left 1
    · (intro W hSW; (try dsimp only at hSW); first | (go_simp; done) | (go_simp; with_reducible rfl))
    try simp only [Act.put, List.setIfInBounds_toArray, List.set_cons_zero, List.set_cons_succ]
    refine tk 4 ({ dst := some 33, op := Op.call { callee := Callee.builtin Builtin.len, args := #[Operand.tmp 32], argTypes := #[25] }, type := 3, pos := "ref.go:65", after := #[{ on := 3, ground := Ground.data }], guard := none }) ?_ rfl (by kernel_rfl) (fun _ _ _ h => h) (by rfl) ?_ hHeld ?_
    rotate_left 1
    · (intro W hSW; (try dsimp only at hSW); first | (go_simp; done) | (go_simp; with_reducible rfl))
    try simp only [Act.put, List.setIfInBounds_toArray, List.set_cons_zero, List.set_cons_succ]
    refine tk 5 ({ dst := some 34, op := Op.binOp BinOp.mul 3 (Operand.const (Value.int IntKind.i64 2)) (Operand.tmp 33) 3, type := 3, pos := "ref.go:65", after := #[{ on := 4, ground := Ground.data }, { on := 6, ground := Ground.gcOnly Departure.lateStores }], guard := none }) ?_ rfl (by kernel_rfl) (fun _ _ _ h => h) (by rfl) ?_ hHeld ?_
    rotate_left 1
    · (intro W hSW; (try dsimp only at hSW); first | (go_simp; done) | (go_simp; with_reducible rfl))
    try simp only [Act.put, List.setIfInBounds_toArray, List.set_cons_zero, List.set_cons_succ]
    refine wpAnyH_ready (rs := [6]) (by kernel_rfl) (by simp) ?_
    refine (AllReadyH.cons (o := { dst := none, op := Op.store 27 (Operand.tmp 4) (Operand.tmp 30), type := 0, pos := "ref.go:65", after := #[{ on := 1, ground := Ground.data }, { on := 0, ground := Ground.phase }, { on := 1, ground := Ground.phase }, { on := 2, ground := Ground.textOnly Departure.lateStores }, { on := 3, ground := Ground.textOnly Departure.lateStores }, { on := 4, ground := Ground.textOnly Departure.lateStoresUnsure }, { on := 5, ground := Ground.textOnly Departure.lateStores }], guard := none }) rfl (fun K hK => ?_) AllReadyH.nil)
    rw [if_pos (by rfl)]
    obtain ⟨r2, rf⟩ := HRR.out
    go_simp
    clear r2 rf
    have hst : (w2.setCell ⟨W2.heap.size, 0, none⟩ (.slice a2 m c2)).cell? ⟨w.heap.size, 0, none⟩ = some (.slice a n c) := by rw [World.cell?_setCell_other _ _ _ _ (by intro e; injection e with e _; have := HSZ.out.1; omega)]; exact HK.out
    refine hK.out _ _ hst (fun hHeld => ?_)
    clear hK K
    try simp only [Act.put, List.setIfInBounds_toArray, List.set_cons_zero, List.set_cons_succ]
    refine tk 7 ({ dst := some 5, op := Op.assign (Operand.tmp 34), type := 3, pos := "ref.go:65", after := #[{ on := 5, ground := Ground.data }, { on := 6, ground := Ground.chain }, { on := 0, ground := Ground.phase }, { on := 1, ground := Ground.phase }, { on := 2, ground := Ground.phase }, { on := 3, ground := Ground.phase }, { on := 4, ground := Ground.phase }, { on := 5, ground := Ground.phase }, { on := 6, ground := Ground.phase }], guard := none }) ?_ rfl (by kernel_rfl) (fun _ _ _ h => h) (by rfl) ?_ hHeld ?_
    rotate_left 1
    · (intro W hSW; (try dsimp only at hSW); first | (go_simp; done) | (go_simp; with_reducible rfl))
    try simp only [Act.put, List.setIfInBounds_toArray, List.set_cons_zero, List.set_cons_succ]
    refine wpAnyH_done (by kernel_rfl) ?_ _
    have hEND := hst
    clear hHeld
    go_wp2_with fail
    have hr := HRR.out
    refine bodyPost_ret (results37 _ _ W2.heap.size a2 m c2 _ rfl rfl (World.cell?_setCell_same w2 _ (.slice a2 m c2) hr.1)) rfl ⟨a2, c2, by rw [HAQ.out, HM.out.1, HN.out], ?_, World.grownBy.trans (grown_own (World.grownBy.trans HGV.out HG2.out) (grown_set w2 W2.heap.size 0 (.slice a2 m c2)) (fun k e => by cases e; exact HS.out)) ⟨rfl, rfl, rfl, Nat.le_refl _, fun _ _ _ => rfl⟩⟩
    rw [HAQ.out]
    exact (HR.out.set hr.1 (.slice a2 m c2)).grown ⟨rfl, rfl, rfl, Nat.le_refl _, fun _ _ _ => rfl⟩
end Go.Proofs.YthkjjiijjedipaaDoor

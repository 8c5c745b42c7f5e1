/- Texts of the proof: N1. -/
import Derived.Test.YtihaheinkpmnnaaGreatCA07
import Derived.Test.YtihaheinkpmnnaaGreatCA08
import Derived.StillTailTactics
import Derived.BigRegion
import Derived.RangeFuncNested
import Derived.RangeFuncLeaves
import Derived.RangeFuncBound
import Derived.Shelf.Abstract
import Derived.Shelf.RegionOpen
import Derived.Sort.LoopGhostIn
import Derived.TacticsInMore
import Derived.LoopNIn
import Derived.LoopIn
import Derived.OwnWalkIn
import Derived.RegionIn
namespace Go.Proofs.YtihaheinkpmnnaaGreat
set_option maxRecDepth 200000
open Go.RowKit Go.Shelf
attribute [local go_sem] Oper.semAt_some
set_option maxHeartbeats 16000000 in
set_option maxRecDepth 100000 in
theorem new_calls (V : Nat) (C : List (List Int)) (ca : Option Addr) (cc : Nat) (w : World) (h : ClsW w ca cc C) (hV : V ≤ 400) (hC : C.length ≤ 1000) (hL : ∀ c ∈ C, c.length ≤ 100) (hR : Ran V C) :
    Calls Tryz.prog 105 #[.agg #[.int .i64 (V : Int), .slice ca C.length cc]] w fun e w' => ∃ KK R, e = .returned (.pointer (some ⟨KK.p, 0, none⟩)) ∧ PS KK C w' [] 0 (-1) R ∧ w.grownBy w' none ∧ w.heap.size ≤ KK.B ∧ KK.V = V ∧ KK.ca = ca ∧ KK.cn = C.length ∧ KK.cc = cc ∧ (R 1).l = [] := by
  obtain ⟨n, hn⟩ : ∃ n, C.length = n := ⟨_, rfl⟩
  have HH := Lib.hid (And.intro h (And.intro hL (And.intro hR hn)))
  rw [hn] at hC ⊢
  clear h hL hR hn
  have k1 : IntKind.i64.wrap ((V : Int) + 1) = (V : Int) + 1 := IntWalk.i64_in _ (by omega)
  refine callsIn_wide (n := 3) |>.1 ?_
  refine callsIn_of_wp_marks Tryz.func105 rfl trivial ?_ rfl
  simp only [Tryz.ntmps105, List.size_toArray, List.length_cons, List.length_nil, Nat.reduceAdd, Nat.reduceSub, Array.replicate_succ, Array.replicate_zero, List.push_toArray, List.append_toArray, List.nil_append, List.cons_append]
  gi_wp2_with fail
  obtain ⟨W1, hW1⟩ : ∃ z, w.alloc (.cells #[.int .i64 (V : Int), .slice ca n cc] 24) = z := ⟨_, rfl⟩
  obtain ⟨bf, hbf⟩ : ∃ z, w.heap.size = z := ⟨_, rfl⟩
  have e2 := one_cells w (.int .i64 (V : Int)) (.slice ca n cc) 24
  rw [hW1, hbf] at e2
  have q0 := e2.2.1
  have q1 := e2.2.2.1
  have hlt := e2.1
  have HG : Hid (w.grownBy W1 none) := Lib.hid (by rw [← hW1]; exact World.grownBy_alloc w _ none)
  rw [hW1, hbf]
  clear hW1 e2
  have mk : ∀ U : World, (Instr.makeSlice 110 (.int .i64 ((V : Int) + 1)) (.int .i64 ((V : Int) + 1))).run Tryz.prog U = .ok (.slice (some ⟨U.heap.size, 0, none⟩) (V + 1) (V + 1)) (U.alloc (.cells (madeCells #[.int .i8 0] (V + 1)) 126)) := fun U => mk52 U (V + 1) (by omega)
  refine wpIn_wide.2 ?_
  go_cut [3] from 11 to 17 (fun s3 wx => ∃ (KK : PK) (tb : Nat), s3 = .pointer (some ⟨tb, 0, none⟩) ∧ NS W1 [] KK tb (List.replicate (V + 1) 0) (fun _ => nilRw) wx ∧ KK.V = V ∧ KK.ca = ca ∧ KK.cn = n ∧ KK.cc = cc)
  case first =>
    go_region
    all_goals go_wp2_with fail
    all_goals go_meet
    all_goals
      first
      | exact ns_init (by omega) (alloc3 W1 _ _ _).2.2.2 (alloc3 W1 _ _ _).2.1 (alloc3 W1 _ _ _).1 (alloc3 W1 _ _ _).2.2.1 (by omega) (by omega) (by omega) (by omega) (by omega) (by omega)
      | exact ns_init (by omega) (alloc3 W1 _ _ _).2.2.2 (alloc3 W1 _ _ _).2.2.1 (alloc3 W1 _ _ _).1 (alloc3 W1 _ _ _).2.1 (by omega) (by omega) (by omega) (by omega) (by omega) (by omega)
      | exact ns_init (by omega) (alloc3 W1 _ _ _).2.2.2 (alloc3 W1 _ _ _).2.2.1 (alloc3 W1 _ _ _).2.1 (alloc3 W1 _ _ _).1 (by omega) (by omega) (by omega) (by omega) (by omega) (by omega)
  case rest =>
    obtain ⟨KK, tb, rfl, hns, hKV, hKa, hKn, hKc⟩ := hcut
    have HNS := Lib.hid hns
    have HK := Lib.hid (And.intro hKV (And.intro hKa (And.intro hKn hKc)))
    have k2 : ∀ U : World, (Instr.makeSlice 34 (.int .i64 (n : Int)) (.int .i64 (n : Int))).run Tryz.prog U = .ok (.slice (some ⟨U.heap.size, 0, none⟩) n n) (U.alloc (.cells (madeCells #[.int .i64 0] n) 3)) := fun U => mk25 U n (by omega)
    obtain ⟨vs0, hvs0⟩ : ∃ z, List.replicate (V + 1) (0 : Int) = z := ⟨_, rfl⟩
    rw [hvs0] at HNS
    have HS : Hid (∀ Wh : World, (∃ R, NS W1 [] KK tb vs0 R Wh) → (fun Wh : World => Wh.cell? ⟨tb, 0, none⟩ = some (.pointer (some ⟨KK.p, 0, none⟩)) ∧ Wh.cell? ⟨bf, 0, none⟩ = some (.int .i64 (V : Int)) ∧ Wh.cell? ⟨bf, 1, none⟩ = some (.slice ca n cc)) Wh) := Lib.hid (fun Wh h => by
      obtain ⟨R, h⟩ := h
      exact ⟨h.tb0, h.grown.cell q0 (by simp), h.grown.cell q1 (by simp)⟩)
    have HQ := Lib.hid (And.intro q0 (And.intro q1 hlt))
    clear hns hKV hKa hKn hKc mk k1 q0 q1 hlt
    have b1 := (HS.out _ ⟨_, HNS.out⟩).2.2
    have lb := lies_lt b1
    gi_wp2_with fail
    clear b1 lb
    refine wpIn_wide.2 ?_
    go_cut [] from 18 to 31 (fun wx => ∃ R, NS W1 [] KK tb vs0 R wx ∧ (R 2).l = List.replicate n 0 ∧ (R 3).l = List.replicate n 0 ∧ ∀ j, j ≠ 2 → j ≠ 3 → R j = nilRw)
    case first =>
      refine wp_onlyN ?_
      have hdr : ∃ R, NS W1 [] KK tb vs0 R wc.drew := ⟨_, HNS.out.keep (grown_drew _ none)⟩
      refine wp_region_held_drew (S := (fun Wh : World => Wh.cell? ⟨tb, 0, none⟩ = some (.pointer (some ⟨KK.p, 0, none⟩)) ∧ Wh.cell? ⟨bf, 0, none⟩ = some (.int .i64 (V : Int)) ∧ Wh.cell? ⟨bf, 1, none⟩ = some (.slice ca n cc))) (by kernel_rfl) (HS.out _ hdr) (fun hHeld => ?_)
      refine wpAnyH_take (i := 0) (oi := { dst := some 18, op := Op.load 114 (Operand.tmp 3), type := 114, pos := "propagator.go:95", after := #[], guard := none }) (v := ?_) rfl (by kernel_rfl) (by kernel_rfl) (by kernel_rfl) (fun _ _ _ h => h) (Or.inl ⟨by rfl, ?_⟩) (by assumption) ?_
      rotate_left 1
      · (intro W hSW; (try dsimp only at hSW); first | (go_simp; done) | (go_simp; with_reducible rfl))
      try simp only [Act.put, List.setIfInBounds_toArray, List.set_cons_zero, List.set_cons_succ]
      refine wpAnyH_take (i := 1) (oi := { dst := some 19, op := Op.load 114 (Operand.tmp 3), type := 114, pos := "propagator.go:95", after := #[{ on := 12, ground := Ground.gcOnly Departure.lateStores }], guard := none }) (v := ?_) rfl (by kernel_rfl) (by kernel_rfl) (by kernel_rfl) (fun _ _ _ h => h) (Or.inl ⟨by rfl, ?_⟩) (by assumption) ?_
      rotate_left 1
      · (intro W hSW; (try dsimp only at hSW); first | (go_simp; done) | (go_simp; with_reducible rfl))
      try simp only [Act.put, List.setIfInBounds_toArray, List.set_cons_zero, List.set_cons_succ]
      refine wpAnyH_take (i := 2) (oi := { dst := some 20, op := Op.fieldAddr 24 (Operand.tmp 1) 1, type := 0, pos := "propagator.go:95", after := #[], guard := none }) (v := ?_) rfl (by kernel_rfl) (by kernel_rfl) (by kernel_rfl) (fun _ _ _ h => h) (Or.inl ⟨by rfl, ?_⟩) (by assumption) ?_
      rotate_left 1
      · (intro W hSW; (try dsimp only at hSW); first | (go_simp; done) | (go_simp; with_reducible rfl))
      try simp only [Act.put, List.setIfInBounds_toArray, List.set_cons_zero, List.set_cons_succ]
      refine wpAnyH_take (i := 3) (oi := { dst := some 21, op := Op.load 22 (Operand.tmp 20), type := 22, pos := "propagator.go:95", after := #[{ on := 2, ground := Ground.data }], guard := none }) (v := ?_) rfl (by kernel_rfl) (by kernel_rfl) (by kernel_rfl) (fun _ _ _ h => h) (Or.inl ⟨by rfl, ?_⟩) (by assumption) ?_
      rotate_left 1
      · (intro W hSW; (try dsimp only at hSW); first | (go_simp; done) | (go_simp; with_reducible rfl))
      try simp only [Act.put, List.setIfInBounds_toArray, List.set_cons_zero, List.set_cons_succ]
      refine wpAnyH_take (i := 4) (oi := { dst := some 22, op := Op.call { callee := Callee.builtin Builtin.len, args := #[Operand.tmp 21], argTypes := #[22] }, type := 3, pos := "propagator.go:95", after := #[{ on := 3, ground := Ground.data }], guard := none }) (v := ?_) rfl (by kernel_rfl) (by kernel_rfl) (by kernel_rfl) (fun _ _ _ h => h) (Or.inl ⟨by rfl, ?_⟩) (by assumption) ?_
      rotate_left 1
      · (intro W hSW; (try dsimp only at hSW); first | (go_simp; done) | (go_simp; with_reducible rfl))
      try simp only [Act.put, List.setIfInBounds_toArray, List.set_cons_zero, List.set_cons_succ]
      refine wpAnyH_take (i := 6) (oi := { dst := some 24, op := Op.fieldAddr 24 (Operand.tmp 1) 1, type := 0, pos := "propagator.go:95", after := #[], guard := none }) (v := ?_) rfl (by kernel_rfl) (by kernel_rfl) (by kernel_rfl) (fun _ _ _ h => h) (Or.inl ⟨by rfl, ?_⟩) (by assumption) ?_
      rotate_left 1
      · (intro W hSW; (try dsimp only at hSW); first | (go_simp; done) | (go_simp; with_reducible rfl))
      try simp only [Act.put, List.setIfInBounds_toArray, List.set_cons_zero, List.set_cons_succ]
      refine wpAnyH_take (i := 7) (oi := { dst := some 25, op := Op.load 22 (Operand.tmp 24), type := 22, pos := "propagator.go:95", after := #[{ on := 6, ground := Ground.data }], guard := none }) (v := ?_) rfl (by kernel_rfl) (by kernel_rfl) (by kernel_rfl) (fun _ _ _ h => h) (Or.inl ⟨by rfl, ?_⟩) (by assumption) ?_
      rotate_left 1
      · (intro W hSW; (try dsimp only at hSW); first | (go_simp; done) | (go_simp; with_reducible rfl))
      try simp only [Act.put, List.setIfInBounds_toArray, List.set_cons_zero, List.set_cons_succ]
      refine wpAnyH_take (i := 8) (oi := { dst := some 26, op := Op.call { callee := Callee.builtin Builtin.len, args := #[Operand.tmp 25], argTypes := #[22] }, type := 3, pos := "propagator.go:95", after := #[{ on := 7, ground := Ground.data }], guard := none }) (v := ?_) rfl (by kernel_rfl) (by kernel_rfl) (by kernel_rfl) (fun _ _ _ h => h) (Or.inl ⟨by rfl, ?_⟩) (by assumption) ?_
      rotate_left 1
      · (intro W hSW; (try dsimp only at hSW); first | (go_simp; done) | (go_simp; with_reducible rfl))
      try simp only [Act.put, List.setIfInBounds_toArray, List.set_cons_zero, List.set_cons_succ]
      refine wpAnyH_ready (rs := [5, 9]) (by kernel_rfl) (by simp) ?_
      refine (AllReadyH.cons (o := { dst := some 23, op := Op.makeSlice 34 (Operand.tmp 22) (Operand.tmp 22), type := 34, pos := "propagator.go:95", after := #[{ on := 4, ground := Ground.data }, { on := 4, ground := Ground.data }], guard := none }) rfl (fun K hK => ?_) (AllReadyH.cons (o := { dst := some 27, op := Op.makeSlice 34 (Operand.tmp 26) (Operand.tmp 26), type := 34, pos := "propagator.go:95", after := #[{ on := 8, ground := Ground.data }, { on := 8, ground := Ground.data }], guard := none }) rfl (fun K hK => ?_) AllReadyH.nil))
      · rw [if_pos (by rfl)]
        go_simp
        have hNa := (HNS.out.keep (World.grownBy_alloc wc (.cells (madeCells #[.int .i64 0] n) 3) none)).keep (grown_drew _ none)
        have hFa := (FR.new HNS.out n).keep (grown_drew _ none)
        have hLa : wc.heap.size < ((World.alloc wc (.cells (madeCells #[.int .i64 0] n) 3)).drew).heap.size := hFa.lt
        obtain ⟨Wa, hWa⟩ : ∃ z, (World.alloc wc (.cells (madeCells #[.int .i64 0] n) 3)).drew = z := ⟨_, rfl⟩
        obtain ⟨ga, hga⟩ : ∃ z, wc.heap.size = z := ⟨_, rfl⟩
        rw [hWa] at hNa hFa ⊢
        rw [hga] at hFa ⊢
        clear hWa hga hLa
        refine hK.out _ _ (HS.out _ ⟨_, hNa⟩) (fun hHeld => ?_)
        clear hK K
        try simp only [Act.put, List.setIfInBounds_toArray, List.set_cons_zero, List.set_cons_succ]
        refine wpAnyH_take (i := 10) (oi := { dst := some 28, op := Op.nilCheck (Operand.tmp 18), type := 0, pos := "propagator.go:95", after := #[{ on := 0, ground := Ground.data }, { on := 0, ground := Ground.phase }, { on := 1, ground := Ground.textOnly Departure.lateStores }, { on := 2, ground := Ground.phase }, { on := 3, ground := Ground.phase }, { on := 4, ground := Ground.phase }, { on := 5, ground := Ground.phase }, { on := 6, ground := Ground.textOnly Departure.lateStores }, { on := 7, ground := Ground.textOnly Departure.lateStores }, { on := 8, ground := Ground.textOnly Departure.lateStoresUnsure }, { on := 9, ground := Ground.textOnly Departure.lateStoresUnsure }], guard := none }) (v := ?_) rfl (by kernel_rfl) (by kernel_rfl) (by kernel_rfl) (fun _ _ _ h => h) (Or.inl ⟨by rfl, ?_⟩) (by assumption) ?_
        rotate_left 1
        · (intro W hSW; (try dsimp only at hSW); first | (go_simp; done) | (go_simp; with_reducible rfl))
        try simp only [Act.put, List.setIfInBounds_toArray, List.set_cons_zero, List.set_cons_succ]
        refine wpAnyH_take (i := 11) (oi := { dst := some 29, op := Op.fieldAddr 113 (Operand.tmp 28) 6, type := 0, pos := "propagator.go:95", after := #[{ on := 10, ground := Ground.data }, { on := 0, ground := Ground.phase }, { on := 1, ground := Ground.textOnly Departure.lateStores }, { on := 2, ground := Ground.phase }, { on := 3, ground := Ground.phase }, { on := 4, ground := Ground.phase }, { on := 5, ground := Ground.phase }, { on := 6, ground := Ground.textOnly Departure.lateStores }, { on := 7, ground := Ground.textOnly Departure.lateStores }, { on := 8, ground := Ground.textOnly Departure.lateStoresUnsure }, { on := 9, ground := Ground.textOnly Departure.lateStoresUnsure }], guard := none }) (v := ?_) rfl (by kernel_rfl) (by kernel_rfl) (by kernel_rfl) (fun _ _ _ h => h) (Or.inl ⟨by rfl, ?_⟩) (by assumption) ?_
        rotate_left 1
        · (intro W hSW; (try dsimp only at hSW); first | (go_simp; done) | (go_simp; with_reducible rfl))
        try simp only [Act.put, List.setIfInBounds_toArray, List.set_cons_zero, List.set_cons_succ]
        refine wpAnyH_ready (rs := [9, 12]) (by kernel_rfl) (by simp) ?_
        refine (AllReadyH.cons (o := { dst := some 27, op := Op.makeSlice 34 (Operand.tmp 26) (Operand.tmp 26), type := 34, pos := "propagator.go:95", after := #[{ on := 8, ground := Ground.data }, { on := 8, ground := Ground.data }], guard := none }) rfl (fun K hK => ?_) (AllReadyH.cons (o := { dst := none, op := Op.store 34 (Operand.tmp 29) (Operand.tmp 23), type := 0, pos := "propagator.go:95", after := #[{ on := 11, ground := Ground.data }, { on := 5, ground := Ground.data }, { on := 0, ground := Ground.phase }, { on := 1, ground := Ground.textOnly Departure.lateStores }, { on := 2, ground := Ground.phase }, { on := 3, ground := Ground.phase }, { on := 4, ground := Ground.phase }, { on := 5, ground := Ground.phase }, { on := 6, ground := Ground.textOnly Departure.lateStores }, { on := 7, ground := Ground.textOnly Departure.lateStores }, { on := 8, ground := Ground.textOnly Departure.lateStoresUnsure }, { on := 9, ground := Ground.textOnly Departure.lateStoresUnsure }], guard := none }) rfl (fun K hK => ?_) AllReadyH.nil))
        · rw [if_pos (by rfl)]
          go_simp
          have hNb := hNa.keep (World.grownBy_alloc Wa (.cells (madeCells #[.int .i64 0] n) 3) none)
          have hFb := FR.new hNa n
          have neba : Wa.heap.size ≠ ga := fun e => by have := hFa.lt; omega
          replace hFa := hFa.keep (World.grownBy_alloc Wa (.cells (madeCells #[.int .i64 0] n) 3) none)
          obtain ⟨Wb, hWb⟩ : ∃ z, World.alloc Wa (.cells (madeCells #[.int .i64 0] n) 3) = z := ⟨_, rfl⟩
          obtain ⟨gb, hgb⟩ : ∃ z, Wa.heap.size = z := ⟨_, rfl⟩
          rw [hgb] at neba
          rw [hWb] at hFa
          rw [hWb] at hNb hFb ⊢
          rw [hgb] at hFb ⊢
          clear hWb hgb
          refine hK.out _ _ (HS.out _ ⟨_, hNb⟩) (fun hHeld => ?_)
          clear hK K
          try simp only [Act.put, List.setIfInBounds_toArray, List.set_cons_zero, List.set_cons_succ]
          refine wpAnyH_ready (rs := [12]) (by kernel_rfl) (by simp) ?_
          refine (AllReadyH.cons (o := { dst := none, op := Op.store 34 (Operand.tmp 29) (Operand.tmp 23), type := 0, pos := "propagator.go:95", after := #[{ on := 11, ground := Ground.data }, { on := 5, ground := Ground.data }, { on := 0, ground := Ground.phase }, { on := 1, ground := Ground.textOnly Departure.lateStores }, { on := 2, ground := Ground.phase }, { on := 3, ground := Ground.phase }, { on := 4, ground := Ground.phase }, { on := 5, ground := Ground.phase }, { on := 6, ground := Ground.textOnly Departure.lateStores }, { on := 7, ground := Ground.textOnly Departure.lateStores }, { on := 8, ground := Ground.textOnly Departure.lateStoresUnsure }, { on := 9, ground := Ground.textOnly Departure.lateStoresUnsure }], guard := none }) rfl (fun K hK => ?_) AllReadyH.nil)
          rw [if_pos (by rfl)]
          have hca := hNb.pw.f7
          have hza := hNb.pw.fr 7
          go_simp
          clear hca hza
          have hPa := hNb.put hFa (i := 2) (by omega) (by first | (rfl) | rfl | (simp [Rw.blk, Value.ownBlock]; done) | (rw [HR2.out.2.2 4 (by decide) (by decide)]; rfl)) (by omega)
          replace hFb := hFb.lay (g' := ga) (n' := n) (i := 2) (by first | exact neba | exact (fun e => neab e.symm)) (by omega) (.slice (some ⟨ga, 0, none⟩) n n)
          change NS W1 [] KK tb _ _ (Wb.setCell ⟨KK.p, 7, none⟩ (.slice (some ⟨ga, 0, none⟩) n n)) at hPa
          change FR KK tb _ gb _ (Wb.setCell ⟨KK.p, 7, none⟩ (.slice (some ⟨ga, 0, none⟩) n n)) at hFb
          obtain ⟨Xa, hXa⟩ : ∃ z, Wb.setCell ⟨KK.p, 7, none⟩ (.slice (some ⟨ga, 0, none⟩) n n) = z := ⟨_, rfl⟩
          rw [hXa] at hPa ⊢
          rw [hXa] at hFb
          clear hXa
          refine hK.out _ _ (HS.out _ ⟨_, hPa⟩) (fun hHeld => ?_)
          clear hK K
          try simp only [Act.put, List.setIfInBounds_toArray, List.set_cons_zero, List.set_cons_succ]
          refine wpAnyH_take (i := 13) (oi := { dst := some 30, op := Op.nilCheck (Operand.tmp 19), type := 0, pos := "propagator.go:95", after := #[{ on := 1, ground := Ground.data }, { on := 0, ground := Ground.phase }, { on := 1, ground := Ground.phase }, { on := 2, ground := Ground.phase }, { on := 3, ground := Ground.phase }, { on := 4, ground := Ground.phase }, { on := 5, ground := Ground.phase }, { on := 6, ground := Ground.phase }, { on := 7, ground := Ground.phase }, { on := 8, ground := Ground.phase }, { on := 9, ground := Ground.phase }, { on := 10, ground := Ground.phase }, { on := 11, ground := Ground.phase }, { on := 12, ground := Ground.phase }], guard := none }) (v := ?_) rfl (by kernel_rfl) (by kernel_rfl) (by kernel_rfl) (fun _ _ _ h => h) (Or.inl ⟨by rfl, ?_⟩) (by assumption) ?_
          rotate_left 1
          · (intro W hSW; (try dsimp only at hSW); first | (go_simp; done) | (go_simp; with_reducible rfl))
          try simp only [Act.put, List.setIfInBounds_toArray, List.set_cons_zero, List.set_cons_succ]
          refine wpAnyH_take (i := 14) (oi := { dst := some 31, op := Op.fieldAddr 113 (Operand.tmp 30) 7, type := 0, pos := "propagator.go:95", after := #[{ on := 13, ground := Ground.data }, { on := 0, ground := Ground.phase }, { on := 1, ground := Ground.phase }, { on := 2, ground := Ground.phase }, { on := 3, ground := Ground.phase }, { on := 4, ground := Ground.phase }, { on := 5, ground := Ground.phase }, { on := 6, ground := Ground.phase }, { on := 7, ground := Ground.phase }, { on := 8, ground := Ground.phase }, { on := 9, ground := Ground.phase }, { on := 10, ground := Ground.phase }, { on := 11, ground := Ground.phase }, { on := 12, ground := Ground.phase }], guard := none }) (v := ?_) rfl (by kernel_rfl) (by kernel_rfl) (by kernel_rfl) (fun _ _ _ h => h) (Or.inl ⟨by rfl, ?_⟩) (by assumption) ?_
          rotate_left 1
          · (intro W hSW; (try dsimp only at hSW); first | (go_simp; done) | (go_simp; with_reducible rfl))
          try simp only [Act.put, List.setIfInBounds_toArray, List.set_cons_zero, List.set_cons_succ]
          refine wpAnyH_ready (rs := [15]) (by kernel_rfl) (by simp) ?_
          refine (AllReadyH.cons (o := { dst := none, op := Op.store 34 (Operand.tmp 31) (Operand.tmp 27), type := 0, pos := "propagator.go:95", after := #[{ on := 14, ground := Ground.data }, { on := 9, ground := Ground.data }, { on := 12, ground := Ground.chain }, { on := 0, ground := Ground.phase }, { on := 1, ground := Ground.phase }, { on := 2, ground := Ground.phase }, { on := 3, ground := Ground.phase }, { on := 4, ground := Ground.phase }, { on := 5, ground := Ground.phase }, { on := 6, ground := Ground.phase }, { on := 7, ground := Ground.phase }, { on := 8, ground := Ground.phase }, { on := 9, ground := Ground.phase }, { on := 10, ground := Ground.phase }, { on := 11, ground := Ground.phase }, { on := 12, ground := Ground.phase }], guard := none }) rfl (fun K hK => ?_) AllReadyH.nil)
          rw [if_pos (by rfl)]
          have hcb := hPa.pw.f8
          have hzb := hPa.pw.fr 8
          go_simp
          clear hcb hzb
          have hPb := hPa.put hFb (i := 3) (by omega) (by first | (rfl) | rfl | (simp [Rw.blk, Value.ownBlock]; done) | (rw [HR2.out.2.2 4 (by decide) (by decide)]; rfl)) (by omega)
          change NS W1 [] KK tb _ _ (Xa.setCell ⟨KK.p, 8, none⟩ (.slice (some ⟨gb, 0, none⟩) n n)) at hPb
          obtain ⟨Xb, hXb⟩ : ∃ z, Xa.setCell ⟨KK.p, 8, none⟩ (.slice (some ⟨gb, 0, none⟩) n n) = z := ⟨_, rfl⟩
          rw [hXb] at hPb ⊢
          clear hXb
          refine hK.out _ _ (HS.out _ ⟨_, hPb⟩) (fun hHeld => ?_)
          clear hK K
          try simp only [Act.put, List.setIfInBounds_toArray, List.set_cons_zero, List.set_cons_succ]
          refine wpAnyH_done (by kernel_rfl) ?_ _
          clear hHeld
          simp only [onlyN]
          go_wp2_with fail
          go_meet
          exact ⟨_, hPb, by rfl, by rfl, fun j h2 h3 => by rw [upd_other h3, upd_other h2]⟩
        · rw [if_pos (by rfl)]
          have hca := hNa.pw.f7
          have hza := hNa.pw.fr 7
          go_simp
          clear hca hza
          have hPa := hNa.put hFa (i := 2) (by omega) (by first | (rfl) | rfl | (simp [Rw.blk, Value.ownBlock]; done) | (rw [HR2.out.2.2 4 (by decide) (by decide)]; rfl)) (by omega)
          change NS W1 [] KK tb _ _ (Wa.setCell ⟨KK.p, 7, none⟩ (.slice (some ⟨ga, 0, none⟩) n n)) at hPa
          obtain ⟨Xa, hXa⟩ : ∃ z, Wa.setCell ⟨KK.p, 7, none⟩ (.slice (some ⟨ga, 0, none⟩) n n) = z := ⟨_, rfl⟩
          rw [hXa] at hPa ⊢
          clear hXa
          refine hK.out _ _ (HS.out _ ⟨_, hPa⟩) (fun hHeld => ?_)
          clear hK K
          try simp only [Act.put, List.setIfInBounds_toArray, List.set_cons_zero, List.set_cons_succ]
          refine wpAnyH_ready (rs := [9]) (by kernel_rfl) (by simp) ?_
          refine (AllReadyH.cons (o := { dst := some 27, op := Op.makeSlice 34 (Operand.tmp 26) (Operand.tmp 26), type := 34, pos := "propagator.go:95", after := #[{ on := 8, ground := Ground.data }, { on := 8, ground := Ground.data }], guard := none }) rfl (fun K hK => ?_) AllReadyH.nil)
          rw [if_pos (by rfl)]
          go_simp
          have hNb := hPa.keep (World.grownBy_alloc Xa (.cells (madeCells #[.int .i64 0] n) 3) none)
          have hFb := FR.new hPa n
          obtain ⟨Wb, hWb⟩ : ∃ z, World.alloc Xa (.cells (madeCells #[.int .i64 0] n) 3) = z := ⟨_, rfl⟩
          obtain ⟨gb, hgb⟩ : ∃ z, Xa.heap.size = z := ⟨_, rfl⟩
          rw [hWb] at hNb hFb ⊢
          rw [hgb] at hFb ⊢
          clear hWb hgb
          refine hK.out _ _ (HS.out _ ⟨_, hNb⟩) (fun hHeld => ?_)
          clear hK K
          try simp only [Act.put, List.setIfInBounds_toArray, List.set_cons_zero, List.set_cons_succ]
          refine wpAnyH_take (i := 13) (oi := { dst := some 30, op := Op.nilCheck (Operand.tmp 19), type := 0, pos := "propagator.go:95", after := #[{ on := 1, ground := Ground.data }, { on := 0, ground := Ground.phase }, { on := 1, ground := Ground.phase }, { on := 2, ground := Ground.phase }, { on := 3, ground := Ground.phase }, { on := 4, ground := Ground.phase }, { on := 5, ground := Ground.phase }, { on := 6, ground := Ground.phase }, { on := 7, ground := Ground.phase }, { on := 8, ground := Ground.phase }, { on := 9, ground := Ground.phase }, { on := 10, ground := Ground.phase }, { on := 11, ground := Ground.phase }, { on := 12, ground := Ground.phase }], guard := none }) (v := ?_) rfl (by kernel_rfl) (by kernel_rfl) (by kernel_rfl) (fun _ _ _ h => h) (Or.inl ⟨by rfl, ?_⟩) (by assumption) ?_
          rotate_left 1
          · (intro W hSW; (try dsimp only at hSW); first | (go_simp; done) | (go_simp; with_reducible rfl))
          try simp only [Act.put, List.setIfInBounds_toArray, List.set_cons_zero, List.set_cons_succ]
          refine wpAnyH_take (i := 14) (oi := { dst := some 31, op := Op.fieldAddr 113 (Operand.tmp 30) 7, type := 0, pos := "propagator.go:95", after := #[{ on := 13, ground := Ground.data }, { on := 0, ground := Ground.phase }, { on := 1, ground := Ground.phase }, { on := 2, ground := Ground.phase }, { on := 3, ground := Ground.phase }, { on := 4, ground := Ground.phase }, { on := 5, ground := Ground.phase }, { on := 6, ground := Ground.phase }, { on := 7, ground := Ground.phase }, { on := 8, ground := Ground.phase }, { on := 9, ground := Ground.phase }, { on := 10, ground := Ground.phase }, { on := 11, ground := Ground.phase }, { on := 12, ground := Ground.phase }], guard := none }) (v := ?_) rfl (by kernel_rfl) (by kernel_rfl) (by kernel_rfl) (fun _ _ _ h => h) (Or.inl ⟨by rfl, ?_⟩) (by assumption) ?_
          rotate_left 1
          · (intro W hSW; (try dsimp only at hSW); first | (go_simp; done) | (go_simp; with_reducible rfl))
          try simp only [Act.put, List.setIfInBounds_toArray, List.set_cons_zero, List.set_cons_succ]
          refine wpAnyH_ready (rs := [15]) (by kernel_rfl) (by simp) ?_
          refine (AllReadyH.cons (o := { dst := none, op := Op.store 34 (Operand.tmp 31) (Operand.tmp 27), type := 0, pos := "propagator.go:95", after := #[{ on := 14, ground := Ground.data }, { on := 9, ground := Ground.data }, { on := 12, ground := Ground.chain }, { on := 0, ground := Ground.phase }, { on := 1, ground := Ground.phase }, { on := 2, ground := Ground.phase }, { on := 3, ground := Ground.phase }, { on := 4, ground := Ground.phase }, { on := 5, ground := Ground.phase }, { on := 6, ground := Ground.phase }, { on := 7, ground := Ground.phase }, { on := 8, ground := Ground.phase }, { on := 9, ground := Ground.phase }, { on := 10, ground := Ground.phase }, { on := 11, ground := Ground.phase }, { on := 12, ground := Ground.phase }], guard := none }) rfl (fun K hK => ?_) AllReadyH.nil)
          rw [if_pos (by rfl)]
          have hcb := hNb.pw.f8
          have hzb := hNb.pw.fr 8
          go_simp
          clear hcb hzb
          have hPb := hNb.put hFb (i := 3) (by omega) (by first | (rfl) | rfl | (simp [Rw.blk, Value.ownBlock]; done) | (rw [HR2.out.2.2 4 (by decide) (by decide)]; rfl)) (by omega)
          change NS W1 [] KK tb _ _ (Wb.setCell ⟨KK.p, 8, none⟩ (.slice (some ⟨gb, 0, none⟩) n n)) at hPb
          obtain ⟨Xb, hXb⟩ : ∃ z, Wb.setCell ⟨KK.p, 8, none⟩ (.slice (some ⟨gb, 0, none⟩) n n) = z := ⟨_, rfl⟩
          rw [hXb] at hPb ⊢
          clear hXb
          refine hK.out _ _ (HS.out _ ⟨_, hPb⟩) (fun hHeld => ?_)
          clear hK K
          try simp only [Act.put, List.setIfInBounds_toArray, List.set_cons_zero, List.set_cons_succ]
          refine wpAnyH_done (by kernel_rfl) ?_ _
          clear hHeld
          simp only [onlyN]
          go_wp2_with fail
          go_meet
          exact ⟨_, hPb, by rfl, by rfl, fun j h2 h3 => by rw [upd_other h3, upd_other h2]⟩
      · rw [if_pos (by rfl)]
        go_simp
        have hNb := (HNS.out.keep (World.grownBy_alloc wc (.cells (madeCells #[.int .i64 0] n) 3) none)).keep (grown_drew _ none)
        have hFb := (FR.new HNS.out n).keep (grown_drew _ none)
        have hLb : wc.heap.size < ((World.alloc wc (.cells (madeCells #[.int .i64 0] n) 3)).drew).heap.size := hFb.lt
        obtain ⟨Wb, hWb⟩ : ∃ z, (World.alloc wc (.cells (madeCells #[.int .i64 0] n) 3)).drew = z := ⟨_, rfl⟩
        obtain ⟨gb, hgb⟩ : ∃ z, wc.heap.size = z := ⟨_, rfl⟩
        rw [hWb] at hNb hFb ⊢
        rw [hgb] at hFb ⊢
        clear hWb hgb hLb
        refine hK.out _ _ (HS.out _ ⟨_, hNb⟩) (fun hHeld => ?_)
        clear hK K
        try simp only [Act.put, List.setIfInBounds_toArray, List.set_cons_zero, List.set_cons_succ]
        refine wpAnyH_ready (rs := [5]) (by kernel_rfl) (by simp) ?_
        refine (AllReadyH.cons (o := { dst := some 23, op := Op.makeSlice 34 (Operand.tmp 22) (Operand.tmp 22), type := 34, pos := "propagator.go:95", after := #[{ on := 4, ground := Ground.data }, { on := 4, ground := Ground.data }], guard := none }) rfl (fun K hK => ?_) AllReadyH.nil)
        rw [if_pos (by rfl)]
        go_simp
        have hNa := hNb.keep (World.grownBy_alloc Wb (.cells (madeCells #[.int .i64 0] n) 3) none)
        have hFa := FR.new hNb n
        have neab : Wb.heap.size ≠ gb := fun e => by have := hFb.lt; omega
        replace hFb := hFb.keep (World.grownBy_alloc Wb (.cells (madeCells #[.int .i64 0] n) 3) none)
        obtain ⟨Wa, hWa⟩ : ∃ z, World.alloc Wb (.cells (madeCells #[.int .i64 0] n) 3) = z := ⟨_, rfl⟩
        obtain ⟨ga, hga⟩ : ∃ z, Wb.heap.size = z := ⟨_, rfl⟩
        rw [hga] at neab
        rw [hWa] at hFb
        rw [hWa] at hNa hFa ⊢
        rw [hga] at hFa ⊢
        clear hWa hga
        refine hK.out _ _ (HS.out _ ⟨_, hNa⟩) (fun hHeld => ?_)
        clear hK K
        try simp only [Act.put, List.setIfInBounds_toArray, List.set_cons_zero, List.set_cons_succ]
        refine wpAnyH_take (i := 10) (oi := { dst := some 28, op := Op.nilCheck (Operand.tmp 18), type := 0, pos := "propagator.go:95", after := #[{ on := 0, ground := Ground.data }, { on := 0, ground := Ground.phase }, { on := 1, ground := Ground.textOnly Departure.lateStores }, { on := 2, ground := Ground.phase }, { on := 3, ground := Ground.phase }, { on := 4, ground := Ground.phase }, { on := 5, ground := Ground.phase }, { on := 6, ground := Ground.textOnly Departure.lateStores }, { on := 7, ground := Ground.textOnly Departure.lateStores }, { on := 8, ground := Ground.textOnly Departure.lateStoresUnsure }, { on := 9, ground := Ground.textOnly Departure.lateStoresUnsure }], guard := none }) (v := ?_) rfl (by kernel_rfl) (by kernel_rfl) (by kernel_rfl) (fun _ _ _ h => h) (Or.inl ⟨by rfl, ?_⟩) (by assumption) ?_
        rotate_left 1
        · (intro W hSW; (try dsimp only at hSW); first | (go_simp; done) | (go_simp; with_reducible rfl))
        try simp only [Act.put, List.setIfInBounds_toArray, List.set_cons_zero, List.set_cons_succ]
        refine wpAnyH_take (i := 11) (oi := { dst := some 29, op := Op.fieldAddr 113 (Operand.tmp 28) 6, type := 0, pos := "propagator.go:95", after := #[{ on := 10, ground := Ground.data }, { on := 0, ground := Ground.phase }, { on := 1, ground := Ground.textOnly Departure.lateStores }, { on := 2, ground := Ground.phase }, { on := 3, ground := Ground.phase }, { on := 4, ground := Ground.phase }, { on := 5, ground := Ground.phase }, { on := 6, ground := Ground.textOnly Departure.lateStores }, { on := 7, ground := Ground.textOnly Departure.lateStores }, { on := 8, ground := Ground.textOnly Departure.lateStoresUnsure }, { on := 9, ground := Ground.textOnly Departure.lateStoresUnsure }], guard := none }) (v := ?_) rfl (by kernel_rfl) (by kernel_rfl) (by kernel_rfl) (fun _ _ _ h => h) (Or.inl ⟨by rfl, ?_⟩) (by assumption) ?_
        rotate_left 1
        · (intro W hSW; (try dsimp only at hSW); first | (go_simp; done) | (go_simp; with_reducible rfl))
        try simp only [Act.put, List.setIfInBounds_toArray, List.set_cons_zero, List.set_cons_succ]
        refine wpAnyH_ready (rs := [12]) (by kernel_rfl) (by simp) ?_
        refine (AllReadyH.cons (o := { dst := none, op := Op.store 34 (Operand.tmp 29) (Operand.tmp 23), type := 0, pos := "propagator.go:95", after := #[{ on := 11, ground := Ground.data }, { on := 5, ground := Ground.data }, { on := 0, ground := Ground.phase }, { on := 1, ground := Ground.textOnly Departure.lateStores }, { on := 2, ground := Ground.phase }, { on := 3, ground := Ground.phase }, { on := 4, ground := Ground.phase }, { on := 5, ground := Ground.phase }, { on := 6, ground := Ground.textOnly Departure.lateStores }, { on := 7, ground := Ground.textOnly Departure.lateStores }, { on := 8, ground := Ground.textOnly Departure.lateStoresUnsure }, { on := 9, ground := Ground.textOnly Departure.lateStoresUnsure }], guard := none }) rfl (fun K hK => ?_) AllReadyH.nil)
        rw [if_pos (by rfl)]
        have hca := hNa.pw.f7
        have hza := hNa.pw.fr 7
        go_simp
        clear hca hza
        have hPa := hNa.put hFa (i := 2) (by omega) (by first | (rfl) | rfl | (simp [Rw.blk, Value.ownBlock]; done) | (rw [HR2.out.2.2 4 (by decide) (by decide)]; rfl)) (by omega)
        replace hFb := hFb.lay (g' := ga) (n' := n) (i := 2) (by first | exact neba | exact (fun e => neab e.symm)) (by omega) (.slice (some ⟨ga, 0, none⟩) n n)
        change NS W1 [] KK tb _ _ (Wa.setCell ⟨KK.p, 7, none⟩ (.slice (some ⟨ga, 0, none⟩) n n)) at hPa
        change FR KK tb _ gb _ (Wa.setCell ⟨KK.p, 7, none⟩ (.slice (some ⟨ga, 0, none⟩) n n)) at hFb
        obtain ⟨Xa, hXa⟩ : ∃ z, Wa.setCell ⟨KK.p, 7, none⟩ (.slice (some ⟨ga, 0, none⟩) n n) = z := ⟨_, rfl⟩
        rw [hXa] at hPa ⊢
        rw [hXa] at hFb
        clear hXa
        refine hK.out _ _ (HS.out _ ⟨_, hPa⟩) (fun hHeld => ?_)
        clear hK K
        try simp only [Act.put, List.setIfInBounds_toArray, List.set_cons_zero, List.set_cons_succ]
        refine wpAnyH_take (i := 13) (oi := { dst := some 30, op := Op.nilCheck (Operand.tmp 19), type := 0, pos := "propagator.go:95", after := #[{ on := 1, ground := Ground.data }, { on := 0, ground := Ground.phase }, { on := 1, ground := Ground.phase }, { on := 2, ground := Ground.phase }, { on := 3, ground := Ground.phase }, { on := 4, ground := Ground.phase }, { on := 5, ground := Ground.phase }, { on := 6, ground := Ground.phase }, { on := 7, ground := Ground.phase }, { on := 8, ground := Ground.phase }, { on := 9, ground := Ground.phase }, { on := 10, ground := Ground.phase }, { on := 11, ground := Ground.phase }, { on := 12, ground := Ground.phase }], guard := none }) (v := ?_) rfl (by kernel_rfl) (by kernel_rfl) (by kernel_rfl) (fun _ _ _ h => h) (Or.inl ⟨by rfl, ?_⟩) (by assumption) ?_
        rotate_left 1
        · (intro W hSW; (try dsimp only at hSW); first | (go_simp; done) | (go_simp; with_reducible rfl))
        try simp only [Act.put, List.setIfInBounds_toArray, List.set_cons_zero, List.set_cons_succ]
        refine wpAnyH_take (i := 14) (oi := { dst := some 31, op := Op.fieldAddr 113 (Operand.tmp 30) 7, type := 0, pos := "propagator.go:95", after := #[{ on := 13, ground := Ground.data }, { on := 0, ground := Ground.phase }, { on := 1, ground := Ground.phase }, { on := 2, ground := Ground.phase }, { on := 3, ground := Ground.phase }, { on := 4, ground := Ground.phase }, { on := 5, ground := Ground.phase }, { on := 6, ground := Ground.phase }, { on := 7, ground := Ground.phase }, { on := 8, ground := Ground.phase }, { on := 9, ground := Ground.phase }, { on := 10, ground := Ground.phase }, { on := 11, ground := Ground.phase }, { on := 12, ground := Ground.phase }], guard := none }) (v := ?_) rfl (by kernel_rfl) (by kernel_rfl) (by kernel_rfl) (fun _ _ _ h => h) (Or.inl ⟨by rfl, ?_⟩) (by assumption) ?_
        rotate_left 1
        · (intro W hSW; (try dsimp only at hSW); first | (go_simp; done) | (go_simp; with_reducible rfl))
        try simp only [Act.put, List.setIfInBounds_toArray, List.set_cons_zero, List.set_cons_succ]
        refine wpAnyH_ready (rs := [15]) (by kernel_rfl) (by simp) ?_
        refine (AllReadyH.cons (o := { dst := none, op := Op.store 34 (Operand.tmp 31) (Operand.tmp 27), type := 0, pos := "propagator.go:95", after := #[{ on := 14, ground := Ground.data }, { on := 9, ground := Ground.data }, { on := 12, ground := Ground.chain }, { on := 0, ground := Ground.phase }, { on := 1, ground := Ground.phase }, { on := 2, ground := Ground.phase }, { on := 3, ground := Ground.phase }, { on := 4, ground := Ground.phase }, { on := 5, ground := Ground.phase }, { on := 6, ground := Ground.phase }, { on := 7, ground := Ground.phase }, { on := 8, ground := Ground.phase }, { on := 9, ground := Ground.phase }, { on := 10, ground := Ground.phase }, { on := 11, ground := Ground.phase }, { on := 12, ground := Ground.phase }], guard := none }) rfl (fun K hK => ?_) AllReadyH.nil)
        rw [if_pos (by rfl)]
        have hcb := hPa.pw.f8
        have hzb := hPa.pw.fr 8
        go_simp
        clear hcb hzb
        have hPb := hPa.put hFb (i := 3) (by omega) (by first | (rfl) | rfl | (simp [Rw.blk, Value.ownBlock]; done) | (rw [HR2.out.2.2 4 (by decide) (by decide)]; rfl)) (by omega)
        change NS W1 [] KK tb _ _ (Xa.setCell ⟨KK.p, 8, none⟩ (.slice (some ⟨gb, 0, none⟩) n n)) at hPb
        obtain ⟨Xb, hXb⟩ : ∃ z, Xa.setCell ⟨KK.p, 8, none⟩ (.slice (some ⟨gb, 0, none⟩) n n) = z := ⟨_, rfl⟩
        rw [hXb] at hPb ⊢
        clear hXb
        refine hK.out _ _ (HS.out _ ⟨_, hPb⟩) (fun hHeld => ?_)
        clear hK K
        try simp only [Act.put, List.setIfInBounds_toArray, List.set_cons_zero, List.set_cons_succ]
        refine wpAnyH_done (by kernel_rfl) ?_ _
        clear hHeld
        simp only [onlyN]
        go_wp2_with fail
        go_meet
        exact ⟨_, hPb, by rfl, by rfl, fun j h2 h3 => by rw [upd_other h3, upd_other h2]⟩
    case rest =>
      obtain ⟨R2, hns, hr2, hr3, hro⟩ := hcut
      have HN2 := Lib.hid hns
      have HR2 := Lib.hid (And.intro hr2 (And.intro hr3 hro))
      clear hns hr2 hr3 hro k2
      obtain ⟨M, hM⟩ : ∃ M, 2 * V + 4 = M := ⟨_, rfl⟩
      have k3 : IntKind.i64.wrap (2 * (V : Int)) = 2 * (V : Int) := IntWalk.i64_in _ (by omega)
      have k4 : IntKind.i64.wrap (2 * (V : Int) + 4) = (M : Int) := by rw [IntWalk.i64_in _ (by omega)]; omega
      have k5 : ∀ U : World, (Instr.makeSlice 34 (.int .i64 (M : Int)) (.int .i64 (M : Int))).run Tryz.prog U = .ok (.slice (some ⟨U.heap.size, 0, none⟩) M M) (U.alloc (.cells (madeCells #[.int .i64 0] M) 3)) := fun U => mk25 U M (by omega)
      have hMl : M ≤ 1000 := by omega
      have HM := Lib.hid hM
      clear hM
      gi_wp2_with fail
      refine wpIn_wide.2 ?_
      go_cut [] from 32 to 39 (fun wx => ∃ R, NS W1 [] KK tb vs0 R wx ∧ (R 4).l = List.replicate M 0 ∧ ∀ j, j ≠ 4 → R j = R2 j)
      case first =>
        refine wp_onlyN ?_
        have hdr : ∃ R, NS W1 [] KK tb vs0 R wc.drew := ⟨_, HN2.out.keep (grown_drew _ none)⟩
        refine wp_region_held_drew (S := (fun Wh : World => Wh.cell? ⟨tb, 0, none⟩ = some (.pointer (some ⟨KK.p, 0, none⟩)) ∧ Wh.cell? ⟨bf, 0, none⟩ = some (.int .i64 (V : Int)) ∧ Wh.cell? ⟨bf, 1, none⟩ = some (.slice ca n cc))) (by kernel_rfl) (HS.out _ hdr) (fun hHeld => ?_)
        refine wpAnyH_take (i := 0) (oi := { dst := some 32, op := Op.load 114 (Operand.tmp 3), type := 114, pos := "propagator.go:96", after := #[], guard := none }) (v := ?_) rfl (by kernel_rfl) (by kernel_rfl) (by kernel_rfl) (fun _ _ _ h => h) (Or.inl ⟨by rfl, ?_⟩) (by assumption) ?_
        rotate_left 1
        · (intro W hSW; (try dsimp only at hSW); first | (go_simp; done) | (go_simp; with_reducible rfl))
        try simp only [Act.put, List.setIfInBounds_toArray, List.set_cons_zero, List.set_cons_succ]
        refine wpAnyH_take (i := 1) (oi := { dst := some 33, op := Op.fieldAddr 24 (Operand.tmp 1) 0, type := 0, pos := "propagator.go:96", after := #[], guard := none }) (v := ?_) rfl (by kernel_rfl) (by kernel_rfl) (by kernel_rfl) (fun _ _ _ h => h) (Or.inl ⟨by rfl, ?_⟩) (by assumption) ?_
        rotate_left 1
        · (intro W hSW; (try dsimp only at hSW); first | (go_simp; done) | (go_simp; with_reducible rfl))
        try simp only [Act.put, List.setIfInBounds_toArray, List.set_cons_zero, List.set_cons_succ]
        refine wpAnyH_take (i := 2) (oi := { dst := some 34, op := Op.load 3 (Operand.tmp 33), type := 3, pos := "propagator.go:96", after := #[{ on := 1, ground := Ground.data }], guard := none }) (v := ?_) rfl (by kernel_rfl) (by kernel_rfl) (by kernel_rfl) (fun _ _ _ h => h) (Or.inl ⟨by rfl, ?_⟩) (by assumption) ?_
        rotate_left 1
        · (intro W hSW; (try dsimp only at hSW); first | (go_simp; done) | (go_simp; with_reducible rfl))
        try simp only [Act.put, List.setIfInBounds_toArray, List.set_cons_zero, List.set_cons_succ]
        refine wpAnyH_take (i := 3) (oi := { dst := some 35, op := Op.binOp BinOp.mul 3 (Operand.const (Value.int IntKind.i64 2)) (Operand.tmp 34) 3, type := 3, pos := "propagator.go:96", after := #[{ on := 2, ground := Ground.data }], guard := none }) (v := ?_) rfl (by kernel_rfl) (by kernel_rfl) (by kernel_rfl) (fun _ _ _ h => h) (Or.inl ⟨by rfl, ?_⟩) (by assumption) ?_
        rotate_left 1
        · (intro W hSW; (try dsimp only at hSW); first | (go_simp; done) | (go_simp; with_reducible rfl))
        try simp only [Act.put, List.setIfInBounds_toArray, List.set_cons_zero, List.set_cons_succ]
        refine wpAnyH_take (i := 4) (oi := { dst := some 36, op := Op.binOp BinOp.add 3 (Operand.tmp 35) (Operand.const (Value.int IntKind.i64 4)) 3, type := 3, pos := "propagator.go:96", after := #[{ on := 3, ground := Ground.data }], guard := none }) (v := ?_) rfl (by kernel_rfl) (by kernel_rfl) (by kernel_rfl) (fun _ _ _ h => h) (Or.inl ⟨by rfl, ?_⟩) (by assumption) ?_
        rotate_left 1
        · (intro W hSW; (try dsimp only at hSW); first | (go_simp; done) | (go_simp; with_reducible rfl))
        try simp only [Act.put, List.setIfInBounds_toArray, List.set_cons_zero, List.set_cons_succ]
        refine wpAnyH_ready (rs := [5]) (by kernel_rfl) (by simp) ?_
        refine (AllReadyH.cons (o := { dst := some 37, op := Op.makeSlice 34 (Operand.tmp 36) (Operand.tmp 36), type := 34, pos := "propagator.go:96", after := #[{ on := 4, ground := Ground.data }, { on := 4, ground := Ground.data }], guard := none }) rfl (fun K hK => ?_) AllReadyH.nil)
        rw [if_pos (by rfl)]
        go_simp
        have hNa := (HN2.out.keep (World.grownBy_alloc wc (.cells (madeCells #[.int .i64 0] M) 3) none)).keep (grown_drew _ none)
        have hFa := (FR.new HN2.out M).keep (grown_drew _ none)
        have hLa : wc.heap.size < ((World.alloc wc (.cells (madeCells #[.int .i64 0] M) 3)).drew).heap.size := hFa.lt
        obtain ⟨Wa, hWa⟩ : ∃ z, (World.alloc wc (.cells (madeCells #[.int .i64 0] M) 3)).drew = z := ⟨_, rfl⟩
        obtain ⟨ga, hga⟩ : ∃ z, wc.heap.size = z := ⟨_, rfl⟩
        rw [hWa] at hNa hFa ⊢
        rw [hga] at hFa ⊢
        clear hWa hga hLa
        refine hK.out _ _ (HS.out _ ⟨_, hNa⟩) (fun hHeld => ?_)
        clear hK K
        try simp only [Act.put, List.setIfInBounds_toArray, List.set_cons_zero, List.set_cons_succ]
        refine wpAnyH_take (i := 6) (oi := { dst := some 38, op := Op.nilCheck (Operand.tmp 32), type := 0, pos := "propagator.go:96", after := #[{ on := 0, ground := Ground.data }, { on := 0, ground := Ground.phase }, { on := 1, ground := Ground.phase }, { on := 2, ground := Ground.phase }, { on := 3, ground := Ground.phase }, { on := 4, ground := Ground.phase }, { on := 5, ground := Ground.phase }], guard := none }) (v := ?_) rfl (by kernel_rfl) (by kernel_rfl) (by kernel_rfl) (fun _ _ _ h => h) (Or.inl ⟨by rfl, ?_⟩) (by assumption) ?_
        rotate_left 1
        · (intro W hSW; (try dsimp only at hSW); first | (go_simp; done) | (go_simp; with_reducible rfl))
        try simp only [Act.put, List.setIfInBounds_toArray, List.set_cons_zero, List.set_cons_succ]
        refine wpAnyH_take (i := 7) (oi := { dst := some 39, op := Op.fieldAddr 113 (Operand.tmp 38) 8, type := 0, pos := "propagator.go:96", after := #[{ on := 6, ground := Ground.data }, { on := 0, ground := Ground.phase }, { on := 1, ground := Ground.phase }, { on := 2, ground := Ground.phase }, { on := 3, ground := Ground.phase }, { on := 4, ground := Ground.phase }, { on := 5, ground := Ground.phase }], guard := none }) (v := ?_) rfl (by kernel_rfl) (by kernel_rfl) (by kernel_rfl) (fun _ _ _ h => h) (Or.inl ⟨by rfl, ?_⟩) (by assumption) ?_
        rotate_left 1
        · (intro W hSW; (try dsimp only at hSW); first | (go_simp; done) | (go_simp; with_reducible rfl))
        try simp only [Act.put, List.setIfInBounds_toArray, List.set_cons_zero, List.set_cons_succ]
        refine wpAnyH_ready (rs := [8]) (by kernel_rfl) (by simp) ?_
        refine (AllReadyH.cons (o := { dst := none, op := Op.store 34 (Operand.tmp 39) (Operand.tmp 37), type := 0, pos := "propagator.go:96", after := #[{ on := 7, ground := Ground.data }, { on := 5, ground := Ground.data }, { on := 0, ground := Ground.phase }, { on := 1, ground := Ground.phase }, { on := 2, ground := Ground.phase }, { on := 3, ground := Ground.phase }, { on := 4, ground := Ground.phase }, { on := 5, ground := Ground.phase }], guard := none }) rfl (fun K hK => ?_) AllReadyH.nil)
        rw [if_pos (by rfl)]
        have hca := hNa.pw.f9
        have hza := hNa.pw.fr 9
        go_simp
        clear hca hza
        have hPa := hNa.put hFa (i := 4) (by omega) (by first | (rfl) | rfl | (simp [Rw.blk, Value.ownBlock]; done) | (rw [HR2.out.2.2 4 (by decide) (by decide)]; rfl)) (by omega)
        change NS W1 [] KK tb _ _ (Wa.setCell ⟨KK.p, 9, none⟩ (.slice (some ⟨ga, 0, none⟩) M M)) at hPa
        obtain ⟨Xa, hXa⟩ : ∃ z, Wa.setCell ⟨KK.p, 9, none⟩ (.slice (some ⟨ga, 0, none⟩) M M) = z := ⟨_, rfl⟩
        rw [hXa] at hPa ⊢
        clear hXa
        refine hK.out _ _ (HS.out _ ⟨_, hPa⟩) (fun hHeld => ?_)
        clear hK K
        try simp only [Act.put, List.setIfInBounds_toArray, List.set_cons_zero, List.set_cons_succ]
        refine wpAnyH_done (by kernel_rfl) ?_ _
        clear hHeld
        simp only [onlyN]
        go_wp2_with fail
        go_meet
        exact ⟨_, hPa, by rw [upd_same], fun j h4 => by rw [upd_other h4]⟩
      case rest =>
        obtain ⟨R3, hns, hr4, hro⟩ := hcut
        have HN3 := Lib.hid hns
        have HR3 := Lib.hid (And.intro hr4 hro)
        have t0 := hns.tb0
        clear hns hr4 hro k3 k4 k5
        gi_wp2_with fail
        clear t0
        have HB := Lib.hid (show w.heap.size ≤ W1.heap.size from HG.out.size)
        have HOC : Hid (∀ W, wc.grownBy W none → GivesG ocV Fence.wide Tryz.prog 120 #[.pointer (some ⟨KK.p, 0, none⟩)] #[] (fun b => b < w.heap.size) (occs C) W) := Lib.hid (fun W hW => by
          have hN := HN3.out.keep hW
          exact occ_gives V C KK.p ca cc w.heap.size w W rfl (Nat.le_trans HB.out hN.grown.size) (fun b hb => (hN.grown.block b (Nat.lt_of_lt_of_le hb HB.out) (by simp)).trans (HG.out.block b hb (by simp))) HH.out.1 (by have h := hN.pw.f0; rw [HK.out.1] at h; exact h) (by have h := hN.pw.f1; rw [HK.out.2.1, HK.out.2.2.1, HK.out.2.2.2] at h; rw [HH.out.2.2.2]; exact h) (by omega) (by rw [HH.out.2.2.2]; exact hC) (fun c h => Nat.le_trans (HH.out.2.1 c h) (by omega)) HH.out.2.2.1)
        obtain ⟨g4, ha4, hv4, _, _⟩ := HN3.out.pw.row (i := 4) (by omega) (n := M) (by rw [HR3.out.1]; simp) (by have := HM.out; omega)
        have hst := LI.start HN3.out HR3.out.1 ha4 (by have := HM.out; omega)
        have HST := Lib.hid (And.intro hst (And.intro ha4 hv4))
        clear hst ha4 hv4
        refine rangeYesG (n := 3) (vals := ocV) (gf := 120) (la := #[.pointer (some ⟨KK.p, 0, none⟩)]) (lb := #[]) rfl rfl rfl trivial (enters_of Tryz.func120 (by kernel_rfl) rfl) (fun _ => rfl) (caps := fun b => b < w.heap.size) (xs := occs C) (fun W hW => HOC.out W hW)
          (fun pre W => ∃ s, LI W1 [] KK tb vs0 R3 g4 M wc.heap.size s W ∧ CntOk M pre s) (SafeN w.heap.size wc.heap.size) (LI.abide (by have := HB.out; have := HN3.out.grown.size; omega)) ?hcap ⟨_, HST.out.1, CntOk.start M⟩ ?round ?done
        case hcap =>
          intro b hb
          exact ⟨by have := HB.out; have := HN3.out.grown.size; omega, .inl hb⟩
        case round =>
          intro l' pre x W hF hpre
          have hx := occs_key HH.out.2.2.1 x (hpre.subset (by simp))
          have HX := Lib.hid (And.intro hx hpre)
          clear hF hpre hx
          simp only [ocV]
          gi_wp2
          refine ⟨trivial, fun W2 hF2 => ?_⟩
          obtain ⟨s, hli, hcnt⟩ := hF2
          have HLI := Lib.hid hli
          have HCN := Lib.hid hcnt
          clear hli hcnt
          obtain ⟨kx, hkx⟩ : ∃ z, key x = z := ⟨_, rfl⟩
          have HKX := Lib.hid hkx
          have HIX : Hid (∀ U, Calls Tryz.prog 121 #[.int .i64 x.1] U fun e w' => e = .returned (.int .i64 (kx : Int)) ∧ w' = U) := Lib.hid (by rw [← hkx]; exact ix_calls' V x.1 HX.out.1.2.2 (by omega))
          have HIXL : Hid (kx + 1 < M) := Lib.hid (by have h1 := HX.out.1.1; rw [hkx] at h1; have := HM.out; omega)
          obtain ⟨v0, hv0⟩ : ∃ z, at_ s (kx + 1) = z := ⟨_, rfl⟩
          have HV0 := Lib.hid hv0
          have hb0 : 0 ≤ v0 ∧ v0 ≤ 100000 := by
            rw [← hv0, HCN.out.2.2 kx HIXL.out]
            have h1 : cntE kx pre ≤ pre.length := List.countP_le_length
            have h2 := HX.out.2.length_le
            have h3 := occs_len HH.out.2.1 C.length (Nat.le_refl _)
            have h4 := HH.out.2.2.2
            have h5 : (occs C).length ≤ C.length * 100 := h3
            simp only [List.length_append, List.length_singleton] at h2
            omega
          have k1 : IntKind.i64.wrap ((kx : Int) + 1) = (kx : Int) + 1 := IntWalk.i64_in _ (by have := HIXL.out; omega)
          have k2 : IntKind.i64.wrap (v0 + 1) = v0 + 1 := IntWalk.i64_in _ (by omega)
          have k3 : (kx : Int) + 1 < (M : Int) := by have := HIXL.out; omega
          have k4 : (0 : Int) ≤ (kx : Int) + 1 := by omega
          have k6 : ((kx : Int) + 1).toNat = kx + 1 := by omega
          clear hkx hv0 hb0
          have HSR : Hid (∀ Wh : World, (∃ s, LI W1 [] KK tb vs0 R3 g4 M wc.heap.size s Wh) → (fun Wh : World => Wh.cell? ⟨tb, 0, none⟩ = some (.pointer (some ⟨KK.p, 0, none⟩)) ∧ Wh.cell? ⟨KK.p, 9, none⟩ = some (.slice (some ⟨g4, 0, none⟩) M (R3 4).c)) Wh) := Lib.hid (fun Wh h => by
            obtain ⟨s, h⟩ := h
            exact ⟨h.ns.tb0, h.f9⟩)
          gi_wp2_with fail
          have hdr : ∃ s, LI W1 [] KK tb vs0 R3 g4 M wc.heap.size s W2.drew := ⟨_, HLI.out.drew⟩
          refine wpIn_region_held_round (S := (fun Wh : World => Wh.cell? ⟨tb, 0, none⟩ = some (.pointer (some ⟨KK.p, 0, none⟩)) ∧ Wh.cell? ⟨KK.p, 9, none⟩ = some (.slice (some ⟨g4, 0, none⟩) M (R3 4).c))) (by kernel_rfl) (by kernel_rfl) (by rintro ⟨_, _, h⟩; exact h) (HSR.out _ hdr) (fun hHeld => ?_)
          refine wpAnyH_take (i := 0) (oi := { dst := some 44, op := Op.load 114 (Operand.tmp 3), type := 114, pos := "propagator.go:98", after := #[], guard := none }) (v := ?_) rfl (by kernel_rfl) (by kernel_rfl) (by kernel_rfl) (fun _ _ _ h => h) (Or.inl ⟨by rfl, ?_⟩) (by assumption) ?_
          rotate_left 1
          · (intro W hSW; (try dsimp only at hSW); first | (go_simp; done) | (go_simp; with_reducible rfl))
          try simp only [Act.put, List.setIfInBounds_toArray, List.set_cons_zero, List.set_cons_succ]
          refine wpAnyH_take (i := 1) (oi := { dst := some 45, op := Op.nilCheck (Operand.tmp 44), type := 0, pos := "propagator.go:98", after := #[{ on := 0, ground := Ground.data }], guard := none }) (v := ?_) rfl (by kernel_rfl) (by kernel_rfl) (by kernel_rfl) (fun _ _ _ h => h) (Or.inl ⟨by rfl, ?_⟩) (by assumption) ?_
          rotate_left 1
          · (intro W hSW; (try dsimp only at hSW); first | (go_simp; done) | (go_simp; with_reducible rfl))
          try simp only [Act.put, List.setIfInBounds_toArray, List.set_cons_zero, List.set_cons_succ]
          refine wpAnyH_take (i := 2) (oi := { dst := some 46, op := Op.fieldAddr 113 (Operand.tmp 45) 8, type := 0, pos := "propagator.go:98", after := #[{ on := 1, ground := Ground.data }], guard := none }) (v := ?_) rfl (by kernel_rfl) (by kernel_rfl) (by kernel_rfl) (fun _ _ _ h => h) (Or.inl ⟨by rfl, ?_⟩) (by assumption) ?_
          rotate_left 1
          · (intro W hSW; (try dsimp only at hSW); first | (go_simp; done) | (go_simp; with_reducible rfl))
          try simp only [Act.put, List.setIfInBounds_toArray, List.set_cons_zero, List.set_cons_succ]
          refine wpAnyH_take (i := 3) (oi := { dst := some 47, op := Op.load 34 (Operand.tmp 46), type := 34, pos := "propagator.go:98", after := #[{ on := 2, ground := Ground.data }], guard := none }) (v := ?_) rfl (by kernel_rfl) (by kernel_rfl) (by kernel_rfl) (fun _ _ _ h => h) (Or.inl ⟨by rfl, ?_⟩) (by assumption) ?_
          rotate_left 1
          · (intro W hSW; (try dsimp only at hSW); first | (go_simp; done) | (go_simp; with_reducible rfl))
          try simp only [Act.put, List.setIfInBounds_toArray, List.set_cons_zero, List.set_cons_succ]
          refine wpAnyH_take (i := 4) (oi := { dst := some 48, op := Op.move (Operand.tmp 4), type := 3, pos := "propagator.go:98", after := #[], guard := none }) (v := ?_) rfl (by kernel_rfl) (by kernel_rfl) (by kernel_rfl) (fun _ _ _ h => h) (Or.inl ⟨by rfl, ?_⟩) (by assumption) ?_
          rotate_left 1
          · (intro W hSW; (try dsimp only at hSW); first | (go_simp; done) | (go_simp; with_reducible rfl))
          try simp only [Act.put, List.setIfInBounds_toArray, List.set_cons_zero, List.set_cons_succ]
          refine wpAnyH_ready (rs := [5]) (by kernel_rfl) (by simp) ?_
          refine (AllReadyH.cons (o := { dst := some 49, op := Op.call { callee := Callee.value (Operand.func 121), args := #[Operand.tmp 48], argTypes := #[3] }, type := 3, pos := "propagator.go:98", after := #[{ on := 4, ground := Ground.data }], guard := none }) rfl (fun K hK => ?_) AllReadyH.nil)
          rw [if_pos (by rfl)]
          go_simp
          go_at_call 121
          refine (HIX.out _).mono ?_
          rintro e w9 ⟨rfl, hw9⟩
          rw [hw9]
          clear hw9 w9
          go_wp2_with fail
          refine hK.out _ _ (HSR.out _ hdr) (fun hHeld => ?_)
          clear hK K
          try simp only [Act.put, List.setIfInBounds_toArray, List.set_cons_zero, List.set_cons_succ]
          refine wpAnyH_take (i := 6) (oi := { dst := some 50, op := Op.binOp BinOp.add 3 (Operand.tmp 49) (Operand.const (Value.int IntKind.i64 1)) 3, type := 3, pos := "propagator.go:98", after := #[{ on := 5, ground := Ground.data }], guard := none }) (v := ?_) rfl (by kernel_rfl) (by kernel_rfl) (by kernel_rfl) (fun _ _ _ h => h) (Or.inl ⟨by rfl, ?_⟩) (by assumption) ?_
          rotate_left 1
          · (intro W hSW; (try dsimp only at hSW); first | (go_simp; done) | (go_simp; with_reducible rfl))
          try simp only [Act.put, List.setIfInBounds_toArray, List.set_cons_zero, List.set_cons_succ]
          refine wpAnyH_take (i := 7) (oi := { dst := some 51, op := Op.indexAddr 34 (Operand.tmp 47) (Operand.tmp 50), type := 0, pos := "propagator.go:98", after := #[{ on := 3, ground := Ground.data }, { on := 6, ground := Ground.data }], guard := none }) (v := ?_) rfl (by kernel_rfl) (by kernel_rfl) (by kernel_rfl) (fun _ _ _ h => h) (Or.inl ⟨by rfl, ?_⟩) (by assumption) ?_
          rotate_left 1
          · (intro W hSW; (try dsimp only at hSW); first | (go_simp; done) | (go_simp; with_reducible rfl))
          try simp only [Act.put, List.setIfInBounds_toArray, List.set_cons_zero, List.set_cons_succ]
          refine wpAnyH_ready (rs := [8]) (by kernel_rfl) (by simp) ?_
          refine (AllReadyH.cons (o := { dst := some 52, op := Op.load 3 (Operand.tmp 51), type := 3, pos := "propagator.go:98", after := #[{ on := 7, ground := Ground.data }], guard := none }) rfl (fun K hK => ?_) AllReadyH.nil)
          rw [if_pos (by rfl)]
          have hc := (HLI.out.c4 HIXL.out).trans (by rw [HV0.out])
          go_simp
          clear hc
          refine hK.out _ _ (HSR.out _ hdr) (fun hHeld => ?_)
          clear hK K
          try simp only [Act.put, List.setIfInBounds_toArray, List.set_cons_zero, List.set_cons_succ]
          refine wpAnyH_take (i := 9) (oi := { dst := some 53, op := Op.binOp BinOp.add 3 (Operand.tmp 52) (Operand.const (Value.int IntKind.i64 1)) 3, type := 3, pos := "propagator.go:98", after := #[{ on := 8, ground := Ground.data }], guard := none }) (v := ?_) rfl (by kernel_rfl) (by kernel_rfl) (by kernel_rfl) (fun _ _ _ h => h) (Or.inl ⟨by rfl, ?_⟩) (by assumption) ?_
          rotate_left 1
          · (intro W hSW; (try dsimp only at hSW); first | (go_simp; done) | (go_simp; with_reducible rfl))
          try simp only [Act.put, List.setIfInBounds_toArray, List.set_cons_zero, List.set_cons_succ]
          refine wpAnyH_take (i := 10) (oi := { dst := some 54, op := Op.indexAddr 34 (Operand.tmp 47) (Operand.tmp 50), type := 0, pos := "propagator.go:98", after := #[{ on := 3, ground := Ground.data }, { on := 6, ground := Ground.data }, { on := 0, ground := Ground.phase }, { on := 1, ground := Ground.phase }, { on := 2, ground := Ground.phase }, { on := 3, ground := Ground.phase }, { on := 4, ground := Ground.phase }, { on := 5, ground := Ground.phase }, { on := 6, ground := Ground.phase }, { on := 7, ground := Ground.phase }, { on := 8, ground := Ground.phase }, { on := 9, ground := Ground.phase }], guard := none }) (v := ?_) rfl (by kernel_rfl) (by kernel_rfl) (by kernel_rfl) (fun _ _ _ h => h) (Or.inl ⟨by rfl, ?_⟩) (by assumption) ?_
          rotate_left 1
          · (intro W hSW; (try dsimp only at hSW); first | (go_simp; done) | (go_simp; with_reducible rfl))
          try simp only [Act.put, List.setIfInBounds_toArray, List.set_cons_zero, List.set_cons_succ]
          refine wpAnyH_ready (rs := [11]) (by kernel_rfl) (by simp) ?_
          refine (AllReadyH.cons (o := { dst := none, op := Op.store 3 (Operand.tmp 54) (Operand.tmp 53), type := 0, pos := "propagator.go:98", after := #[{ on := 10, ground := Ground.data }, { on := 9, ground := Ground.data }, { on := 5, ground := Ground.chain }, { on := 0, ground := Ground.phase }, { on := 1, ground := Ground.phase }, { on := 2, ground := Ground.phase }, { on := 3, ground := Ground.phase }, { on := 4, ground := Ground.phase }, { on := 5, ground := Ground.phase }, { on := 6, ground := Ground.phase }, { on := 7, ground := Ground.phase }, { on := 8, ground := Ground.phase }, { on := 9, ground := Ground.phase }], guard := none }) rfl (fun K hK => ?_) AllReadyH.nil)
          rw [if_pos (by rfl)]
          have hc := (HLI.out.c4 HIXL.out).trans (by rw [HV0.out])
          have hz := HLI.out.z4 (kx + 1)
          go_simp
          clear hc hz
          have hS := HLI.out.drew.put (kx + 1) (v0 + 1)
          have hsv := HLI.out.drew.saved (lo := w.heap.size) HB.out (kx + 1) (.int .i64 (v0 + 1))
          obtain ⟨WX, hWX⟩ : ∃ z, (W2.setCell ⟨g4, kx + 1, none⟩ (.int .i64 (v0 + 1))).drew = z := ⟨_, rfl⟩
          change LI W1 [] KK tb vs0 R3 g4 M wc.heap.size _ ((W2.setCell ⟨g4, kx + 1, none⟩ (.int .i64 (v0 + 1))).drew) at hS
          change Saved _ _ ((W2.setCell ⟨g4, kx + 1, none⟩ (.int .i64 (v0 + 1))).drew) at hsv
          rw [hWX] at hS ⊢
          refine hK.out _ _ (HSR.out _ ⟨_, hS⟩) (fun hHeld => ?_)
          clear hK K
          try simp only [Act.put, List.setIfInBounds_toArray, List.set_cons_zero, List.set_cons_succ]
          refine wpAnyH_done (by kernel_rfl) ?_ _
          clear hHeld
          gi_wp2_with fail
          rw [← hWX] at hS ⊢
          exact ⟨⟨_, hS, by have h := HCN.out.step (x := x) (by rw [HKX.out]; exact HIXL.out); rwa [HKX.out, HV0.out] at h⟩, hsv⟩
        case done =>
          intro D W hD hF hsD hdef
          obtain ⟨s1, hli, hcnt⟩ := hF
          have HLI := Lib.hid (show LI W1 [D] KK tb vs0 R3 g4 M W.heap.size s1 W from hli.mark hdef)
          have HCN := Lib.hid hcnt
          have HD := Lib.hid (And.intro hdef hD)
          have ht3 := hli.ns.tb0
          clear hli hcnt hdef hsD hD
          have hM2 : 2 ≤ M := by have := HM.out; omega
          gi_wp2_with fail
          clear ht3
          gi_loopg [5] (M - 1) (fun gk s5 wr => ∃ (k : Nat) (s : List Int), s5 = .int .i64 ((k + 1 : Nat) : Int) ∧ gk = M - 1 - k ∧ k + 1 ≤ M ∧ LI W1 [D] KK tb vs0 R3 g4 M W.heap.size s wr ∧ SumOk M (occs C) (k + 1) s)
          case atStart => exact ⟨0, s1, rfl, rfl, by omega, HLI.out, SumOk.start HCN.out⟩
          case round =>
            obtain ⟨k, s, rfl, hgk, hk, hli, hsum⟩ := hrel
            obtain ⟨wo, hwo⟩ : ∃ z, z = wr := ⟨_, rfl⟩
            rw [← hwo] at hli ⊢
            clear hwo
            have HL2 := Lib.hid hli
            have HS2 := Lib.hid (And.intro hsum hgk)
            have t0 := hli.ns.tb0
            have t9 := hli.f9
            clear hsum hgk
            obtain ⟨kk, hkk⟩ : ∃ z, k + 1 = z := ⟨_, rfl⟩
            rw [hkk]
            have HKK := Lib.hid hkk
            by_cases hkn : kk < M
            · have f1 : decide (kk < M) = true := decide_eq_true hkn
              have f2 : decide ((kk : Int) < (M : Int)) = true := decide_eq_true (by omega)
              have f3 : (kk : Int) < (M : Int) := by omega
              have f4 : IntKind.i64.wrap ((kk : Int) - 1) = (k : Int) := by rw [IntWalk.i64_in _ (by omega)]; omega
              have f5 : (k : Int) < (M : Int) := by omega
              have c1 := hli.c4 (j := kk) hkn
              have c2 := hli.c4 (j := k) (by omega)
              have z1 := hli.z4 kk
              obtain ⟨x, hx⟩ : ∃ z, at_ s kk = z := ⟨_, rfl⟩
              obtain ⟨y, hy⟩ : ∃ z, at_ s k = z := ⟨_, rfl⟩
              rw [hx] at c1
              rw [hy] at c2
              have hol : (occs C).length ≤ 100000 := by
                have h3 := occs_len HH.out.2.1 C.length (Nat.le_refl _)
                have h4 := HH.out.2.2.2
                have h5 : (occs C).length ≤ C.length * 100 := h3
                omega
              have hbx : 0 ≤ x ∧ x ≤ 100000 := by
                have h1 := HS2.out.1.2.2 k (by omega) (by omega)
                rw [hkk, hx] at h1
                have h2 : cntE k (occs C) ≤ (occs C).length := List.countP_le_length
                omega
              have hby : 0 ≤ y ∧ y ≤ 100000 := by
                have h1 := HS2.out.1.2.1 k (by omega) (by omega)
                rw [hy] at h1
                have h2 := cntL_len k (occs C)
                omega
              have f6 : IntKind.i64.wrap (x + y) = x + y := IntWalk.i64_in _ (by omega)
              have f7 : IntKind.i64.wrap ((kk : Int) + 1) = ((kk + 1 : Nat) : Int) := by rw [IntWalk.i64_in _ (by omega)]; omega
              have HXY := Lib.hid (And.intro hx hy)
              clear hx hy hbx hby hol hli hkk
              gi_wp2_with fail
              refine wpIn_wide.2 ?_
              go_still_tail 17, (by kernel_rfl)
              change wpList _ _ _ _ _ wo.drew
              have hN := HL2.out.drew.put kk (x + y)
              obtain ⟨wd, hwd⟩ : ∃ z, wo.drew = z := ⟨_, rfl⟩
              have c1' : wd.cell? ⟨g4, kk, none⟩ = some (.int .i64 x) := by rw [← hwd]; exact c1
              have z1' : wd.frozen? ⟨g4, kk, none⟩ = false := by rw [← hwd]; exact z1
              rw [hwd] at hN ⊢
              have HN := Lib.hid hN
              clear hwd c1 c2 z1 t0 t9 hN
              go_wp2_with fail
              gi_wp2_with fail
              gi_roundg (M - 1 - (k + 1))
              case measure => rw [HS2.out.2]; have := HKK.out; omega
              case rel =>
                refine ⟨k + 1, _, by rw [← HKK.out]; go_num, rfl, by have := HKK.out; omega, HN.out, ?_⟩
                have h := HS2.out.1.step (by have := HKK.out; omega)
                rw [HKK.out, HXY.out.1, HXY.out.2] at h
                exact h
            · have hke : kk = M := by omega
              have f1 : decide (kk < M) = false := decide_eq_false (by omega)
              have f2 : decide ((kk : Int) < (M : Int)) = false := decide_eq_false (by omega)
              have HSU : Hid (SumOk M (occs C) M s) := Lib.hid (by have h := HS2.out.1; rw [HKK.out, hke] at h; exact h)
              clear hke hkk
              have HNS4 := Lib.hid hli.ns
              obtain ⟨T, hT⟩ : ∃ T, (occs C).length = T := ⟨_, rfl⟩
              have hT1 : T ≤ 100000 := by
                have h3 := occs_len HH.out.2.1 C.length (Nat.le_refl _)
                have h4 := HH.out.2.2.2
                have h5 : (occs C).length ≤ C.length * 100 := h3
                omega
              have hTl : at_ s (M - 1) = (T : Int) := by
                rw [HSU.out.2.1 (M - 1) (by omega) (by omega), cntL_all (fun x hx => by have := (occs_key HH.out.2.2.1 x hx).1; have := HM.out; omega), hT]
              have HT := Lib.hid (And.intro hT hTl)
              have HS11 : Hid (∀ Wh : World, (∃ R, NS W1 [D] KK tb vs0 R Wh ∧ R 4 = ⟨(R3 4).a, (R3 4).c, s⟩) → (fun Wh : World => Wh.cell? ⟨tb, 0, none⟩ = some (.pointer (some ⟨KK.p, 0, none⟩)) ∧ Wh.cell? ⟨KK.p, 9, none⟩ = some (.slice (some ⟨g4, 0, none⟩) M (R3 4).c) ∧ Wh.cell? ⟨g4, M - 1, none⟩ = some (.int .i64 (T : Int))) Wh) := Lib.hid (fun Wh h => by
                obtain ⟨R, h, h4⟩ := h
                have h9 := h.pw.f9
                rw [h4] at h9
                simp only [Rw.val, HST.out.2.1, HL2.out.len] at h9
                have hr := h.pw.rows 4 (by omega)
                rw [h4] at hr
                simp only [HST.out.2.1] at hr
                have hc := irow_cell hr (i := M - 1) (by rw [HL2.out.len]; omega)
                rw [HT.out.2] at hc
                exact ⟨h.tb0, h9, hc⟩)
              have k5 : ∀ U : World, (Instr.makeSlice 34 (.int .i64 (T : Int)) (.int .i64 (T : Int))).run Tryz.prog U = .ok (.slice (some ⟨U.heap.size, 0, none⟩) T T) (U.alloc (.cells (madeCells #[.int .i64 0] T) 3)) := fun U => mk25 U T (by omega)
              have k6 : IntKind.i64.wrap ((M : Int) - 1) = (M : Int) - 1 := IntWalk.i64_in _ (by omega)
              have k7 : (0 : Int) ≤ (M : Int) - 1 := by omega
              have k7' : (1 : Int) ≤ (M : Int) := by omega
              have k8 : (M : Int) - 1 < (M : Int) := by omega
              have k9 : ((M : Int) - 1).toNat = M - 1 := by omega
              clear hli hT hTl
              gi_wp2_with fail
              refine wpIn_wide.2 ?_
              go_cut [] from 81 to 96 (fun wx => ∃ R, NS W1 [D] KK tb vs0 R wx ∧ (R 5).l = List.replicate T 0 ∧ (∀ j, j ≠ 5 → R j = upd R3 4 ⟨(R3 4).a, (R3 4).c, s⟩ j))
              case first =>
                refine wp_onlyN ?_
                have hdr : ∃ R, NS W1 [D] KK tb vs0 R wo.drew ∧ R 4 = ⟨(R3 4).a, (R3 4).c, s⟩ := ⟨_, HNS4.out.keep (grown_drew _ none), (by first | exact upd_same _ _ _ | (rw [upd_other (by decide)]; exact upd_same _ _ _))⟩
                refine wp_region_held_drew (S := (fun Wh : World => Wh.cell? ⟨tb, 0, none⟩ = some (.pointer (some ⟨KK.p, 0, none⟩)) ∧ Wh.cell? ⟨KK.p, 9, none⟩ = some (.slice (some ⟨g4, 0, none⟩) M (R3 4).c) ∧ Wh.cell? ⟨g4, M - 1, none⟩ = some (.int .i64 (T : Int)))) (by kernel_rfl) (HS11.out _ hdr) (fun hHeld => ?_)
                refine wpAnyH_take (i := 0) (oi := { dst := some 81, op := Op.load 114 (Operand.tmp 3), type := 114, pos := "propagator.go:103", after := #[], guard := none }) (v := ?_) rfl (by kernel_rfl) (by kernel_rfl) (by kernel_rfl) (fun _ _ _ h => h) (Or.inl ⟨by rfl, ?_⟩) (by assumption) ?_
                rotate_left 1
                · (intro W hSW; (try dsimp only at hSW); first | (go_simp; done) | (go_simp; with_reducible rfl))
                try simp only [Act.put, List.setIfInBounds_toArray, List.set_cons_zero, List.set_cons_succ]
                refine wpAnyH_take (i := 1) (oi := { dst := some 82, op := Op.load 114 (Operand.tmp 3), type := 114, pos := "propagator.go:103", after := #[], guard := none }) (v := ?_) rfl (by kernel_rfl) (by kernel_rfl) (by kernel_rfl) (fun _ _ _ h => h) (Or.inl ⟨by rfl, ?_⟩) (by assumption) ?_
                rotate_left 1
                · (intro W hSW; (try dsimp only at hSW); first | (go_simp; done) | (go_simp; with_reducible rfl))
                try simp only [Act.put, List.setIfInBounds_toArray, List.set_cons_zero, List.set_cons_succ]
                refine wpAnyH_take (i := 2) (oi := { dst := some 83, op := Op.nilCheck (Operand.tmp 82), type := 0, pos := "propagator.go:103", after := #[{ on := 1, ground := Ground.data }], guard := none }) (v := ?_) rfl (by kernel_rfl) (by kernel_rfl) (by kernel_rfl) (fun _ _ _ h => h) (Or.inl ⟨by rfl, ?_⟩) (by assumption) ?_
                rotate_left 1
                · (intro W hSW; (try dsimp only at hSW); first | (go_simp; done) | (go_simp; with_reducible rfl))
                try simp only [Act.put, List.setIfInBounds_toArray, List.set_cons_zero, List.set_cons_succ]
                refine wpAnyH_take (i := 3) (oi := { dst := some 84, op := Op.fieldAddr 113 (Operand.tmp 83) 8, type := 0, pos := "propagator.go:103", after := #[{ on := 2, ground := Ground.data }], guard := none }) (v := ?_) rfl (by kernel_rfl) (by kernel_rfl) (by kernel_rfl) (fun _ _ _ h => h) (Or.inl ⟨by rfl, ?_⟩) (by assumption) ?_
                rotate_left 1
                · (intro W hSW; (try dsimp only at hSW); first | (go_simp; done) | (go_simp; with_reducible rfl))
                try simp only [Act.put, List.setIfInBounds_toArray, List.set_cons_zero, List.set_cons_succ]
                refine wpAnyH_take (i := 4) (oi := { dst := some 85, op := Op.load 34 (Operand.tmp 84), type := 34, pos := "propagator.go:103", after := #[{ on := 3, ground := Ground.data }], guard := none }) (v := ?_) rfl (by kernel_rfl) (by kernel_rfl) (by kernel_rfl) (fun _ _ _ h => h) (Or.inl ⟨by rfl, ?_⟩) (by assumption) ?_
                rotate_left 1
                · (intro W hSW; (try dsimp only at hSW); first | (go_simp; done) | (go_simp; with_reducible rfl))
                try simp only [Act.put, List.setIfInBounds_toArray, List.set_cons_zero, List.set_cons_succ]
                refine wpAnyH_take (i := 5) (oi := { dst := some 86, op := Op.load 114 (Operand.tmp 3), type := 114, pos := "propagator.go:103", after := #[], guard := none }) (v := ?_) rfl (by kernel_rfl) (by kernel_rfl) (by kernel_rfl) (fun _ _ _ h => h) (Or.inl ⟨by rfl, ?_⟩) (by assumption) ?_
                rotate_left 1
                · (intro W hSW; (try dsimp only at hSW); first | (go_simp; done) | (go_simp; with_reducible rfl))
                try simp only [Act.put, List.setIfInBounds_toArray, List.set_cons_zero, List.set_cons_succ]
                refine wpAnyH_take (i := 6) (oi := { dst := some 87, op := Op.nilCheck (Operand.tmp 86), type := 0, pos := "propagator.go:103", after := #[{ on := 5, ground := Ground.data }], guard := none }) (v := ?_) rfl (by kernel_rfl) (by kernel_rfl) (by kernel_rfl) (fun _ _ _ h => h) (Or.inl ⟨by rfl, ?_⟩) (by assumption) ?_
                rotate_left 1
                · (intro W hSW; (try dsimp only at hSW); first | (go_simp; done) | (go_simp; with_reducible rfl))
                try simp only [Act.put, List.setIfInBounds_toArray, List.set_cons_zero, List.set_cons_succ]
                refine wpAnyH_take (i := 7) (oi := { dst := some 88, op := Op.fieldAddr 113 (Operand.tmp 87) 8, type := 0, pos := "propagator.go:103", after := #[{ on := 6, ground := Ground.data }], guard := none }) (v := ?_) rfl (by kernel_rfl) (by kernel_rfl) (by kernel_rfl) (fun _ _ _ h => h) (Or.inl ⟨by rfl, ?_⟩) (by assumption) ?_
                rotate_left 1
                · (intro W hSW; (try dsimp only at hSW); first | (go_simp; done) | (go_simp; with_reducible rfl))
                try simp only [Act.put, List.setIfInBounds_toArray, List.set_cons_zero, List.set_cons_succ]
                refine wpAnyH_take (i := 8) (oi := { dst := some 89, op := Op.load 34 (Operand.tmp 88), type := 34, pos := "propagator.go:103", after := #[{ on := 7, ground := Ground.data }], guard := none }) (v := ?_) rfl (by kernel_rfl) (by kernel_rfl) (by kernel_rfl) (fun _ _ _ h => h) (Or.inl ⟨by rfl, ?_⟩) (by assumption) ?_
                rotate_left 1
                · (intro W hSW; (try dsimp only at hSW); first | (go_simp; done) | (go_simp; with_reducible rfl))
                try simp only [Act.put, List.setIfInBounds_toArray, List.set_cons_zero, List.set_cons_succ]
                refine wpAnyH_take (i := 9) (oi := { dst := some 90, op := Op.call { callee := Callee.builtin Builtin.len, args := #[Operand.tmp 89], argTypes := #[34] }, type := 3, pos := "propagator.go:103", after := #[{ on := 8, ground := Ground.data }], guard := none }) (v := ?_) rfl (by kernel_rfl) (by kernel_rfl) (by kernel_rfl) (fun _ _ _ h => h) (Or.inl ⟨by rfl, ?_⟩) (by assumption) ?_
                rotate_left 1
                · (intro W hSW; (try dsimp only at hSW); first | (go_simp; done) | (go_simp; with_reducible rfl))
                try simp only [Act.put, List.setIfInBounds_toArray, List.set_cons_zero, List.set_cons_succ]
                refine wpAnyH_take (i := 10) (oi := { dst := some 91, op := Op.binOp BinOp.sub 3 (Operand.tmp 90) (Operand.const (Value.int IntKind.i64 1)) 3, type := 3, pos := "propagator.go:103", after := #[{ on := 9, ground := Ground.data }], guard := none }) (v := ?_) rfl (by kernel_rfl) (by kernel_rfl) (by kernel_rfl) (fun _ _ _ h => h) (Or.inl ⟨by rfl, ?_⟩) (by assumption) ?_
                rotate_left 1
                · (intro W hSW; (try dsimp only at hSW); first | (go_simp; done) | (go_simp; with_reducible rfl))
                try simp only [Act.put, List.setIfInBounds_toArray, List.set_cons_zero, List.set_cons_succ]
                refine wpAnyH_take (i := 11) (oi := { dst := some 92, op := Op.indexAddr 34 (Operand.tmp 85) (Operand.tmp 91), type := 0, pos := "propagator.go:103", after := #[{ on := 4, ground := Ground.data }, { on := 10, ground := Ground.data }], guard := none }) (v := ?_) rfl (by kernel_rfl) (by kernel_rfl) (by kernel_rfl) (fun _ _ _ h => h) (Or.inl ⟨by rfl, ?_⟩) (by assumption) ?_
                rotate_left 1
                · (intro W hSW; (try dsimp only at hSW); first | (go_simp; done) | (go_simp; with_reducible rfl))
                try simp only [Act.put, List.setIfInBounds_toArray, List.set_cons_zero, List.set_cons_succ]
                refine wpAnyH_take (i := 12) (oi := { dst := some 93, op := Op.load 3 (Operand.tmp 92), type := 3, pos := "propagator.go:103", after := #[{ on := 11, ground := Ground.data }], guard := none }) (v := ?_) rfl (by kernel_rfl) (by kernel_rfl) (by kernel_rfl) (fun _ _ _ h => h) (Or.inl ⟨by rfl, ?_⟩) (by assumption) ?_
                rotate_left 1
                · (intro W hSW; (try dsimp only at hSW); first | (go_simp; done) | (go_simp; with_reducible rfl))
                try simp only [Act.put, List.setIfInBounds_toArray, List.set_cons_zero, List.set_cons_succ]
                refine wpAnyH_ready (rs := [13]) (by kernel_rfl) (by simp) ?_
                refine (AllReadyH.cons (o := { dst := some 94, op := Op.makeSlice 34 (Operand.tmp 93) (Operand.tmp 93), type := 34, pos := "propagator.go:103", after := #[{ on := 12, ground := Ground.data }, { on := 12, ground := Ground.data }], guard := none }) rfl (fun K hK => ?_) AllReadyH.nil)
                rw [if_pos (by rfl)]
                go_simp
                have hNa := (HNS4.out.keep (World.grownBy_alloc wo (.cells (madeCells #[.int .i64 0] T) 3) none)).keep (grown_drew _ none)
                have hFa := (FR.new HNS4.out T).keep (grown_drew _ none)
                have hLa : wo.heap.size < ((World.alloc wo (.cells (madeCells #[.int .i64 0] T) 3)).drew).heap.size := hFa.lt
                obtain ⟨Wa, hWa⟩ : ∃ z, (World.alloc wo (.cells (madeCells #[.int .i64 0] T) 3)).drew = z := ⟨_, rfl⟩
                obtain ⟨ga, hga⟩ : ∃ z, wo.heap.size = z := ⟨_, rfl⟩
                rw [hWa] at hNa hFa ⊢
                rw [hga] at hFa ⊢
                clear hWa hga hLa
                refine hK.out _ _ (HS11.out _ ⟨_, hNa, (by first | exact upd_same _ _ _ | (rw [upd_other (by decide)]; exact upd_same _ _ _))⟩) (fun hHeld => ?_)
                clear hK K
                try simp only [Act.put, List.setIfInBounds_toArray, List.set_cons_zero, List.set_cons_succ]
                refine wpAnyH_take (i := 14) (oi := { dst := some 95, op := Op.nilCheck (Operand.tmp 81), type := 0, pos := "propagator.go:103", after := #[{ on := 0, ground := Ground.data }, { on := 0, ground := Ground.phase }, { on := 1, ground := Ground.phase }, { on := 2, ground := Ground.phase }, { on := 3, ground := Ground.phase }, { on := 4, ground := Ground.phase }, { on := 5, ground := Ground.phase }, { on := 6, ground := Ground.phase }, { on := 7, ground := Ground.phase }, { on := 8, ground := Ground.phase }, { on := 9, ground := Ground.phase }, { on := 10, ground := Ground.phase }, { on := 11, ground := Ground.phase }, { on := 12, ground := Ground.phase }, { on := 13, ground := Ground.phase }], guard := none }) (v := ?_) rfl (by kernel_rfl) (by kernel_rfl) (by kernel_rfl) (fun _ _ _ h => h) (Or.inl ⟨by rfl, ?_⟩) (by assumption) ?_
                rotate_left 1
                · (intro W hSW; (try dsimp only at hSW); first | (go_simp; done) | (go_simp; with_reducible rfl))
                try simp only [Act.put, List.setIfInBounds_toArray, List.set_cons_zero, List.set_cons_succ]
                refine wpAnyH_take (i := 15) (oi := { dst := some 96, op := Op.fieldAddr 113 (Operand.tmp 95) 9, type := 0, pos := "propagator.go:103", after := #[{ on := 14, ground := Ground.data }, { on := 0, ground := Ground.phase }, { on := 1, ground := Ground.phase }, { on := 2, ground := Ground.phase }, { on := 3, ground := Ground.phase }, { on := 4, ground := Ground.phase }, { on := 5, ground := Ground.phase }, { on := 6, ground := Ground.phase }, { on := 7, ground := Ground.phase }, { on := 8, ground := Ground.phase }, { on := 9, ground := Ground.phase }, { on := 10, ground := Ground.phase }, { on := 11, ground := Ground.phase }, { on := 12, ground := Ground.phase }, { on := 13, ground := Ground.phase }], guard := none }) (v := ?_) rfl (by kernel_rfl) (by kernel_rfl) (by kernel_rfl) (fun _ _ _ h => h) (Or.inl ⟨by rfl, ?_⟩) (by assumption) ?_
                rotate_left 1
                · (intro W hSW; (try dsimp only at hSW); first | (go_simp; done) | (go_simp; with_reducible rfl))
                try simp only [Act.put, List.setIfInBounds_toArray, List.set_cons_zero, List.set_cons_succ]
                refine wpAnyH_ready (rs := [16]) (by kernel_rfl) (by simp) ?_
                refine (AllReadyH.cons (o := { dst := none, op := Op.store 34 (Operand.tmp 96) (Operand.tmp 94), type := 0, pos := "propagator.go:103", after := #[{ on := 15, ground := Ground.data }, { on := 13, ground := Ground.data }, { on := 0, ground := Ground.phase }, { on := 1, ground := Ground.phase }, { on := 2, ground := Ground.phase }, { on := 3, ground := Ground.phase }, { on := 4, ground := Ground.phase }, { on := 5, ground := Ground.phase }, { on := 6, ground := Ground.phase }, { on := 7, ground := Ground.phase }, { on := 8, ground := Ground.phase }, { on := 9, ground := Ground.phase }, { on := 10, ground := Ground.phase }, { on := 11, ground := Ground.phase }, { on := 12, ground := Ground.phase }, { on := 13, ground := Ground.phase }], guard := none }) rfl (fun K hK => ?_) AllReadyH.nil)
                rw [if_pos (by rfl)]
                have hca := hNa.pw.f10
                have hza := hNa.pw.fr 10
                go_simp
                clear hca hza
                have hPa := hNa.put hFa (i := 5) (by omega) (by first | (rw [upd_other (by decide), HR3.out.2 5 (by decide), HR2.out.2.2 5 (by decide) (by decide)]; rfl) | rfl | (simp [Rw.blk, Value.ownBlock]; done) | (rw [HR2.out.2.2 4 (by decide) (by decide)]; rfl)) (by omega)
                change NS W1 [D] KK tb _ _ (Wa.setCell ⟨KK.p, 10, none⟩ (.slice (some ⟨ga, 0, none⟩) T T)) at hPa
                obtain ⟨Xa, hXa⟩ : ∃ z, Wa.setCell ⟨KK.p, 10, none⟩ (.slice (some ⟨ga, 0, none⟩) T T) = z := ⟨_, rfl⟩
                rw [hXa] at hPa ⊢
                clear hXa
                refine hK.out _ _ (HS11.out _ ⟨_, hPa, (by first | exact upd_same _ _ _ | (rw [upd_other (by decide)]; exact upd_same _ _ _))⟩) (fun hHeld => ?_)
                clear hK K
                try simp only [Act.put, List.setIfInBounds_toArray, List.set_cons_zero, List.set_cons_succ]
                refine wpAnyH_done (by kernel_rfl) ?_ _
                clear hHeld
                simp only [onlyN]
                go_wp2_with fail
                go_meet
                exact ⟨_, hPa, by rw [upd_same], fun j h5 => by rw [upd_other h5]⟩
              case rest =>
                obtain ⟨R5, hns, hr5, hro⟩ := hcut
                have HN5 := Lib.hid hns
                have HR5 := Lib.hid (And.intro hr5 hro)
                have HROW4 : Hid (IntsW wc (some ⟨g4, 0, none⟩) (R3 4).c s ∧ s.length = M) := Lib.hid (by
                  have hr := hns.pw.rows 4 (by omega)
                  rw [hro 4 (by decide), upd_same] at hr
                  simp only [HST.out.2.1] at hr
                  obtain ⟨_, _, e, hsp⟩ := ints_span hr
                  injection e with e1 e2 e3
                  subst e1 e3
                  exact ⟨hsp.here.weak, HL2.out.len⟩)
                have t0 := hns.tb0
                have t9 := hns.pw.f9
                rw [hro 4 (by decide), upd_same] at t9
                simp only [Rw.val, HST.out.2.1, HL2.out.len] at t9
                clear hns hr5 hro k5 k6 k7 k7' k8 k9
                have HCL : Hid (Calls Tryz.prog 122 #[.slice (some ⟨g4, 0, none⟩) M (R3 4).c] wc fun e w' => ∃ v', e = .returned v' ∧ w'.ownsRow wc.heap.size 3 1 v' M (intCells s) ∧ wc.grownBy w' none) := Lib.hid (by
                  have h := cloneOwn_calls s (some ⟨g4, 0, none⟩) (R3 4).c wc HROW4.out.1 (by rw [HROW4.out.2]; omega)
                  rwa [HROW4.out.2] at h)
                gi_wp2_with fail
                refine ⟨trivial, (callsIn_wide.2 HCL.out).mono ?_⟩
                rintro e w5 ⟨v', rfl, hown, hg5⟩
                obtain ⟨va, vc, rfl⟩ := own_shape hown
                obtain ⟨gn, rfl, hgn1, hgn2, _⟩ := irow_head (B := wc.heap.size) (l := s) (c := vc) (by unfold IRow; rw [HROW4.out.2]; exact hown) (by rw [HROW4.out.2]; omega)
                have HW5 := Lib.hid (And.intro hown (And.intro hg5 (And.intro hgn1 hgn2)))
                clear hown hg5 hgn1 hgn2 t0 t9
                have ga := World.grownBy_alloc w5 (.cells #[.slice (some ⟨gn, 0, none⟩) M vc] 34) none
                have bx := one_cell w5 (.slice (some ⟨gn, 0, none⟩) M vc) 34
                obtain ⟨W6, hW6⟩ : ∃ z, w5.alloc (.cells #[.slice (some ⟨gn, 0, none⟩) M vc] 34) = z := ⟨_, rfl⟩
                obtain ⟨tn, htn⟩ : ∃ z, w5.heap.size = z := ⟨_, rfl⟩
                rw [hW6] at ga bx
                rw [htn] at bx
                have HN6 := Lib.hid ((HN5.out.keep HW5.out.2.1).keep ga)
                have HNX : Hid (NX W1 KK tb R5 gn tn M vc s W6 ∧ gn < W6.heap.size ∧ tn < W6.heap.size) := Lib.hid (by
                  have hz5 := HW5.out.2.1.size
                  have hw1 := HN5.out.grown.size
                  have htbl := lies_lt HN5.out.tb0
                  simp only at htbl
                  have hg1 := HW5.out.2.2.1
                  have hg2 := HW5.out.2.2.2
                  refine ⟨⟨?_, HROW4.out.2, bx.2.1, fun hh => ?_, fun hh => ?_, ⟨by omega, by omega, by omega⟩, by omega⟩, Nat.lt_of_lt_of_le hg2 ga.size, bx.1⟩
                  · have hk := own_grown HW5.out.1 ga
                    refine ⟨hk.1, ?_⟩
                    rcases hk.2 with h | ⟨g, cap, cur, h1, h2, h3⟩
                    · exact .inl h
                    · exact .inr ⟨g, cap, cur, h1, by omega, h3⟩
                  · have := (HN5.out.pw.below _ hh).2.1; omega
                  · have := (HN5.out.pw.below _ hh).2.1; omega)
                have t0 := HN6.out.tb0
                have hx0 : w5.cell? ⟨tb, 0, none⟩ = some (.pointer (some ⟨KK.p, 0, none⟩)) := (HN5.out.keep HW5.out.2.1).tb0
                clear ga
                gi_wp2_with fail
                clear hW6 htn t0 hx0 bx
                have HOC2 : Hid (∀ W, W6.grownBy W none → GivesG ocV Fence.wide Tryz.prog 120 #[.pointer (some ⟨KK.p, 0, none⟩)] #[] (fun b => b < w.heap.size) (occs C) W) := Lib.hid (fun W hW => by
                  have hN := HN6.out.keep hW
                  exact occ_gives V C KK.p ca cc w.heap.size w W rfl (Nat.le_trans HB.out hN.grown.size) (fun b hb => (hN.grown.block b (Nat.lt_of_lt_of_le hb HB.out) (by simp)).trans (HG.out.block b hb (by simp))) HH.out.1 (by have h := hN.pw.f0; rw [HK.out.1] at h; exact h) (by have h := hN.pw.f1; rw [HK.out.2.1, HK.out.2.2.1, HK.out.2.2.2] at h; rw [HH.out.2.2.2]; exact h) (by omega) (by rw [HH.out.2.2.2]; exact hC) (fun c h => Nat.le_trans (HH.out.2.1 c h) (by omega)) HH.out.2.2.1)
                have h3l : (R5 3).l = List.replicate n 0 := by rw [HR5.out.2 3 (by decide), upd_other (by decide), HR3.out.2 3 (by decide)]; exact HR2.out.2.1
                have hlj : LJ W1 [D] KK tb vs0 R5 gn tn M vc W6.heap.size (List.replicate T 0) (List.replicate n 0) s W6 := ⟨by rw [fillR_self R5 HR5.out.1 h3l]; exact HN6.out, HNX.out.1, by rw [HR5.out.1], by rw [h3l], fun k hk => (HN6.out.pw.below k hk).2.1, lies_lt HN6.out.tb0, HNX.out.2, HN6.out.grown.size, fun D' h' => (Array.getElem?_eq_some_iff.1 (HN6.out.ds D' h')).1, Nat.le_refl _⟩
                have HLJ := Lib.hid (And.intro hlj h3l)
                clear hlj h3l
                refine rangeYesG (n := 3) (vals := ocV) (gf := 120) (la := #[.pointer (some ⟨KK.p, 0, none⟩)]) (lb := #[]) rfl rfl rfl trivial (enters_of Tryz.func120 (by kernel_rfl) rfl) (fun _ => rfl) (caps := fun b => b < w.heap.size) (xs := occs C) (fun W hW => HOC2.out W hW)
                  (fun pre W => ∃ cl o nx, LJ W1 [D] KK tb vs0 R5 gn tn M vc W6.heap.size cl o nx W ∧ FillOk M (occs C) pre nx cl ∧ OpnOk n pre o) (SafeN w.heap.size W6.heap.size) LJ.abide ?hcap ⟨_, _, _, HLJ.out.1, by have h := FillOk.start HSU.out; rwa [HT.out.1] at h, OpnOk.start n⟩ ?round ?done
                case hcap =>
                  intro b hb
                  exact ⟨by have := HB.out; have := HN6.out.grown.size; omega, .inl hb⟩
                case round =>
                  intro l' pre x W hF hpre
                  have hx := occs_key HH.out.2.2.1 x (hpre.subset (by simp))
                  have HX := Lib.hid (And.intro hx hpre)
                  clear hF hpre hx
                  simp only [ocV]
                  gi_wp2
                  refine ⟨trivial, fun W2 hF2 => ?_⟩
                  obtain ⟨cl, o, nx, hlj, hfill, hopn⟩ := hF2
                  have HLJ2 := Lib.hid hlj
                  have HFO := Lib.hid (And.intro hfill hopn)
                  clear hlj hfill hopn
                  obtain ⟨kx, hkx⟩ : ∃ z, key x = z := ⟨_, rfl⟩
                  have HKX := Lib.hid hkx
                  have HIX : Hid (∀ U, Calls Tryz.prog 121 #[.int .i64 x.1] U fun e w' => e = .returned (.int .i64 (kx : Int)) ∧ w' = U) := Lib.hid (by rw [← hkx]; exact ix_calls' V x.1 HX.out.1.2.2 (by omega))
                  have HIXL : Hid (kx + 1 < M) := Lib.hid (by have h1 := HX.out.1.1; rw [hkx] at h1; have := HM.out; omega)
                  have HSTEP := Lib.hid (HFO.out.1.step (x := x) (by rw [hkx]; exact HIXL.out) HX.out.2)
                  rw [hkx] at HSTEP
                  obtain ⟨id0, hid0⟩ : ∃ z, cntL kx (occs C) + cntE kx pre = z := ⟨_, rfl⟩
                  rw [hid0] at HSTEP
                  have hnx : at_ nx kx = (id0 : Int) := by rw [HFO.out.1.nx kx (by have := HIXL.out; omega), hid0]
                  rw [hnx] at HSTEP
                  have hidT : id0 < T := by have h := HSTEP.out.1; rw [HT.out.1] at h; exact h
                  have HNXV := Lib.hid hnx
                  obtain ⟨ci, hci⟩ : ∃ z, x.2 = z := ⟨_, rfl⟩
                  have hcin : ci < n := by have h := HX.out.1.2.1; rw [hci, HH.out.2.2.2] at h; exact h
                  have HCI := Lib.hid hci
                  obtain ⟨g5, ha5, _, _, _⟩ := HN5.out.pw.row (i := 5) (by omega) (n := T) (by rw [HR5.out.1]; simp) (by omega)
                  obtain ⟨g3, ha3, _, _, _⟩ := HN5.out.pw.row (i := 3) (by omega) (n := n) (by rw [HLJ.out.2]; simp) (by omega)
                  have HA := Lib.hid (And.intro ha5 ha3)
                  have hbl5 := HLJ2.out.blow (i := 5) (by omega) ha5
                  have hbl3 := HLJ2.out.blow (i := 3) (by omega) ha3
                  have HBL := Lib.hid (And.intro hbl5 hbl3)
                  have hclT : cl.length = T := by rw [HLJ2.out.clen, HR5.out.1]; simp
                  have hon : o.length = n := by rw [HLJ2.out.olen, HLJ.out.2]; simp
                  have HLN := Lib.hid (And.intro hclT hon)
                  obtain ⟨v3, hv3⟩ : ∃ z, at_ o ci = z := ⟨_, rfl⟩
                  have HV3 := Lib.hid hv3
                  have hb3 : 0 ≤ v3 ∧ v3 ≤ 100000 := by
                    rw [← hv3, HFO.out.2.2 ci hcin]
                    have h1 : cntC ci pre ≤ pre.length := List.countP_le_length
                    have h2 := HX.out.2.length_le
                    simp only [List.length_append, List.length_singleton] at h2
                    have := HT.out.1
                    omega
                  have k2 : IntKind.i64.wrap ((id0 : Int) + 1) = (id0 : Int) + 1 := IntWalk.i64_in _ (by omega)
                  have k3 : (kx : Int) < (M : Int) := by have := HIXL.out; omega
                  have k4 : (id0 : Int) < (T : Int) := by omega
                  have k5 : IntKind.i64.wrap (v3 + 1) = v3 + 1 := IntWalk.i64_in _ (by omega)
                  have k6 : (ci : Int) < (n : Int) := by omega
                  rw [hci]
                  clear hkx hid0 hnx hci ha5 ha3 hbl5 hbl3 hclT hon hv3 hb3
                  have HS16 : Hid (∀ Wh : World, (∃ cl, cl.length = T ∧ LJ W1 [D] KK tb vs0 R5 gn tn M vc W6.heap.size cl o nx Wh) → (fun Wh : World => Wh.cell? ⟨tb, 0, none⟩ = some (.pointer (some ⟨KK.p, 0, none⟩)) ∧ Wh.cell? ⟨KK.p, 10, none⟩ = some (.slice (some ⟨g5, 0, none⟩) T (R5 5).c) ∧ Wh.cell? ⟨tn, 0, none⟩ = some (.slice (some ⟨gn, 0, none⟩) M vc) ∧ Wh.cell? ⟨gn, kx, none⟩ = some (.int .i64 (id0 : Int))) Wh) := Lib.hid (fun Wh h => by
                    obtain ⟨cl, hT, h⟩ := h
                    exact ⟨h.ns.tb0, h.f10 HA.out.1 hT, h.nx.box, (h.celN (by have := HIXL.out; omega)).trans (by rw [HNXV.out])⟩)
                  have HS17 : Hid (∀ Wh : World, (∃ nx cl o, LJ W1 [D] KK tb vs0 R5 gn tn M vc W6.heap.size cl o nx Wh) → (fun Wh : World => Wh.cell? ⟨tn, 0, none⟩ = some (.slice (some ⟨gn, 0, none⟩) M vc)) Wh) := Lib.hid (fun Wh h => by
                    obtain ⟨nx, cl, o, h⟩ := h
                    exact h.nx.box)
                  gi_wp2_with fail
                  have hdr : ∃ cl, cl.length = T ∧ LJ W1 [D] KK tb vs0 R5 gn tn M vc W6.heap.size cl o nx W2.drew := ⟨_, HLN.out.1, HLJ2.out.drew⟩
                  refine wpIn_region_held_round (S := (fun Wh : World => Wh.cell? ⟨tb, 0, none⟩ = some (.pointer (some ⟨KK.p, 0, none⟩)) ∧ Wh.cell? ⟨KK.p, 10, none⟩ = some (.slice (some ⟨g5, 0, none⟩) T (R5 5).c) ∧ Wh.cell? ⟨tn, 0, none⟩ = some (.slice (some ⟨gn, 0, none⟩) M vc) ∧ Wh.cell? ⟨gn, kx, none⟩ = some (.int .i64 (id0 : Int)))) (by kernel_rfl) (by kernel_rfl) (by rintro ⟨_, _, h⟩; exact h) (HS16.out _ hdr) (fun hHeld => ?_)
                  refine wpAnyH_take (i := 0) (oi := { dst := some 106, op := Op.load 114 (Operand.tmp 3), type := 114, pos := "propagator.go:106", after := #[], guard := none }) (v := ?_) rfl (by kernel_rfl) (by kernel_rfl) (by kernel_rfl) (fun _ _ _ h => h) (Or.inl ⟨by rfl, ?_⟩) (by assumption) ?_
                  rotate_left 1
                  · (intro W hSW; (try dsimp only at hSW); first | (go_simp; done) | (go_simp; with_reducible rfl))
                  try simp only [Act.put, List.setIfInBounds_toArray, List.set_cons_zero, List.set_cons_succ]
                  refine wpAnyH_take (i := 1) (oi := { dst := some 107, op := Op.nilCheck (Operand.tmp 106), type := 0, pos := "propagator.go:106", after := #[{ on := 0, ground := Ground.data }], guard := none }) (v := ?_) rfl (by kernel_rfl) (by kernel_rfl) (by kernel_rfl) (fun _ _ _ h => h) (Or.inl ⟨by rfl, ?_⟩) (by assumption) ?_
                  rotate_left 1
                  · (intro W hSW; (try dsimp only at hSW); first | (go_simp; done) | (go_simp; with_reducible rfl))
                  try simp only [Act.put, List.setIfInBounds_toArray, List.set_cons_zero, List.set_cons_succ]
                  refine wpAnyH_take (i := 2) (oi := { dst := some 108, op := Op.fieldAddr 113 (Operand.tmp 107) 9, type := 0, pos := "propagator.go:106", after := #[{ on := 1, ground := Ground.data }], guard := none }) (v := ?_) rfl (by kernel_rfl) (by kernel_rfl) (by kernel_rfl) (fun _ _ _ h => h) (Or.inl ⟨by rfl, ?_⟩) (by assumption) ?_
                  rotate_left 1
                  · (intro W hSW; (try dsimp only at hSW); first | (go_simp; done) | (go_simp; with_reducible rfl))
                  try simp only [Act.put, List.setIfInBounds_toArray, List.set_cons_zero, List.set_cons_succ]
                  refine wpAnyH_take (i := 3) (oi := { dst := some 109, op := Op.load 34 (Operand.tmp 108), type := 34, pos := "propagator.go:106", after := #[{ on := 2, ground := Ground.data }], guard := none }) (v := ?_) rfl (by kernel_rfl) (by kernel_rfl) (by kernel_rfl) (fun _ _ _ h => h) (Or.inl ⟨by rfl, ?_⟩) (by assumption) ?_
                  rotate_left 1
                  · (intro W hSW; (try dsimp only at hSW); first | (go_simp; done) | (go_simp; with_reducible rfl))
                  try simp only [Act.put, List.setIfInBounds_toArray, List.set_cons_zero, List.set_cons_succ]
                  refine wpAnyH_take (i := 4) (oi := { dst := some 110, op := Op.load 34 (Operand.tmp 6), type := 34, pos := "propagator.go:106", after := #[], guard := none }) (v := ?_) rfl (by kernel_rfl) (by kernel_rfl) (by kernel_rfl) (fun _ _ _ h => h) (Or.inl ⟨by rfl, ?_⟩) (by assumption) ?_
                  rotate_left 1
                  · (intro W hSW; (try dsimp only at hSW); first | (go_simp; done) | (go_simp; with_reducible rfl))
                  try simp only [Act.put, List.setIfInBounds_toArray, List.set_cons_zero, List.set_cons_succ]
                  refine wpAnyH_take (i := 5) (oi := { dst := some 111, op := Op.move (Operand.tmp 7), type := 3, pos := "propagator.go:106", after := #[], guard := none }) (v := ?_) rfl (by kernel_rfl) (by kernel_rfl) (by kernel_rfl) (fun _ _ _ h => h) (Or.inl ⟨by rfl, ?_⟩) (by assumption) ?_
                  rotate_left 1
                  · (intro W hSW; (try dsimp only at hSW); first | (go_simp; done) | (go_simp; with_reducible rfl))
                  try simp only [Act.put, List.setIfInBounds_toArray, List.set_cons_zero, List.set_cons_succ]
                  refine wpAnyH_take (i := 9) (oi := { dst := some 115, op := Op.move (Operand.tmp 8), type := 3, pos := "propagator.go:106", after := #[], guard := none }) (v := ?_) rfl (by kernel_rfl) (by kernel_rfl) (by kernel_rfl) (fun _ _ _ h => h) (Or.inl ⟨by rfl, ?_⟩) (by assumption) ?_
                  rotate_left 1
                  · (intro W hSW; (try dsimp only at hSW); first | (go_simp; done) | (go_simp; with_reducible rfl))
                  try simp only [Act.put, List.setIfInBounds_toArray, List.set_cons_zero, List.set_cons_succ]
                  refine wpAnyH_ready (rs := [6]) (by kernel_rfl) (by simp) ?_
                  refine (AllReadyH.cons (o := { dst := some 112, op := Op.call { callee := Callee.value (Operand.func 121), args := #[Operand.tmp 111], argTypes := #[3] }, type := 3, pos := "propagator.go:106", after := #[{ on := 5, ground := Ground.data }], guard := none }) rfl (fun K hK => ?_) AllReadyH.nil)
                  rw [if_pos (by rfl)]
                  go_simp
                  go_at_call 121
                  refine (HIX.out _).mono ?_
                  rintro e w9 ⟨rfl, hw9⟩
                  rw [hw9]
                  clear hw9 w9
                  go_wp2_with fail
                  refine hK.out _ _ (HS16.out _ hdr) (fun hHeld => ?_)
                  clear hK K
                  try simp only [Act.put, List.setIfInBounds_toArray, List.set_cons_zero, List.set_cons_succ]
                  refine wpAnyH_take (i := 7) (oi := { dst := some 113, op := Op.indexAddr 34 (Operand.tmp 110) (Operand.tmp 112), type := 0, pos := "propagator.go:106", after := #[{ on := 4, ground := Ground.data }, { on := 6, ground := Ground.data }], guard := none }) (v := ?_) rfl (by kernel_rfl) (by kernel_rfl) (by kernel_rfl) (fun _ _ _ h => h) (Or.inl ⟨by rfl, ?_⟩) (by assumption) ?_
                  rotate_left 1
                  · (intro W hSW; (try dsimp only at hSW); first | (go_simp; done) | (go_simp; with_reducible rfl))
                  try simp only [Act.put, List.setIfInBounds_toArray, List.set_cons_zero, List.set_cons_succ]
                  refine wpAnyH_take (i := 8) (oi := { dst := some 114, op := Op.load 3 (Operand.tmp 113), type := 3, pos := "propagator.go:106", after := #[{ on := 7, ground := Ground.data }], guard := none }) (v := ?_) rfl (by kernel_rfl) (by kernel_rfl) (by kernel_rfl) (fun _ _ _ h => h) (Or.inl ⟨by rfl, ?_⟩) (by assumption) ?_
                  rotate_left 1
                  · (intro W hSW; (try dsimp only at hSW); first | (go_simp; done) | (go_simp; with_reducible rfl))
                  try simp only [Act.put, List.setIfInBounds_toArray, List.set_cons_zero, List.set_cons_succ]
                  refine wpAnyH_take (i := 10) (oi := { dst := some 116, op := Op.indexAddr 34 (Operand.tmp 109) (Operand.tmp 114), type := 0, pos := "propagator.go:106", after := #[{ on := 3, ground := Ground.data }, { on := 8, ground := Ground.data }, { on := 0, ground := Ground.phase }, { on := 1, ground := Ground.phase }, { on := 2, ground := Ground.phase }, { on := 3, ground := Ground.phase }, { on := 4, ground := Ground.phase }, { on := 5, ground := Ground.phase }, { on := 6, ground := Ground.phase }, { on := 7, ground := Ground.phase }, { on := 8, ground := Ground.phase }, { on := 9, ground := Ground.phase }], guard := none }) (v := ?_) rfl (by kernel_rfl) (by kernel_rfl) (by kernel_rfl) (fun _ _ _ h => h) (Or.inl ⟨by rfl, ?_⟩) (by assumption) ?_
                  rotate_left 1
                  · (intro W hSW; (try dsimp only at hSW); first | (go_simp; done) | (go_simp; with_reducible rfl))
                  try simp only [Act.put, List.setIfInBounds_toArray, List.set_cons_zero, List.set_cons_succ]
                  refine wpAnyH_ready (rs := [11]) (by kernel_rfl) (by simp) ?_
                  refine (AllReadyH.cons (o := { dst := none, op := Op.store 3 (Operand.tmp 116) (Operand.tmp 115), type := 0, pos := "propagator.go:106", after := #[{ on := 10, ground := Ground.data }, { on := 9, ground := Ground.data }, { on := 6, ground := Ground.chain }, { on := 0, ground := Ground.phase }, { on := 1, ground := Ground.phase }, { on := 2, ground := Ground.phase }, { on := 3, ground := Ground.phase }, { on := 4, ground := Ground.phase }, { on := 5, ground := Ground.phase }, { on := 6, ground := Ground.phase }, { on := 7, ground := Ground.phase }, { on := 8, ground := Ground.phase }, { on := 9, ground := Ground.phase }], guard := none }) rfl (fun K hK => ?_) AllReadyH.nil)
                  rw [if_pos (by rfl)]
                  have hc := irow_cell (HLJ2.out.row5 HA.out.1) (i := id0) (by rw [HLN.out.1]; omega)
                  have hz := World.ownsRow.frozenAt (HLJ2.out.row5 HA.out.1) id0
                  go_simp
                  clear hc hz
                  have hS := HLJ2.out.drew.putC HA.out.1 id0 (ci : Int)
                  have hsv : Saved (SafeN w.heap.size W6.heap.size) W2 ((W2.setCell ⟨g5, id0, none⟩ (.int .i64 (ci : Int))).drew) := saved_set (Nat.le_trans HB.out HBL.out.1.1) HBL.out.1.2.1 W2 id0 (.int .i64 (ci : Int))
                  change LJ W1 [D] KK tb vs0 R5 gn tn M vc W6.heap.size _ _ _ ((W2.setCell ⟨g5, id0, none⟩ (.int .i64 (ci : Int))).drew) at hS
                  obtain ⟨WX, hWX⟩ : ∃ z, (W2.setCell ⟨g5, id0, none⟩ (.int .i64 (ci : Int))).drew = z := ⟨_, rfl⟩
                  rw [hWX] at hS hsv ⊢
                  clear hWX
                  refine hK.out _ _ (HS16.out _ ⟨_, (by rw [List.length_set]; exact HLN.out.1), hS⟩) (fun hHeld => ?_)
                  clear hK K
                  try simp only [Act.put, List.setIfInBounds_toArray, List.set_cons_zero, List.set_cons_succ]
                  refine wpAnyH_done (by kernel_rfl) ?_ _
                  clear hHeld
                  have HLX := Lib.hid (And.intro hS hsv)
                  clear hS hsv hdr
                  gi_wp2_with fail
                  have hdr : ∃ nx cl o, LJ W1 [D] KK tb vs0 R5 gn tn M vc W6.heap.size cl o nx WX.drew := ⟨_, _, _, HLX.out.1.drew⟩
                  refine wpIn_region_held_round (S := (fun Wh : World => Wh.cell? ⟨tn, 0, none⟩ = some (.slice (some ⟨gn, 0, none⟩) M vc))) (by kernel_rfl) (by kernel_rfl) (by rintro ⟨_, _, h⟩; exact h) (HS17.out _ hdr) (fun hHeld => ?_)
                  refine wpAnyH_take (i := 0) (oi := { dst := some 117, op := Op.load 34 (Operand.tmp 6), type := 34, pos := "propagator.go:107", after := #[], guard := none }) (v := ?_) rfl (by kernel_rfl) (by kernel_rfl) (by kernel_rfl) (fun _ _ _ h => h) (Or.inl ⟨by rfl, ?_⟩) (by assumption) ?_
                  rotate_left 1
                  · (intro W hSW; (try dsimp only at hSW); first | (go_simp; done) | (go_simp; with_reducible rfl))
                  try simp only [Act.put, List.setIfInBounds_toArray, List.set_cons_zero, List.set_cons_succ]
                  refine wpAnyH_take (i := 1) (oi := { dst := some 118, op := Op.move (Operand.tmp 7), type := 3, pos := "propagator.go:107", after := #[], guard := none }) (v := ?_) rfl (by kernel_rfl) (by kernel_rfl) (by kernel_rfl) (fun _ _ _ h => h) (Or.inl ⟨by rfl, ?_⟩) (by assumption) ?_
                  rotate_left 1
                  · (intro W hSW; (try dsimp only at hSW); first | (go_simp; done) | (go_simp; with_reducible rfl))
                  try simp only [Act.put, List.setIfInBounds_toArray, List.set_cons_zero, List.set_cons_succ]
                  refine wpAnyH_ready (rs := [2]) (by kernel_rfl) (by simp) ?_
                  refine (AllReadyH.cons (o := { dst := some 119, op := Op.call { callee := Callee.value (Operand.func 121), args := #[Operand.tmp 118], argTypes := #[3] }, type := 3, pos := "propagator.go:107", after := #[{ on := 1, ground := Ground.data }], guard := none }) rfl (fun K hK => ?_) AllReadyH.nil)
                  rw [if_pos (by rfl)]
                  go_simp
                  go_at_call 121
                  refine (HIX.out _).mono ?_
                  rintro e w9 ⟨rfl, hw9⟩
                  rw [hw9]
                  clear hw9 w9
                  go_wp2_with fail
                  refine hK.out _ _ (HS17.out _ hdr) (fun hHeld => ?_)
                  clear hK K
                  try simp only [Act.put, List.setIfInBounds_toArray, List.set_cons_zero, List.set_cons_succ]
                  refine wpAnyH_take (i := 3) (oi := { dst := some 120, op := Op.indexAddr 34 (Operand.tmp 117) (Operand.tmp 119), type := 0, pos := "propagator.go:107", after := #[{ on := 0, ground := Ground.data }, { on := 2, ground := Ground.data }], guard := none }) (v := ?_) rfl (by kernel_rfl) (by kernel_rfl) (by kernel_rfl) (fun _ _ _ h => h) (Or.inl ⟨by rfl, ?_⟩) (by assumption) ?_
                  rotate_left 1
                  · (intro W hSW; (try dsimp only at hSW); first | (go_simp; done) | (go_simp; with_reducible rfl))
                  try simp only [Act.put, List.setIfInBounds_toArray, List.set_cons_zero, List.set_cons_succ]
                  refine wpAnyH_ready (rs := [4]) (by kernel_rfl) (by simp) ?_
                  refine (AllReadyH.cons (o := { dst := some 121, op := Op.load 3 (Operand.tmp 120), type := 3, pos := "propagator.go:107", after := #[{ on := 3, ground := Ground.data }], guard := none }) rfl (fun K hK => ?_) AllReadyH.nil)
                  rw [if_pos (by rfl)]
                  have hc := (HLX.out.1.celN (j := kx) (by have := HIXL.out; omega)).trans (by rw [HNXV.out])
                  go_simp
                  clear hc
                  refine hK.out _ _ (HS17.out _ hdr) (fun hHeld => ?_)
                  clear hK K
                  try simp only [Act.put, List.setIfInBounds_toArray, List.set_cons_zero, List.set_cons_succ]
                  refine wpAnyH_take (i := 5) (oi := { dst := some 122, op := Op.binOp BinOp.add 3 (Operand.tmp 121) (Operand.const (Value.int IntKind.i64 1)) 3, type := 3, pos := "propagator.go:107", after := #[{ on := 4, ground := Ground.data }], guard := none }) (v := ?_) rfl (by kernel_rfl) (by kernel_rfl) (by kernel_rfl) (fun _ _ _ h => h) (Or.inl ⟨by rfl, ?_⟩) (by assumption) ?_
                  rotate_left 1
                  · (intro W hSW; (try dsimp only at hSW); first | (go_simp; done) | (go_simp; with_reducible rfl))
                  try simp only [Act.put, List.setIfInBounds_toArray, List.set_cons_zero, List.set_cons_succ]
                  refine wpAnyH_take (i := 6) (oi := { dst := some 123, op := Op.indexAddr 34 (Operand.tmp 117) (Operand.tmp 119), type := 0, pos := "propagator.go:107", after := #[{ on := 0, ground := Ground.data }, { on := 2, ground := Ground.data }, { on := 0, ground := Ground.phase }, { on := 1, ground := Ground.phase }, { on := 2, ground := Ground.phase }, { on := 3, ground := Ground.phase }, { on := 4, ground := Ground.phase }, { on := 5, ground := Ground.phase }], guard := none }) (v := ?_) rfl (by kernel_rfl) (by kernel_rfl) (by kernel_rfl) (fun _ _ _ h => h) (Or.inl ⟨by rfl, ?_⟩) (by assumption) ?_
                  rotate_left 1
                  · (intro W hSW; (try dsimp only at hSW); first | (go_simp; done) | (go_simp; with_reducible rfl))
                  try simp only [Act.put, List.setIfInBounds_toArray, List.set_cons_zero, List.set_cons_succ]
                  refine wpAnyH_ready (rs := [7]) (by kernel_rfl) (by simp) ?_
                  refine (AllReadyH.cons (o := { dst := none, op := Op.store 3 (Operand.tmp 123) (Operand.tmp 122), type := 0, pos := "propagator.go:107", after := #[{ on := 6, ground := Ground.data }, { on := 5, ground := Ground.data }, { on := 2, ground := Ground.chain }, { on := 0, ground := Ground.phase }, { on := 1, ground := Ground.phase }, { on := 2, ground := Ground.phase }, { on := 3, ground := Ground.phase }, { on := 4, ground := Ground.phase }, { on := 5, ground := Ground.phase }], guard := none }) rfl (fun K hK => ?_) AllReadyH.nil)
                  rw [if_pos (by rfl)]
                  have hc := (HLX.out.1.celN (j := kx) (by have := HIXL.out; omega)).trans (by rw [HNXV.out])
                  have hz := HLX.out.1.zN kx
                  go_simp
                  clear hc hz
                  have hS := HLX.out.1.drew.putN kx ((id0 : Int) + 1)
                  have hsv : Saved (SafeN w.heap.size W6.heap.size) WX ((WX.setCell ⟨gn, kx, none⟩ (.int .i64 ((id0 : Int) + 1))).drew) := saved_set (by have := HLX.out.1.nx.row.lt gn rfl; have := HB.out; omega) HLX.out.1.glow.1 WX kx (.int .i64 ((id0 : Int) + 1))
                  change LJ W1 [D] KK tb vs0 R5 gn tn M vc W6.heap.size _ _ _ ((WX.setCell ⟨gn, kx, none⟩ (.int .i64 ((id0 : Int) + 1))).drew) at hS
                  obtain ⟨WY, hWY⟩ : ∃ z, (WX.setCell ⟨gn, kx, none⟩ (.int .i64 ((id0 : Int) + 1))).drew = z := ⟨_, rfl⟩
                  rw [hWY] at hS hsv ⊢
                  clear hWY
                  refine hK.out _ _ (HS17.out _ ⟨_, _, _, hS⟩) (fun hHeld => ?_)
                  clear hK K
                  try simp only [Act.put, List.setIfInBounds_toArray, List.set_cons_zero, List.set_cons_succ]
                  refine wpAnyH_done (by kernel_rfl) ?_ _
                  clear hHeld
                  have HLY := Lib.hid (And.intro hS (HLX.out.2.trans hsv))
                  have t0 := hS.ns.tb0
                  have t8 := hS.f8 HA.out.2 HLN.out.2
                  have c8 := (irow_cell (hS.row3 HA.out.2) (i := ci) (by rw [HLN.out.2]; exact hcin)).trans (by rw [HV3.out])
                  have z8 := World.ownsRow.frozenAt (hS.row3 HA.out.2) ci
                  clear hS hsv hdr
                  gi_wp2_with fail
                  have hZ := HLY.out.1.putO HA.out.2 ci (v3 + 1)
                  have hsZ := HLY.out.2.trans (saved_set (N := W6.heap.size) (lo := w.heap.size) (Nat.le_trans HB.out HBL.out.2.1) HBL.out.2.2.1 WY ci (.int .i64 (v3 + 1)))
                  have hfo := HFO.out.2.step (x := x) (by rw [HCI.out]; exact hcin)
                  rw [HCI.out, HV3.out] at hfo
                  have hst := HSTEP.out.2
                  rw [HCI.out] at hst
                  exact ⟨⟨_, _, _, hZ, hst, hfo⟩, hsZ⟩
                case done =>
                  intro D1 W hD1 hF hsD1 hdef1
                  obtain ⟨cl, o, nx, hlj, hfill, hopn⟩ := hF
                  have hns := hlj.ns.mark hdef1
                  obtain ⟨R8, hR8⟩ : ∃ z, fillR R5 cl o = z := ⟨_, rfl⟩
                  have HOP : Hid (o = opnsP C []) := Lib.hid (by rw [← HH.out.2.2.2] at hopn; exact hopn.done)
                  have HR8 : Hid ((R8 3).l = o ∧ (R8 5).l = cl ∧ (R8 4).l = s ∧ (R8 2).l = List.replicate n 0 ∧ R8 0 = nilRw ∧ R8 1 = nilRw ∧ R8 6 = nilRw) := Lib.hid (by
                    have e : ∀ j, j ≠ 3 → j ≠ 5 → j ≠ 4 → R8 j = R3 j := fun j h3 h5 h4 => by rw [← hR8, fillRo _ _ _ h3 h5, HR5.out.2 j h5, upd_other h4]
                    have e2 : ∀ j, j ≠ 4 → R3 j = R2 j := HR3.out.2
                    refine ⟨by rw [← hR8, fillR3], by rw [← hR8, fillR5], by rw [← hR8, fillRo _ _ _ (by decide) (by decide), HR5.out.2 4 (by decide), upd_same], by rw [e 2 (by decide) (by decide) (by decide), e2 2 (by decide)]; exact HR2.out.1, ?_, ?_, ?_⟩
                    · rw [e 0 (by decide) (by decide) (by decide), e2 0 (by decide)]; exact HR2.out.2.2 0 (by decide) (by decide)
                    · rw [e 1 (by decide) (by decide) (by decide), e2 1 (by decide)]; exact HR2.out.2.2 1 (by decide) (by decide)
                    · rw [e 6 (by decide) (by decide) (by decide), e2 6 (by decide)]; exact HR2.out.2.2 6 (by decide) (by decide))
                  rw [hR8] at hns
                  have HNS8 := Lib.hid hns
                  have HFI : Hid (Occ V C s cl ∧ cl.length ≤ 100000) := Lib.hid ⟨occ_made HM.out HSU.out hfill, by rw [hfill.clen, HT.out.1]; exact hT1⟩
                  have hon : o.length = n := hopn.1
                  have HON := Lib.hid hon
                  have HDD : Hid (D < D1) := Lib.hid (by have h1 := (Array.getElem?_eq_some_iff.1 (HN6.out.ds D (by simp))).1; omega)
                  have t0 := hns.tb0
                  have t8 := hns.pw.f8
                  rw [Rw.val, HR8.out.1, hon] at t8
                  obtain ⟨A3, hA3⟩ : ∃ A, (R8 3).a = A := ⟨_, rfl⟩
                  rw [hA3] at t8
                  have HA3 := Lib.hid hA3
                  clear hlj hfill hopn hR8 hns hdef1 hsD1 hD1 hon hA3
                  gi_wp2_with fail
                  clear t0 t8
                  obtain ⟨i0, hi0, hz0, hz1, hz2⟩ := info_parts info3
                  gi_loopg [9, 10, 138] n (fun gk _s9 _s10 s138 wr => ∃ (k : Nat) (a6 : Option Addr) (c6 : Nat), s138 = .int .i64 (k : Int) ∧ gk = n - k ∧ k ≤ n ∧ NS W1 [D1, D] KK tb vs0 (upd R8 6 ⟨a6, c6, hotTo C k⟩) wr)
                  case atStart => exact ⟨0, none, 0, rfl, rfl, Nat.zero_le _, by show NS _ _ _ _ _ (upd R8 6 nilRw) _; rw [← HR8.out.2.2.2.2.2.2, show upd R8 6 (R8 6) = R8 from upd_self R8 6]; exact HNS8.out⟩
                  case round =>
                    obtain ⟨k, a6, c6, rfl, hgk, hk, hns⟩ := hrel
                    obtain ⟨wo, hwo⟩ : ∃ z, z = wr := ⟨_, rfl⟩
                    rw [← hwo] at hns ⊢
                    clear hwo
                    have HNS9 := Lib.hid hns
                    have HGK := Lib.hid hgk
                    have t0 := hns.tb0
                    clear hgk
                    by_cases hkn : k < n
                    · have f1 : decide (k < n) = true := decide_eq_true hkn
                      have f2 : decide ((k : Int) < (n : Int)) = true := decide_eq_true (by omega)
                      have f3 : (k : Int) < (n : Int) := by omega
                      obtain ⟨g3, ha3, hv3, _, hr3⟩ := hns.pw.row (i := 3) (by omega) (n := n) (by rw [upd_other (by decide), HR8.out.1, HON.out]) (by omega)
                      rw [upd_other (by decide)] at ha3 hv3 hr3
                      obtain rfl : A3 = some ⟨g3, 0, none⟩ := HA3.out.symm.trans ha3
                      have c3 := irow_cell hr3 (i := k) (by rw [HR8.out.1, HON.out]; exact hkn)
                      obtain ⟨v, hv⟩ : ∃ v : Nat, opnN [] (C.getD k []) = v := ⟨_, rfl⟩
                      have hvo : at_ (R8 3).l k = (v : Int) := by rw [HR8.out.1, HOP.out]; unfold at_ opnsP; rw [getD_map (by rw [HH.out.2.2.2]; exact hkn), hv]
                      rw [hvo] at c3
                      have HV := Lib.hid hv
                      have HNR : Hid (hotTo C (k + 1) = hotTo C k ++ (if v < 2 then [(k : Int)] else [])) := Lib.hid (by rw [hotTo_succ, hv])
                      obtain ⟨R9, hR9⟩ : ∃ z, upd R8 6 ⟨a6, c6, hotTo C k⟩ = z := ⟨_, rfl⟩
                      have HR9 : Hid ((R9 6).l = hotTo C k ∧ (∀ x, upd R9 6 x = upd R8 6 x)) := Lib.hid ⟨by rw [← hR9, upd_same], fun x => by rw [← hR9, upd_upd]⟩
                      rw [hR9] at HNS9 hns
                      clear hv hvo ha3 hv3 hr3
                      by_cases hv2 : v < 2
                      · have g1 : decide (v < 2) = true := decide_eq_true hv2
                        have g2 : decide ((v : Int) < 2) = true := decide_eq_true (by omega)
                        obtain ⟨hl9, hhl9⟩ : ∃ z, (R9 6).l.length = z := ⟨_, rfl⟩
                        have HN9 := Lib.hid hhl9
                        have HLEN : Hid (hl9 ≤ 1000000) := Lib.hid (by have h := hotTo_len C k; rw [← HR9.out.1, hhl9] at h; omega)
                        have HPW9 := Lib.hid hns.pw
                        have HVAL : Hid ((R9 6).val = .slice (R9 6).a hl9 (R9 6).c) := Lib.hid (by rw [Rw.val, hhl9])
                        have HOW9 : Hid (wo.ownsRow KK.B 3 1 (.slice (R9 6).a hl9 (R9 6).c) hl9 (intCells (R9 6).l)) := Lib.hid (by have h := hns.pw.rows 6 (by omega); unfold IRow at h; rwa [hhl9] at h)
                        have HT0 := Lib.hid t0
                        have hpb := hns.pw.below KK.p (.inl rfl)
                        have HBS : Hid (KK.B ≤ wo.heap.size) := Lib.hid (by omega)
                        have HPL : Hid (KK.p < wo.heap.size) := Lib.hid hpb.2.1
                        have hbk : (R9 6).blk = (Value.slice (R9 6).a hl9 (R9 6).c).ownBlock := by unfold Rw.blk; rw [HVAL.out]
                        have HTM := Lib.hid hns.tbm
                        have HNT : Hid (some tb ≠ (Value.slice (R9 6).a hl9 (R9 6).c).ownBlock) := Lib.hid (fun e => HTM.out (.inr (.inr ⟨6, by omega, by rw [hbk]; exact e.symm⟩)))
                        have HNP : Hid (some KK.p ≠ (Value.slice (R9 6).a hl9 (R9 6).c).ownBlock) := Lib.hid (fun e => hns.pw.offp 6 (by omega) (by rw [hbk]; exact e.symm))
                        have HSA : Hid (∀ Wh : World, Wh.cell? ⟨tb, 0, none⟩ = some (.pointer (some ⟨KK.p, 0, none⟩)) → (fun Wh : World => Wh.cell? ⟨tb, 0, none⟩ = some (.pointer (some ⟨KK.p, 0, none⟩))) Wh) := Lib.hid (fun Wh h => h)
                        clear hhl9 hns hpb hbk
                        gi_wp2_with fail
                        clear t0 c3
                        refine wpIn_wide.2 ?_
                        refine wp_onlyN ?_
                        have hdr := (show (wo.drew).cell? _ = _ from HT0.out)
                        refine wp_region_held_drew (S := (fun Wh : World => Wh.cell? ⟨tb, 0, none⟩ = some (.pointer (some ⟨KK.p, 0, none⟩)))) (by kernel_rfl) (HSA.out _ hdr) (fun hHeld => ?_)
                        refine wpAnyH_take (i := 0) (oi := { dst := some 145, op := Op.load 114 (Operand.tmp 3), type := 114, pos := "propagator.go:112", after := #[], guard := none }) (v := ?_) rfl (by kernel_rfl) (by kernel_rfl) (by kernel_rfl) (fun _ _ _ h => h) (Or.inl ⟨by rfl, ?_⟩) (by assumption) ?_
                        rotate_left 1
                        · (intro W hSW; (try dsimp only at hSW); first | (go_simp; done) | (go_simp; with_reducible rfl))
                        try simp only [Act.put, List.setIfInBounds_toArray, List.set_cons_zero, List.set_cons_succ]
                        refine wpAnyH_take (i := 1) (oi := { dst := some 146, op := Op.load 114 (Operand.tmp 3), type := 114, pos := "propagator.go:112", after := #[], guard := none }) (v := ?_) rfl (by kernel_rfl) (by kernel_rfl) (by kernel_rfl) (fun _ _ _ h => h) (Or.inl ⟨by rfl, ?_⟩) (by assumption) ?_
                        rotate_left 1
                        · (intro W hSW; (try dsimp only at hSW); first | (go_simp; done) | (go_simp; with_reducible rfl))
                        try simp only [Act.put, List.setIfInBounds_toArray, List.set_cons_zero, List.set_cons_succ]
                        refine wpAnyH_take (i := 2) (oi := { dst := some 147, op := Op.nilCheck (Operand.tmp 146), type := 0, pos := "propagator.go:112", after := #[{ on := 1, ground := Ground.data }], guard := none }) (v := ?_) rfl (by kernel_rfl) (by kernel_rfl) (by kernel_rfl) (fun _ _ _ h => h) (Or.inl ⟨by rfl, ?_⟩) (by assumption) ?_
                        rotate_left 1
                        · (intro W hSW; (try dsimp only at hSW); first | (go_simp; done) | (go_simp; with_reducible rfl))
                        try simp only [Act.put, List.setIfInBounds_toArray, List.set_cons_zero, List.set_cons_succ]
                        refine wpAnyH_take (i := 3) (oi := { dst := some 148, op := Op.fieldAddr 113 (Operand.tmp 147) 10, type := 0, pos := "propagator.go:112", after := #[{ on := 2, ground := Ground.data }], guard := none }) (v := ?_) rfl (by kernel_rfl) (by kernel_rfl) (by kernel_rfl) (fun _ _ _ h => h) (Or.inl ⟨by rfl, ?_⟩) (by assumption) ?_
                        rotate_left 1
                        · (intro W hSW; (try dsimp only at hSW); first | (go_simp; done) | (go_simp; with_reducible rfl))
                        try simp only [Act.put, List.setIfInBounds_toArray, List.set_cons_zero, List.set_cons_succ]
                        refine wpAnyH_take (i := 5) (oi := { dst := some 150, op := Op.move (Operand.tmp 9), type := 3, pos := "propagator.go:112", after := #[], guard := none }) (v := ?_) rfl (by kernel_rfl) (by kernel_rfl) (by kernel_rfl) (fun _ _ _ h => h) (Or.inl ⟨by rfl, ?_⟩) (by assumption) ?_
                        rotate_left 1
                        · (intro W hSW; (try dsimp only at hSW); first | (go_simp; done) | (go_simp; with_reducible rfl))
                        try simp only [Act.put, List.setIfInBounds_toArray, List.set_cons_zero, List.set_cons_succ]
                        refine wpAnyH_ready (rs := [4, 6]) (by kernel_rfl) (by simp) ?_
                        refine (AllReadyH.cons (o := { dst := some 149, op := Op.load 111 (Operand.tmp 148), type := 111, pos := "propagator.go:112", after := #[{ on := 3, ground := Ground.data }], guard := none }) rfl (fun K hK => ?_) (AllReadyH.cons (o := { dst := some 151, op := Op.buildSlice 111 1 #[(0, Operand.tmp 150)], type := 111, pos := "propagator.go:112", after := #[{ on := 5, ground := Ground.data }], guard := none }) rfl (fun K hK => ?_) AllReadyH.nil))
                        · rw [if_pos (by rfl)]
                          have hq := HPW9.out.drew.f11
                          rw [HVAL.out] at hq
                          go_simp
                          clear hq
                          refine hK.out _ _ (HSA.out _ hdr) (fun hHeld => ?_)
                          clear hK K
                          try simp only [Act.put, List.setIfInBounds_toArray, List.set_cons_zero, List.set_cons_succ]
                          refine wpAnyH_ready (rs := [6]) (by kernel_rfl) (by simp) ?_
                          refine (AllReadyH.cons (o := { dst := some 151, op := Op.buildSlice 111 1 #[(0, Operand.tmp 150)], type := 111, pos := "propagator.go:112", after := #[{ on := 5, ground := Ground.data }], guard := none }) rfl (fun K hK => ?_) AllReadyH.nil)
                          rw [if_pos (by rfl)]
                          go_simp
                          have haA : ∀ r, wo.grownBy ((World.alloc wo (.cells #[.int .i64 (k : Int)] 3)).drew) r := fun r => (World.grownBy_alloc wo _ r).trans (grown_drew _ r)
                          have hnA : ∀ j u, [Value.int .i64 (k : Int)][j]? = some u → ((World.alloc wo (.cells #[.int .i64 (k : Int)] 3)).drew).cell? ((⟨wo.heap.size, 0, none⟩ : Addr).add j) = some u := cell_one_new wo _ _
                          obtain ⟨WA, hWA⟩ : ∃ WA, (World.alloc wo (.cells #[.int .i64 (k : Int)] 3)).drew = WA := ⟨_, rfl⟩
                          rw [hWA] at haA hnA ⊢
                          clear hWA
                          have htA := (haA none).cell HT0.out (by simp)
                          refine hK.out _ _ (HSA.out _ htA) (fun hHeld => ?_)
                          clear hK K
                          try simp only [Act.put, List.setIfInBounds_toArray, List.set_cons_zero, List.set_cons_succ]
                          refine wpAnyH_ready (rs := [7]) (by kernel_rfl) (by simp) ?_
                          refine (AllReadyH.cons (o := { dst := some 152, op := Op.call { callee := Callee.builtin Builtin.append, args := #[Operand.tmp 149, Operand.tmp 151], argTypes := #[111, 111] }, type := 111, pos := "propagator.go:112", after := #[{ on := 4, ground := Ground.data }, { on := 6, ground := Ground.data }], guard := none }) rfl (fun K hK => ?_) AllReadyH.nil)
                          refine ready_append_g 111 3 (.tmp 149) (.tmp 151) rfl rfl Tryz.underlying111 hi0 hz0 hz1 hz2 rfl (by decide) (by omega) KK.B _ _ (intCells (R9 6).l) rfl (own_grown HOW9.out (haA none)) ⟨wo.heap.size, 0, none⟩ [.int .i64 (k : Int)] rfl rfl hnA (fun u hu => by simp at hu; subst hu; rfl) HLEN.out (Nat.le_trans HBS.out (haA none).size) (fun v' w6 hown' hgrow6 hat6 => ?_)
                          obtain ⟨rgA, rcA, rfl⟩ := own_shape hown'
                          have hg6 : wo.grownBy w6 (Value.slice (R9 6).a hl9 (R9 6).c).ownBlock := (haA _).trans hgrow6
                          have ht6 := hg6.cell HT0.out HNT.out
                          have hat9 : (Value.slice rgA (hl9 + 1) rcA).ownBlock = (Value.slice (R9 6).a hl9 (R9 6).c).ownBlock ∨ ∃ b, (Value.slice rgA (hl9 + 1) rcA).ownBlock = some b ∧ wo.heap.size ≤ b := hat6.imp id (fun h => ⟨_, h, (haA none).size⟩)
                          have hTR := trail_row (i := 6) HPW9.out (by omega) HN9.out hown' hg6 hat9
                          refine hK.out _ _ (HSA.out _ ht6) (fun hHeld => ?_)
                          clear hK K
                          try simp only [Act.put, List.setIfInBounds_toArray, List.set_cons_zero, List.set_cons_succ]
                          refine wpAnyH_take (i := 8) (oi := { dst := some 153, op := Op.nilCheck (Operand.tmp 145), type := 0, pos := "propagator.go:112", after := #[{ on := 0, ground := Ground.data }, { on := 0, ground := Ground.phase }, { on := 1, ground := Ground.phase }, { on := 2, ground := Ground.phase }, { on := 3, ground := Ground.phase }, { on := 4, ground := Ground.phase }, { on := 5, ground := Ground.phase }, { on := 6, ground := Ground.phase }, { on := 7, ground := Ground.phase }], guard := none }) (v := ?_) rfl (by kernel_rfl) (by kernel_rfl) (by kernel_rfl) (fun _ _ _ h => h) (Or.inl ⟨by rfl, ?_⟩) (by assumption) ?_
                          rotate_left 1
                          · (intro W hSW; (try dsimp only at hSW); first | (go_simp; done) | (go_simp; with_reducible rfl))
                          try simp only [Act.put, List.setIfInBounds_toArray, List.set_cons_zero, List.set_cons_succ]
                          refine wpAnyH_take (i := 9) (oi := { dst := some 154, op := Op.fieldAddr 113 (Operand.tmp 153) 10, type := 0, pos := "propagator.go:112", after := #[{ on := 8, ground := Ground.data }, { on := 0, ground := Ground.phase }, { on := 1, ground := Ground.phase }, { on := 2, ground := Ground.phase }, { on := 3, ground := Ground.phase }, { on := 4, ground := Ground.phase }, { on := 5, ground := Ground.phase }, { on := 6, ground := Ground.phase }, { on := 7, ground := Ground.phase }], guard := none }) (v := ?_) rfl (by kernel_rfl) (by kernel_rfl) (by kernel_rfl) (fun _ _ _ h => h) (Or.inl ⟨by rfl, ?_⟩) (by assumption) ?_
                          rotate_left 1
                          · (intro W hSW; (try dsimp only at hSW); first | (go_simp; done) | (go_simp; with_reducible rfl))
                          try simp only [Act.put, List.setIfInBounds_toArray, List.set_cons_zero, List.set_cons_succ]
                          refine wpAnyH_ready (rs := [10]) (by kernel_rfl) (by simp) ?_
                          refine (AllReadyH.cons (o := { dst := none, op := Op.store 111 (Operand.tmp 154) (Operand.tmp 152), type := 0, pos := "propagator.go:112", after := #[{ on := 9, ground := Ground.data }, { on := 7, ground := Ground.data }, { on := 7, ground := Ground.chain }, { on := 0, ground := Ground.phase }, { on := 1, ground := Ground.phase }, { on := 2, ground := Ground.phase }, { on := 3, ground := Ground.phase }, { on := 4, ground := Ground.phase }, { on := 5, ground := Ground.phase }, { on := 6, ground := Ground.phase }, { on := 7, ground := Ground.phase }], guard := none }) rfl (fun K hK => ?_) AllReadyH.nil)
                          rw [if_pos (by rfl)]
                          have hc := hg6.cell HPW9.out.f11 HNP.out
                          have hz : w6.frozen? ⟨KK.p, 11, none⟩ = false := (World.frozen?_of_block (a := ⟨KK.p, 11, none⟩) (hg6.block KK.p HPL.out HNP.out)).trans (HPW9.out.fr 11)
                          go_simp
                          clear hc hz
                          obtain ⟨WX, hWX⟩ : ∃ z, w6.setCell ⟨KK.p, 11, none⟩ (.slice rgA (hl9 + 1) rcA) = z := ⟨_, rfl⟩
                          have htX : WX.cell? ⟨_, 0, none⟩ = some _ := hTR.2.1.cell HT0.out HTM.out |> fun h => by rw [← hWX]; exact h
                          simp only [fld] at hTR
                          rw [hWX] at hTR ⊢
                          clear hWX
                          refine hK.out _ _ (HSA.out _ htX) (fun hHeld => ?_)
                          clear hK K
                          try simp only [Act.put, List.setIfInBounds_toArray, List.set_cons_zero, List.set_cons_succ]
                          refine wpAnyH_done (by kernel_rfl) ?_ _
                          have hEND := htX
                          clear hHeld
                          simp only [onlyN]
                          have HNX9 := Lib.hid (HNS9.out.turned hTR.1 hTR.2.1 (PM.upd (by omega) hTR.2.2))
                          clear hTR htX
                          gi_wp2_with fail
                          gi_roundg (n - (k + 1))
                          case measure => rw [HGK.out]; omega
                          case rel => exact ⟨k + 1, rgA, rcA, by go_num, rfl, by omega, by have h := HNX9.out; rw [HR9.out.2, HR9.out.1] at h; rw [HNR.out, if_pos hv2]; exact h⟩
                        · rw [if_pos (by rfl)]
                          go_simp
                          have haA : ∀ r, wo.grownBy ((World.alloc wo (.cells #[.int .i64 (k : Int)] 3)).drew) r := fun r => (World.grownBy_alloc wo _ r).trans (grown_drew _ r)
                          have hnA : ∀ j u, [Value.int .i64 (k : Int)][j]? = some u → ((World.alloc wo (.cells #[.int .i64 (k : Int)] 3)).drew).cell? ((⟨wo.heap.size, 0, none⟩ : Addr).add j) = some u := cell_one_new wo _ _
                          obtain ⟨WA, hWA⟩ : ∃ WA, (World.alloc wo (.cells #[.int .i64 (k : Int)] 3)).drew = WA := ⟨_, rfl⟩
                          rw [hWA] at haA hnA ⊢
                          clear hWA
                          have htA := (haA none).cell HT0.out (by simp)
                          refine hK.out _ _ (HSA.out _ htA) (fun hHeld => ?_)
                          clear hK K
                          try simp only [Act.put, List.setIfInBounds_toArray, List.set_cons_zero, List.set_cons_succ]
                          refine wpAnyH_ready (rs := [4]) (by kernel_rfl) (by simp) ?_
                          refine (AllReadyH.cons (o := { dst := some 149, op := Op.load 111 (Operand.tmp 148), type := 111, pos := "propagator.go:112", after := #[{ on := 3, ground := Ground.data }], guard := none }) rfl (fun K hK => ?_) AllReadyH.nil)
                          rw [if_pos (by rfl)]
                          have hq := (HPW9.out.grown (haA none)).f11
                          rw [HVAL.out] at hq
                          go_simp
                          clear hq
                          refine hK.out _ _ (HSA.out _ htA) (fun hHeld => ?_)
                          clear hK K
                          try simp only [Act.put, List.setIfInBounds_toArray, List.set_cons_zero, List.set_cons_succ]
                          refine wpAnyH_ready (rs := [7]) (by kernel_rfl) (by simp) ?_
                          refine (AllReadyH.cons (o := { dst := some 152, op := Op.call { callee := Callee.builtin Builtin.append, args := #[Operand.tmp 149, Operand.tmp 151], argTypes := #[111, 111] }, type := 111, pos := "propagator.go:112", after := #[{ on := 4, ground := Ground.data }, { on := 6, ground := Ground.data }], guard := none }) rfl (fun K hK => ?_) AllReadyH.nil)
                          refine ready_append_g 111 3 (.tmp 149) (.tmp 151) rfl rfl Tryz.underlying111 hi0 hz0 hz1 hz2 rfl (by decide) (by omega) KK.B _ _ (intCells (R9 6).l) rfl (own_grown HOW9.out (haA none)) ⟨wo.heap.size, 0, none⟩ [.int .i64 (k : Int)] rfl rfl hnA (fun u hu => by simp at hu; subst hu; rfl) HLEN.out (Nat.le_trans HBS.out (haA none).size) (fun v' w6 hown' hgrow6 hat6 => ?_)
                          obtain ⟨rgA, rcA, rfl⟩ := own_shape hown'
                          have hg6 : wo.grownBy w6 (Value.slice (R9 6).a hl9 (R9 6).c).ownBlock := (haA _).trans hgrow6
                          have ht6 := hg6.cell HT0.out HNT.out
                          have hat9 : (Value.slice rgA (hl9 + 1) rcA).ownBlock = (Value.slice (R9 6).a hl9 (R9 6).c).ownBlock ∨ ∃ b, (Value.slice rgA (hl9 + 1) rcA).ownBlock = some b ∧ wo.heap.size ≤ b := hat6.imp id (fun h => ⟨_, h, (haA none).size⟩)
                          have hTR := trail_row (i := 6) HPW9.out (by omega) HN9.out hown' hg6 hat9
                          refine hK.out _ _ (HSA.out _ ht6) (fun hHeld => ?_)
                          clear hK K
                          try simp only [Act.put, List.setIfInBounds_toArray, List.set_cons_zero, List.set_cons_succ]
                          refine wpAnyH_take (i := 8) (oi := { dst := some 153, op := Op.nilCheck (Operand.tmp 145), type := 0, pos := "propagator.go:112", after := #[{ on := 0, ground := Ground.data }, { on := 0, ground := Ground.phase }, { on := 1, ground := Ground.phase }, { on := 2, ground := Ground.phase }, { on := 3, ground := Ground.phase }, { on := 4, ground := Ground.phase }, { on := 5, ground := Ground.phase }, { on := 6, ground := Ground.phase }, { on := 7, ground := Ground.phase }], guard := none }) (v := ?_) rfl (by kernel_rfl) (by kernel_rfl) (by kernel_rfl) (fun _ _ _ h => h) (Or.inl ⟨by rfl, ?_⟩) (by assumption) ?_
                          rotate_left 1
                          · (intro W hSW; (try dsimp only at hSW); first | (go_simp; done) | (go_simp; with_reducible rfl))
                          try simp only [Act.put, List.setIfInBounds_toArray, List.set_cons_zero, List.set_cons_succ]
                          refine wpAnyH_take (i := 9) (oi := { dst := some 154, op := Op.fieldAddr 113 (Operand.tmp 153) 10, type := 0, pos := "propagator.go:112", after := #[{ on := 8, ground := Ground.data }, { on := 0, ground := Ground.phase }, { on := 1, ground := Ground.phase }, { on := 2, ground := Ground.phase }, { on := 3, ground := Ground.phase }, { on := 4, ground := Ground.phase }, { on := 5, ground := Ground.phase }, { on := 6, ground := Ground.phase }, { on := 7, ground := Ground.phase }], guard := none }) (v := ?_) rfl (by kernel_rfl) (by kernel_rfl) (by kernel_rfl) (fun _ _ _ h => h) (Or.inl ⟨by rfl, ?_⟩) (by assumption) ?_
                          rotate_left 1
                          · (intro W hSW; (try dsimp only at hSW); first | (go_simp; done) | (go_simp; with_reducible rfl))
                          try simp only [Act.put, List.setIfInBounds_toArray, List.set_cons_zero, List.set_cons_succ]
                          refine wpAnyH_ready (rs := [10]) (by kernel_rfl) (by simp) ?_
                          refine (AllReadyH.cons (o := { dst := none, op := Op.store 111 (Operand.tmp 154) (Operand.tmp 152), type := 0, pos := "propagator.go:112", after := #[{ on := 9, ground := Ground.data }, { on := 7, ground := Ground.data }, { on := 7, ground := Ground.chain }, { on := 0, ground := Ground.phase }, { on := 1, ground := Ground.phase }, { on := 2, ground := Ground.phase }, { on := 3, ground := Ground.phase }, { on := 4, ground := Ground.phase }, { on := 5, ground := Ground.phase }, { on := 6, ground := Ground.phase }, { on := 7, ground := Ground.phase }], guard := none }) rfl (fun K hK => ?_) AllReadyH.nil)
                          rw [if_pos (by rfl)]
                          have hc := hg6.cell HPW9.out.f11 HNP.out
                          have hz : w6.frozen? ⟨KK.p, 11, none⟩ = false := (World.frozen?_of_block (a := ⟨KK.p, 11, none⟩) (hg6.block KK.p HPL.out HNP.out)).trans (HPW9.out.fr 11)
                          go_simp
                          clear hc hz
                          obtain ⟨WX, hWX⟩ : ∃ z, w6.setCell ⟨KK.p, 11, none⟩ (.slice rgA (hl9 + 1) rcA) = z := ⟨_, rfl⟩
                          have htX : WX.cell? ⟨_, 0, none⟩ = some _ := hTR.2.1.cell HT0.out HTM.out |> fun h => by rw [← hWX]; exact h
                          simp only [fld] at hTR
                          rw [hWX] at hTR ⊢
                          clear hWX
                          refine hK.out _ _ (HSA.out _ htX) (fun hHeld => ?_)
                          clear hK K
                          try simp only [Act.put, List.setIfInBounds_toArray, List.set_cons_zero, List.set_cons_succ]
                          refine wpAnyH_done (by kernel_rfl) ?_ _
                          have hEND := htX
                          clear hHeld
                          simp only [onlyN]
                          have HNX9 := Lib.hid (HNS9.out.turned hTR.1 hTR.2.1 (PM.upd (by omega) hTR.2.2))
                          clear hTR htX
                          gi_wp2_with fail
                          gi_roundg (n - (k + 1))
                          case measure => rw [HGK.out]; omega
                          case rel => exact ⟨k + 1, rgA, rcA, by go_num, rfl, by omega, by have h := HNX9.out; rw [HR9.out.2, HR9.out.1] at h; rw [HNR.out, if_pos hv2]; exact h⟩
                      · have g1 : decide (v < 2) = false := decide_eq_false hv2
                        have g2 : decide ((v : Int) < 2) = false := decide_eq_false (by omega)
                        clear hns
                        gi_wp2_with fail
                        gi_roundg (n - (k + 1))
                        case measure => rw [HGK.out]; omega
                        case rel => exact ⟨k + 1, a6, c6, by go_num, rfl, by omega, by rw [HNR.out, if_neg hv2, List.append_nil, hR9]; exact HNS9.out⟩
                    · have hke : k = n := by omega
                      subst hke
                      have f1 : decide (k < k) = false := by simp
                      clear hns
                      gi_wp2_with fail
                      have hd0 := HNS9.out.ds D1 (by simp)
                      have hd1 : (wo.putObj D1 (.deferred none)).heap[D]? = some (.deferred (some [])) := (World.putObj_heap_other (Nat.ne_of_lt HDD.out)).trans (HNS9.out.ds D (by simp))
                      have hfin : ∀ W : World, (∀ b, b ≠ D → b ≠ D1 → W.heap[b]? = wo.heap[b]?) → W.os = wo.os → W.tape = wo.tape → W.output = wo.output → wo.heap.size ≤ W.heap.size → PS KK C W [] 0 (-1) (upd R8 6 ⟨a6, c6, hotTo C k⟩) ∧ w.grownBy W none ∧ w.heap.size ≤ KK.B ∧ KK.V = V ∧ KK.ca = ca ∧ KK.cn = k ∧ KK.cc = cc ∧ (upd R8 6 ⟨a6, c6, hotTo C k⟩ 1).l = [] := by
                        intro W hW h1 h2 h3 h4
                        have hnd : ∀ b, PM KK (upd R8 6 ⟨a6, c6, hotTo C k⟩) b → b ≠ D ∧ b ≠ D1 := fun b hb => by
                          have hc := (HNS9.out.pw.below b hb).2.2
                          refine ⟨fun e => ?_, fun e => ?_⟩
                          · have := hc _ (by rw [e]; exact HNS9.out.ds D (by simp)); simp [Obj.isCells] at this
                          · have := hc _ (by rw [e]; exact HNS9.out.ds D1 (by simp)); simp [Obj.isCells] at this
                        have hpw := HNS9.out.pw.kept (w' := W) (fun b hb => hW b (hnd b hb).1 (hnd b hb).2)
                        have hck : C.length = k := HH.out.2.2.2
                        refine ⟨⟨?_, ?_, ?_, ?_, ?_, ?_, ?_, ?_, ?_, ?_⟩, ?_, by rw [HNS9.out.B]; exact HB.out, HK.out.1, HK.out.2.1, HK.out.2.2.1, HK.out.2.2.2, ?_⟩
                        · rw [HK.out.1, vals_nil, hvs0]; exact hpw
                        · rw [upd_other (by decide), HR8.out.2.2.2.2.1]; rfl
                        · rw [upd_other (by decide), HR8.out.2.2.2.1, sats_start, hck]
                        · rw [upd_other (by decide), HR8.out.1]; exact HOP.out
                        · rw [upd_other (by decide), upd_other (by decide), HR8.out.2.2.1, HR8.out.2.1, HK.out.1]; exact HFI.out.1
                        · rw [upd_other (by decide), HR8.out.2.1]; exact HFI.out.2
                        · rw [upd_same]; simp only; rw [← hck]; exact qok_start C
                        · rw [upd_same]; simp only; have := hotTo_len C k; rw [hck]; simp; exact this
                        · intro x hx; cases hx
                        · rw [HK.out.1, free_nil]; simp
                        · have hg := HG.out.trans HNS9.out.grown
                          exact ⟨h1.trans hg.os, h2.trans hg.tape, h3.trans hg.output, Nat.le_trans hg.size h4, fun b hb _ => by
                            have h8 := HD.out.2
                            have h9 := HN3.out.grown.size
                            have h10 := HB.out
                            have h11 := HDD.out
                            rw [hW b (by omega) (by omega)]
                            exact hg.block b hb (by simp)⟩
                        · rw [upd_other (by decide), HR8.out.2.2.2.2.2.1]; rfl
                      refine ⟨by simp, .inl ⟨D1, _, rfl, run_takeDeferred hd0, ?_⟩⟩
                      refine ⟨by simp, .inl ⟨D, _, rfl, run_takeDeferred hd1, ?_⟩⟩
                      refine ⟨_, results_tmp rfl _ _ _, KK, _, rfl, hfin _ ?_ rfl rfl rfl ?_⟩
                      · intro b h1 h2
                        exact (World.putObj_heap_other h1).trans (World.putObj_heap_other h2)
                      · simp
end Go.Proofs.YtihaheinkpmnnaaGreat

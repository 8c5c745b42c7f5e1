/- The reference's Transpose. -/
import Derived.Test.YtkoigonbncpbaaaS26
import Derived.Test.YtkoigonbncpbaaaA8
namespace Go.Proofs.Ytkoigonbncpbaaa
open Go.RowKit Go.Shelf

theorem results22 (tmps : Array Value) (w : World) (b : Nat) (a : Option Addr) (n c : Nat) (x : Int) (ht : tmps.getD 4 undef = .pointer (some ⟨b, 0, none⟩)) (h0 : w.cell? ⟨b, 0, none⟩ = some (.int .i64 x)) (h1 : w.cell? ⟨b, 1, none⟩ = some (.slice a n c)) :
    (results Try.f22 tmps).run Try.prog w = .ok (.agg #[.int .i64 x, .slice a n c]) w := by
  have ht' : tmps[4]?.getD undef = .pointer (some ⟨b, 0, none⟩) := by simpa using ht
  simp [results, ht', go_sem, h0, h1, Result.andThen]

set_option maxRecDepth 100000 in
set_option maxHeartbeats 8000000 in
theorem rTranspose_calls (n : Nat) (k : Int) (xs : List Int) (xa : Option Addr) (xc : Nat) (w : World) (h : IntsW w xa xc xs) (hl : xs.length ≤ 10000) (hn : 1 ≤ n) (hn2 : n ≤ 12) (hx : ∀ x ∈ xs, 0 ≤ x ∧ x ≤ 2000) :
    Calls Try.prog 22 #[.int .i64 (n : Int), .agg #[.int .i64 k, .slice xa xs.length xc]] w fun e w' => ∃ a c, e = .returned (.agg #[.int .i64 2, .slice a (uniq (turnL n xs)).length c]) ∧ Span w.heap.size w'.heap.size w' (fun W => IntsW W a c (uniq (turnL n xs))) ∧ w.grownBy w' none := by
  have htl : (turnL n xs).length = xs.length := by unfold turnL; simp
  obtain ⟨m, hm⟩ : ∃ m, xs.length = m := ⟨_, rfl⟩
  have hc := two_cells w (.int .i64 k) (.slice xa m xc) (.int .i64 0) (.slice none 0 0) 27 27
  have hg := (World.grownBy_alloc w (.cells #[.int .i64 k, .slice xa m xc] 27) none).trans (World.grownBy_alloc (w.alloc (.cells #[.int .i64 k, .slice xa m xc] 27)) (.cells #[.int .i64 0, .slice none 0 0] 27) none)
  have hsz : ((w.alloc (.cells #[.int .i64 k, .slice xa m xc] 27)).alloc (.cells #[.int .i64 0, .slice none 0 0] 27)).heap.size = w.heap.size + 2 := by simp
  obtain ⟨W, hW⟩ : ∃ W, (w.alloc (.cells #[.int .i64 k, .slice xa m xc] 27)).alloc (.cells #[.int .i64 0, .slice none 0 0] 27) = W := ⟨_, rfl⟩
  rw [hW] at hc hg hsz
  have HH := Lib.hid (And.intro (h.grown hg) (And.intro hm hx))
  rw [hm] at hl htl ⊢
  unfold uniq
  rw [htl]
  have HTL := Lib.hid htl
  clear h hm hx htl
  have HG := Lib.hid (And.intro hg hsz); clear hg hsz
  have HC := Lib.hid hc
  obtain ⟨_, c0, c1, d0, d1, f0, f1⟩ := hc
  have HB0 := Lib.hid (OfBox.new W 2)
  have HG0 := Lib.hid (World.grownBy_alloc W (.cells #[.int .i64 2, .slice none 0 0] 27) none)
  go_enter Try.func22, Try.ntmps22
  go_wp2_with fail
  clear hW c0 c1 d0 d1 f0 f1
  obtain ⟨W1, hW1⟩ : ∃ W1, W.alloc (.cells #[.int .i64 2, .slice none 0 0] 27) = W1 := ⟨_, rfl⟩
  rw [hW1] at HB0 HG0 ⊢
  clear hW1
  go_loopg [6] m (fun g s6 wr => ∃ (i : Nat) (va : Option Addr) (vc : Nat), s6 = .int .i64 (i : Int) ∧ g = m - i ∧ i ≤ m ∧ OfBox W.heap.size wr 2 va vc (ofTo (turnL n xs) i) ∧ W.grownBy wr none)
  case atStart => exact ⟨0, none, 0, rfl, rfl, Nat.zero_le _, HB0.out, HG0.out⟩
  case round =>
    obtain ⟨i, va, vc, rfl, hgk, hi, hbx, hgr⟩ := hrel
    have HBX := Lib.hid hbx; clear hbx
    have HWR := Lib.hid hgr; clear hgr
    have HI := Lib.hid hgk; clear hgk
    have e1 := HWR.out.cell HC.out.2.2.1 (by simp)
    by_cases hin : i < m
    · have hinB : decide (i < m) = true := by simpa using hin
      have hinI : (i : Int) < (m : Int) := by omega
      obtain ⟨z, hz⟩ : ∃ z, xs[i]? = some z := ⟨_, List.getElem?_eq_getElem (by rw [HH.out.2.1]; exact hin)⟩
      obtain ⟨b, o, rfl, hcell0⟩ := HH.out.1.at hz
      have hzb := HH.out.2.2 z (List.mem_of_getElem? hz)
      obtain ⟨x, rfl⟩ : ∃ x : Nat, z = (x : Int) := ⟨z.toNat, by omega⟩
      obtain ⟨r, hr⟩ : ∃ r, x % n = r := ⟨_, rfl⟩
      obtain ⟨q, hq⟩ : ∃ q, x / n = q := ⟨_, rfl⟩
      have hri : (x : Int) % (n : Int) = (r : Int) := by omega
      have hqi : (x : Int) / (n : Int) = (q : Int) := by rw [← hq]; rfl
      have hrn : r < n := by rw [← hr]; exact Nat.mod_lt _ (by omega)
      have hqx : q ≤ 2000 := by rw [← hq]; exact Nat.le_trans (Nat.div_le_self _ _) (by omega)
      have hrq : r * n ≤ 144 := Nat.le_trans (Nat.mul_le_mul (Nat.le_of_lt hrn) (Nat.le_refl n)) (by have := Nat.mul_le_mul hn2 hn2; omega)
      obtain ⟨P, hP⟩ : ∃ P, r * n = P := ⟨_, rfl⟩
      obtain ⟨V, hV⟩ : ∃ V, P + q = V := ⟨_, rfl⟩
      have hPi : (r : Int) * (n : Int) = (P : Int) := by rw [← hP]; simp
      have hT : (turnL n xs)[i]? = some (V : Int) := by
        unfold turnL
        rw [List.getElem?_map, hz, Option.map_some, hri, hqi, hPi, ← hV]
        simp
      rw [hP] at hrq
      have hmod : (x : Int).tmod (n : Int) = (r : Int) := by rw [← hri, Int.tmod_eq_emod_of_nonneg (by omega)]
      have hwq : IntKind.i64.wrap (q : Int) = (q : Int) := IntWalk.i64_in _ (by omega)
      have hwP : IntKind.i64.wrap ((r : Int) * (n : Int)) = (P : Int) := by rw [hPi]; exact IntWalk.i64_in _ (by omega)
      have hwV : IntKind.i64.wrap ((P : Int) + (q : Int)) = (V : Int) := by rw [IntWalk.i64_in _ (by omega)]; omega
      have hnn : n ≠ 0 := by omega
      have hn0 : ((n : Int) == 0) = false := by simp; omega
      have hn00 : (n : Int) ≠ 0 := by omega
      have hnB : decide ((0 : Int) < (n : Int)) = true := by simp; omega
      have hnC : decide (0 < n) = true := by simp; omega
      have HNX := Lib.hid (ofTo_next hT)
      have HLE := Lib.hid (ofTo_len (rs := turnL n xs) (i := i))
      have HAD := Lib.hid (fun (U : World) (g : wr.grownBy U none) => add_calls (ofTo (turnL n xs) i) va vc (W.heap.size + 1) (V : Int) U (HBX.out.grown g).sp (HBX.out.grown g).low (by have := HLE.out; omega) ofTo_up)
      rw [← HNX.out] at HAD
      clear hT hr hq hz hzb hP hV hPi hri
      obtain ⟨p, hp⟩ : ∃ p, (ofTo (turnL n xs) i).length = p := ⟨_, rfl⟩
      obtain ⟨p2, hp2⟩ : ∃ p, (ofTo (turnL n xs) (i + 1)).length = p := ⟨_, rfl⟩
      rw [hp, hp2] at HAD
      have HP := Lib.hid (And.intro hp hp2); clear hp hp2
      go_wp2_with fail
      clear e1
      have HS := Lib.hid (fun (Wh : World) (hWh : W.grownBy Wh none) => (⟨hWh, hWh.cell hcell0 (by simp), hWh.cell HC.out.2.2.1 (by simp)⟩ : (fun Wh : World => W.grownBy Wh none ∧ Wh.cell? ⟨b, o + i, none⟩ = some (.int .i64 (x : Int)) ∧ Wh.cell? ⟨w.heap.size, 1, none⟩ = some (.slice (some ⟨b, o, none⟩) m xc)) Wh))
      have hdr : W.grownBy wr.drew none := World.grownBy.trans HWR.out (⟨rfl, rfl, rfl, Nat.le_refl _, fun _ _ _ => rfl⟩ : wr.grownBy wr.drew none)
      refine wp_region_held_drew (S := (fun Wh : World => W.grownBy Wh none ∧ Wh.cell? ⟨b, o + i, none⟩ = some (.int .i64 (x : Int)) ∧ Wh.cell? ⟨w.heap.size, 1, none⟩ = some (.slice (some ⟨b, o, none⟩) m xc))) (by kernel_rfl) (HS.out _ hdr) (fun hHeld => ?_)
      refine wpAnyH_take (i := 0) (oi := { dst := some 15, op := Op.fieldAddr 27 (Operand.tmp 5) 1, type := 0, pos := "ref.go:148", after := #[], guard := none }) (v := ?_) rfl (by kernel_rfl) (by kernel_rfl) (by kernel_rfl) (fun _ _ _ h => h) (Or.inl ⟨by rfl, ?_⟩) (by assumption) ?_
      rotate_left 1
      · (intro W hSW; (try dsimp only at hSW); first | (go_simp; done) | (go_simp; with_reducible rfl))
      try simp only [Act.put, List.setIfInBounds_toArray, List.set_cons_zero, List.set_cons_succ]
      refine wpAnyH_take (i := 2) (oi := { dst := some 17, op := Op.fieldAddr 27 (Operand.tmp 3) 1, type := 0, pos := "ref.go:148", after := #[], guard := none }) (v := ?_) rfl (by kernel_rfl) (by kernel_rfl) (by kernel_rfl) (fun _ _ _ h => h) (Or.inl ⟨by rfl, ?_⟩) (by assumption) ?_
      rotate_left 1
      · (intro W hSW; (try dsimp only at hSW); first | (go_simp; done) | (go_simp; with_reducible rfl))
      try simp only [Act.put, List.setIfInBounds_toArray, List.set_cons_zero, List.set_cons_succ]
      refine wpAnyH_take (i := 3) (oi := { dst := some 18, op := Op.load 25 (Operand.tmp 17), type := 25, pos := "ref.go:148", after := #[{ on := 2, ground := Ground.data }], guard := none }) (v := ?_) rfl (by kernel_rfl) (by kernel_rfl) (by kernel_rfl) (fun _ _ _ h => h) (Or.inl ⟨by rfl, ?_⟩) (by assumption) ?_
      rotate_left 1
      · (intro W hSW; (try dsimp only at hSW); first | (go_simp; done) | (go_simp; with_reducible rfl))
      try simp only [Act.put, List.setIfInBounds_toArray, List.set_cons_zero, List.set_cons_succ]
      refine wpAnyH_take (i := 4) (oi := { dst := some 19, op := Op.move (Operand.tmp 6), type := 3, pos := "ref.go:148", after := #[], guard := none }) (v := ?_) rfl (by kernel_rfl) (by kernel_rfl) (by kernel_rfl) (fun _ _ _ h => h) (Or.inl ⟨by rfl, ?_⟩) (by assumption) ?_
      rotate_left 1
      · (intro W hSW; (try dsimp only at hSW); first | (go_simp; done) | (go_simp; with_reducible rfl))
      try simp only [Act.put, List.setIfInBounds_toArray, List.set_cons_zero, List.set_cons_succ]
      refine wpAnyH_take (i := 5) (oi := { dst := some 20, op := Op.indexAddr 25 (Operand.tmp 18) (Operand.tmp 19), type := 0, pos := "ref.go:148", after := #[{ on := 3, ground := Ground.data }, { on := 4, ground := Ground.data }], guard := none }) (v := ?_) rfl (by kernel_rfl) (by kernel_rfl) (by kernel_rfl) (fun _ _ _ h => h) (Or.inl ⟨by rfl, ?_⟩) (by assumption) ?_
      rotate_left 1
      · (intro W hSW; (try dsimp only at hSW); first | (go_simp; done) | (go_simp; with_reducible rfl))
      try simp only [Act.put, List.setIfInBounds_toArray, List.set_cons_zero, List.set_cons_succ]
      refine wpAnyH_take (i := 6) (oi := { dst := some 21, op := Op.load 3 (Operand.tmp 20), type := 3, pos := "ref.go:148", after := #[{ on := 5, ground := Ground.data }], guard := none }) (v := ?_) rfl (by kernel_rfl) (by kernel_rfl) (by kernel_rfl) (fun _ _ _ h => h) (Or.inl ⟨by rfl, ?_⟩) (by assumption) ?_
      rotate_left 1
      · (intro W hSW; (try dsimp only at hSW); first | (go_simp; done) | (go_simp; with_reducible rfl))
      try simp only [Act.put, List.setIfInBounds_toArray, List.set_cons_zero, List.set_cons_succ]
      refine wpAnyH_take (i := 7) (oi := { dst := some 22, op := Op.move (Operand.tmp 0), type := 3, pos := "ref.go:148", after := #[], guard := none }) (v := ?_) rfl (by kernel_rfl) (by kernel_rfl) (by kernel_rfl) (fun _ _ _ h => h) (Or.inl ⟨by rfl, ?_⟩) (by assumption) ?_
      rotate_left 1
      · (intro W hSW; (try dsimp only at hSW); first | (go_simp; done) | (go_simp; with_reducible rfl))
      try simp only [Act.put, List.setIfInBounds_toArray, List.set_cons_zero, List.set_cons_succ]
      refine wpAnyH_take (i := 8) (oi := { dst := some 23, op := Op.binOp BinOp.rem 3 (Operand.tmp 21) (Operand.tmp 22) 3, type := 3, pos := "ref.go:148", after := #[{ on := 6, ground := Ground.data }, { on := 7, ground := Ground.data }], guard := none }) (v := ?_) rfl (by kernel_rfl) (by kernel_rfl) (by kernel_rfl) (fun _ _ _ h => h) (Or.inl ⟨by rfl, ?_⟩) (by assumption) ?_
      rotate_left 1
      · (intro W hSW; (try dsimp only at hSW); first | (go_simp; done) | (go_simp; with_reducible rfl))
      try simp only [Act.put, List.setIfInBounds_toArray, List.set_cons_zero, List.set_cons_succ]
      refine wpAnyH_take (i := 9) (oi := { dst := some 24, op := Op.move (Operand.tmp 0), type := 3, pos := "ref.go:148", after := #[], guard := none }) (v := ?_) rfl (by kernel_rfl) (by kernel_rfl) (by kernel_rfl) (fun _ _ _ h => h) (Or.inl ⟨by rfl, ?_⟩) (by assumption) ?_
      rotate_left 1
      · (intro W hSW; (try dsimp only at hSW); first | (go_simp; done) | (go_simp; with_reducible rfl))
      try simp only [Act.put, List.setIfInBounds_toArray, List.set_cons_zero, List.set_cons_succ]
      refine wpAnyH_take (i := 10) (oi := { dst := some 25, op := Op.binOp BinOp.mul 3 (Operand.tmp 23) (Operand.tmp 24) 3, type := 3, pos := "ref.go:148", after := #[{ on := 8, ground := Ground.data }, { on := 9, ground := Ground.data }], guard := none }) (v := ?_) rfl (by kernel_rfl) (by kernel_rfl) (by kernel_rfl) (fun _ _ _ h => h) (Or.inl ⟨by rfl, ?_⟩) (by assumption) ?_
      rotate_left 1
      · (intro W hSW; (try dsimp only at hSW); first | (go_simp; done) | (go_simp; with_reducible rfl))
      try simp only [Act.put, List.setIfInBounds_toArray, List.set_cons_zero, List.set_cons_succ]
      refine wpAnyH_take (i := 11) (oi := { dst := some 26, op := Op.fieldAddr 27 (Operand.tmp 3) 1, type := 0, pos := "ref.go:148", after := #[], guard := none }) (v := ?_) rfl (by kernel_rfl) (by kernel_rfl) (by kernel_rfl) (fun _ _ _ h => h) (Or.inl ⟨by rfl, ?_⟩) (by assumption) ?_
      rotate_left 1
      · (intro W hSW; (try dsimp only at hSW); first | (go_simp; done) | (go_simp; with_reducible rfl))
      try simp only [Act.put, List.setIfInBounds_toArray, List.set_cons_zero, List.set_cons_succ]
      refine wpAnyH_take (i := 12) (oi := { dst := some 27, op := Op.load 25 (Operand.tmp 26), type := 25, pos := "ref.go:148", after := #[{ on := 11, ground := Ground.data }], guard := none }) (v := ?_) rfl (by kernel_rfl) (by kernel_rfl) (by kernel_rfl) (fun _ _ _ h => h) (Or.inl ⟨by rfl, ?_⟩) (by assumption) ?_
      rotate_left 1
      · (intro W hSW; (try dsimp only at hSW); first | (go_simp; done) | (go_simp; with_reducible rfl))
      try simp only [Act.put, List.setIfInBounds_toArray, List.set_cons_zero, List.set_cons_succ]
      refine wpAnyH_take (i := 13) (oi := { dst := some 28, op := Op.move (Operand.tmp 6), type := 3, pos := "ref.go:148", after := #[], guard := none }) (v := ?_) rfl (by kernel_rfl) (by kernel_rfl) (by kernel_rfl) (fun _ _ _ h => h) (Or.inl ⟨by rfl, ?_⟩) (by assumption) ?_
      rotate_left 1
      · (intro W hSW; (try dsimp only at hSW); first | (go_simp; done) | (go_simp; with_reducible rfl))
      try simp only [Act.put, List.setIfInBounds_toArray, List.set_cons_zero, List.set_cons_succ]
      refine wpAnyH_take (i := 14) (oi := { dst := some 29, op := Op.indexAddr 25 (Operand.tmp 27) (Operand.tmp 28), type := 0, pos := "ref.go:148", after := #[{ on := 12, ground := Ground.data }, { on := 13, ground := Ground.data }], guard := none }) (v := ?_) rfl (by kernel_rfl) (by kernel_rfl) (by kernel_rfl) (fun _ _ _ h => h) (Or.inl ⟨by rfl, ?_⟩) (by assumption) ?_
      rotate_left 1
      · (intro W hSW; (try dsimp only at hSW); first | (go_simp; done) | (go_simp; with_reducible rfl))
      try simp only [Act.put, List.setIfInBounds_toArray, List.set_cons_zero, List.set_cons_succ]
      refine wpAnyH_take (i := 15) (oi := { dst := some 30, op := Op.load 3 (Operand.tmp 29), type := 3, pos := "ref.go:148", after := #[{ on := 14, ground := Ground.data }], guard := none }) (v := ?_) rfl (by kernel_rfl) (by kernel_rfl) (by kernel_rfl) (fun _ _ _ h => h) (Or.inl ⟨by rfl, ?_⟩) (by assumption) ?_
      rotate_left 1
      · (intro W hSW; (try dsimp only at hSW); first | (go_simp; done) | (go_simp; with_reducible rfl))
      try simp only [Act.put, List.setIfInBounds_toArray, List.set_cons_zero, List.set_cons_succ]
      refine wpAnyH_take (i := 16) (oi := { dst := some 31, op := Op.move (Operand.tmp 0), type := 3, pos := "ref.go:148", after := #[], guard := none }) (v := ?_) rfl (by kernel_rfl) (by kernel_rfl) (by kernel_rfl) (fun _ _ _ h => h) (Or.inl ⟨by rfl, ?_⟩) (by assumption) ?_
      rotate_left 1
      · (intro W hSW; (try dsimp only at hSW); first | (go_simp; done) | (go_simp; with_reducible rfl))
      try simp only [Act.put, List.setIfInBounds_toArray, List.set_cons_zero, List.set_cons_succ]
      refine wpAnyH_take (i := 17) (oi := { dst := some 32, op := Op.binOp BinOp.quo 3 (Operand.tmp 30) (Operand.tmp 31) 3, type := 3, pos := "ref.go:148", after := #[{ on := 15, ground := Ground.data }, { on := 16, ground := Ground.data }], guard := none }) (v := ?_) rfl (by kernel_rfl) (by kernel_rfl) (by kernel_rfl) (fun _ _ _ h => h) (Or.inl ⟨by rfl, ?_⟩) (by assumption) ?_
      rotate_left 1
      · (intro W hSW; (try dsimp only at hSW); first | (go_simp; done) | (go_simp; with_reducible rfl))
      try simp only [Act.put, List.setIfInBounds_toArray, List.set_cons_zero, List.set_cons_succ]
      refine wpAnyH_take (i := 18) (oi := { dst := some 33, op := Op.binOp BinOp.add 3 (Operand.tmp 25) (Operand.tmp 32) 3, type := 3, pos := "ref.go:148", after := #[{ on := 10, ground := Ground.data }, { on := 17, ground := Ground.data }], guard := none }) (v := ?_) rfl (by kernel_rfl) (by kernel_rfl) (by kernel_rfl) (fun _ _ _ h => h) (Or.inl ⟨by rfl, ?_⟩) (by assumption) ?_
      rotate_left 1
      · (intro W hSW; (try dsimp only at hSW); first | (go_simp; done) | (go_simp; with_reducible rfl))
      try simp only [Act.put, List.setIfInBounds_toArray, List.set_cons_zero, List.set_cons_succ]
      refine wpAnyH_ready (rs := [1]) (by kernel_rfl) (by simp) ?_
      refine (AllReadyH.cons (o := { dst := some 16, op := Op.load 25 (Operand.tmp 15), type := 25, pos := "ref.go:148", after := #[{ on := 0, ground := Ground.data }], guard := none }) rfl (fun K hK => ?_) AllReadyH.nil)
      rw [if_pos (by rfl)]
      have hrow := HBX.out.c1
      rw [HP.out.1] at hrow
      go_simp
      clear hrow
      refine hK.out _ _ (HS.out _ hdr) (fun hHeld => ?_)
      clear hK K
      try simp only [Act.put, List.setIfInBounds_toArray, List.set_cons_zero, List.set_cons_succ]
      refine wpAnyH_ready (rs := [19]) (by kernel_rfl) (by simp) ?_
      refine (AllReadyH.cons (o := { dst := some 34, op := Op.call { callee := Callee.value (Operand.func 42), args := #[Operand.tmp 16, Operand.tmp 33], argTypes := #[25, 3] }, type := 25, pos := "ref.go:148", after := #[{ on := 1, ground := Ground.data }, { on := 18, ground := Ground.data }], guard := none }) rfl (fun K hK => ?_) AllReadyH.nil)
      rw [if_pos (by rfl)]
      go_simp
      go_at_call 42
      refine (HAD.out wr.drew (⟨rfl, rfl, rfl, Nat.le_refl _, fun _ _ _ => rfl⟩ : wr.grownBy wr.drew none)).mono ?_
      rintro e wc2 ⟨a', c', rfl, hsA, gc2⟩
      have hgr2 := World.grownBy.trans hdr gc2
      go_wp2_with fail
      refine hK.out _ _ (HS.out _ hgr2) (fun hHeld => ?_)
      clear hK K
      try simp only [Act.put, List.setIfInBounds_toArray, List.set_cons_zero, List.set_cons_succ]
      refine wpAnyH_take (i := 20) (oi := { dst := some 35, op := Op.fieldAddr 27 (Operand.tmp 5) 1, type := 0, pos := "ref.go:148", after := #[{ on := 0, ground := Ground.phase }, { on := 1, ground := Ground.phase }, { on := 2, ground := Ground.phase }, { on := 3, ground := Ground.phase }, { on := 4, ground := Ground.phase }, { on := 5, ground := Ground.phase }, { on := 6, ground := Ground.phase }, { on := 7, ground := Ground.phase }, { on := 8, ground := Ground.phase }, { on := 9, ground := Ground.phase }, { on := 10, ground := Ground.phase }, { on := 11, ground := Ground.phase }, { on := 12, ground := Ground.phase }, { on := 13, ground := Ground.phase }, { on := 14, ground := Ground.phase }, { on := 15, ground := Ground.phase }, { on := 16, ground := Ground.phase }, { on := 17, ground := Ground.phase }, { on := 18, ground := Ground.phase }, { on := 19, ground := Ground.phase }], guard := none }) (v := ?_) rfl (by kernel_rfl) (by kernel_rfl) (by kernel_rfl) (fun _ _ _ h => h) (Or.inl ⟨by rfl, ?_⟩) (by assumption) ?_
      rotate_left 1
      · (intro W hSW; (try dsimp only at hSW); first | (go_simp; done) | (go_simp; with_reducible rfl))
      try simp only [Act.put, List.setIfInBounds_toArray, List.set_cons_zero, List.set_cons_succ]
      refine wpAnyH_ready (rs := [21]) (by kernel_rfl) (by simp) ?_
      refine (AllReadyH.cons (o := { dst := none, op := Op.store 25 (Operand.tmp 35) (Operand.tmp 34), type := 0, pos := "ref.go:148", after := #[{ on := 20, ground := Ground.data }, { on := 19, ground := Ground.data }, { on := 19, ground := Ground.chain }, { on := 0, ground := Ground.phase }, { on := 1, ground := Ground.phase }, { on := 2, ground := Ground.phase }, { on := 3, ground := Ground.phase }, { on := 4, ground := Ground.phase }, { on := 5, ground := Ground.phase }, { on := 6, ground := Ground.phase }, { on := 7, ground := Ground.phase }, { on := 8, ground := Ground.phase }, { on := 9, ground := Ground.phase }, { on := 10, ground := Ground.phase }, { on := 11, ground := Ground.phase }, { on := 12, ground := Ground.phase }, { on := 13, ground := Ground.phase }, { on := 14, ground := Ground.phase }, { on := 15, ground := Ground.phase }, { on := 16, ground := Ground.phase }, { on := 17, ground := Ground.phase }, { on := 18, ground := Ground.phase }, { on := 19, ground := Ground.phase }], guard := none }) rfl (fun K hK => ?_) AllReadyH.nil)
      rw [if_pos (by rfl)]
      have hbg := HBX.out.grown (World.grownBy.trans (⟨rfl, rfl, rfl, Nat.le_refl _, fun _ _ _ => rfl⟩ : wr.grownBy wr.drew none) gc2)
      have q1 := hbg.c1
      have q2 := hbg.f1
      go_simp
      clear q1 q2
      have hst := hbg.set hsA
      rw [HP.out.2] at hst
      have hgs := grown_own hgr2 (grown_set wc2 W.heap.size 1 (.slice a' p2 c')) (fun k hk => by cases hk; exact Nat.le_refl _)
      clear hbg
      refine hK.out _ _ (HS.out _ hgs) (fun hHeld => ?_)
      clear hK K
      try simp only [Act.put, List.setIfInBounds_toArray, List.set_cons_zero, List.set_cons_succ]
      refine wpAnyH_done (by kernel_rfl) ?_ _
      have hEND := hgs
      clear hHeld
      have HE := Lib.hid (And.intro hst hgs)
      clear hst hgs hEND hsA
      go_wp2_with fail
      go_roundg (m - (i + 1))
      case measure => rw [HI.out]; omega
      case rel => exact ⟨i + 1, _, _, rfl, rfl, by omega, HE.out.1, HE.out.2⟩
    · have hie : i = m := by omega
      subst hie
      have hinB : decide (i < i) = false := by simp
      obtain ⟨p, hp⟩ : ∃ p, (ofTo (turnL n xs) i).length = p := ⟨_, rfl⟩
      have r0 := HBX.out.c0
      have r1 := HBX.out.c1
      have hcs := HC.out
      have m0 := HWR.out.cell hcs.2.2.2.1 (by simp)
      have m1 := HWR.out.cell hcs.2.2.2.2.1 (by simp)
      have f0 := (grown_frozen HWR.out (show w.heap.size + 1 < W.heap.size by have := HG.out.2; omega) 0).trans hcs.2.2.2.2.2.1
      have f1 := (grown_frozen HWR.out (show w.heap.size + 1 < W.heap.size by have := HG.out.2; omega) 1).trans hcs.2.2.2.2.2.2
      rw [hp] at r1
      clear hcs
      go_wp2_with fail
      refine bodyPost_ret (results22 _ _ (w.heap.size + 1) va p vc 2 rfl (by rw [World.cell?_setCell_other _ _ _ _ (by intro e; injection e with _ e; cases e)]; exact World.cell?_setCell_same _ _ _ m0) (World.cell?_setCell_same _ _ _ (by rw [World.cell?_setCell_other _ _ _ _ (by intro e; injection e with _ e; cases e)]; exact m1))) rfl ⟨va, vc, by rw [hp], ?_, ?_⟩
      · have hz2 : ((wr.setCell ⟨w.heap.size + 1, 0, none⟩ (.int .i64 2)).setCell ⟨w.heap.size + 1, 1, none⟩ (.slice va p vc)).heap.size = wr.heap.size := by simp [World.setCell]
        have h1 := (HBX.out.sp.off (grown_set _ (w.heap.size + 1) 0 (.int .i64 2)) (fun x e => by cases e; have := HG.out.2; exact .inl (by omega))).off (grown_set _ (w.heap.size + 1) 1 (.slice va p vc)) (fun x e => by cases e; have := HG.out.2; exact .inl (by omega))
        exact h1.wide (by have := HG.out.2; omega) (by rw [hz2]; exact Nat.le_refl _) (Nat.le_refl _)
      · exact grown_own (grown_own (HG.out.1.trans HWR.out) (grown_set _ (w.heap.size + 1) 0 _) (fun k hk => by cases hk; omega)) (grown_set _ (w.heap.size + 1) 1 _) (fun k hk => by cases hk; omega)
end Go.Proofs.Ytkoigonbncpbaaa

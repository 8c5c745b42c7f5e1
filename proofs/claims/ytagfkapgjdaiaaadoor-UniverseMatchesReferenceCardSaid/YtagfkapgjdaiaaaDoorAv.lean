/- The law UniverseMatchesReference: what its calls say. -/
import Derived.Test.YtagfkapgjdaiaaaDoorAf
import Derived.Test.YtagfkapgjdaiaaaDoorI
import Derived.Deep.RegionHeld3
import Derived.Test.YtagfkapgjdaiaaaDoorAn
import Derived.Test.YtagfkapgjdaiaaaDoorAq
import Derived.Test.YtagfkapgjdaiaaaDoorAt
namespace Go.Proofs.YtagfkapgjdaiaaaDoor
open Go.RowKit

/-- The name that Name answers. -/
def nmOf (ss : List ByteArray) (l : List Nat) (x : Int) : ByteArray :=
  if sortI l x < 0 ∨ (ss.length : Int) ≤ sortI l x then ByteArray.empty else nameOf (ss.getD (sortI l x).toNat ByteArray.empty) (x.toNat - sum (l.take (sortI l x).toNat))
theorem nmOf_eq {ss : List ByteArray} {l : List Nat} {x : Int} {s : ByteArray} (h1 : (sortI l x < 0 ∨ (ss.length : Int) ≤ sortI l x) → s = ByteArray.empty)
    (h2 : ∀ (i : Nat) (p : ByteArray), sortI l x = (i : Int) → ss[i]? = some p → s = (p ++ ⟨#[36]⟩) ++ ⟨(Lib.decDigits (x.toNat - sum (l.take i))).toArray⟩) : s = nmOf ss l x := by
  unfold nmOf
  by_cases h : sortI l x < 0 ∨ (ss.length : Int) ≤ sortI l x
  · rw [if_pos h]; exact h1 h
  · rw [if_neg h]
    obtain ⟨k, hk⟩ : ∃ k : Nat, sortI l x = (k : Int) := ⟨(sortI l x).toNat, by omega⟩
    have hkl : k < ss.length := by omega
    rw [h2 k ss[k] hk (List.getElem?_eq_getElem hkl), hk, Int.toNat_natCast, List.getD_eq_getElem?_getD, List.getElem?_eq_getElem hkl]
    rfl
theorem fullL_length {zs : List Nat} (hz : ∀ z ∈ zs, z ≤ 5) (ss : List Int) : (fullL zs ss).length ≤ 125 := by
  unfold fullL
  split
  · rename_i h
    simp only [fits, decide_eq_true_eq] at h
    have h1 := digs_length hz (ss.map Int.toNat) 0
    have h2 : 5 ^ (ss.map Int.toNat).length ≤ 5 ^ 3 := Nat.pow_le_pow_right (by omega) (by rw [List.length_map]; exact h.2.1)
    rw [List.length_map]; omega
  · simp
theorem tupI_length (N : Nat) (k r : Int) : (tupI N k r).length ≤ 3 := by
  unfold tupI
  split
  · simp
  · split
    · simp
    · rw [tupTo_length]; omega
set_option maxRecDepth 100000 in
set_option maxHeartbeats 8000000 in
theorem matchesLaw_calls (hh : HeadSays) (ss : List ByteArray) (sa : Option Addr) (sc : Nat) (a2 : Option Addr) (n2 c2 : Nat) (a3 : Option Addr) (n3 c3 : Nat) (a4 : Option Addr) (n4 c4 : Nat) (zs : List Int) (ua : Option Addr) (uc : Nat) (ust : Int)
    (raw : List Nat) (ra : Option Addr) (rc : Nat) (x : Int) (ts : List Int) (ta : Option Addr) (tc : Nat) (y z : Int) (w : World)
    (hs : Named w sa ss) (hsl : (ss.length : Int) ≤ 9223372036854775807) (hu : Ints w ua uc zs) (hul : (zs.length : Int) ≤ 9223372036854775807) (h : Bytes w ra rc raw) (hl : (raw.length : Int) ≤ 9223372036854775807) (ht : Ints w ta tc ts) (htl : (ts.length : Int) ≤ 9223372036854775807) (hz : -9223372036854775808 ≤ z ∧ z ≤ 9223372036854775807) :
    Calls Tryd.prog 3 #[.agg #[.slice sa ss.length sc, .slice a2 n2 c2, .slice a3 n3 c3, .slice a4 n4 c4], .agg #[.slice ua zs.length uc, .int .i64 ust], .slice ra raw.length rc, .int .i64 x, .slice ta ts.length tc, .int .i64 y, .int .i64 z] w fun e w' => e = .returned (.bool true) ∧ w.grownBy w' none := by
  have HR := Lib.hid (And.intro h (And.intro hl (And.intro hs (And.intro hu (And.intro ht hz))))); clear h hs hu ht hz
  obtain ⟨n, hn⟩ : ∃ n, ss.length = n := ⟨_, rfl⟩
  obtain ⟨un, hun⟩ : ∃ un, zs.length = un := ⟨_, rfl⟩
  obtain ⟨tn, htn⟩ : ∃ tn, ts.length = tn := ⟨_, rfl⟩
  rw [hn] at hsl ⊢
  rw [hun] at hul ⊢
  rw [htn] at htl ⊢
  have HN := Lib.hid (And.intro hn (And.intro hun htn)); clear hn hun htn
  have hq : ∀ w0 : World, (w.alloc (.cells #[.slice sa n sc, .slice a2 n2 c2, .slice a3 n3 c3, .slice a4 n4 c4] 27)).alloc (.cells #[.slice ua un uc, .int .i64 ust] 30) = w0 →
      w.grownBy w0 none ∧ w0.cell? ⟨w.heap.size, 0, none⟩ = some (.slice sa n sc) ∧ w0.cell? ⟨w.heap.size, 1, none⟩ = some (.slice a2 n2 c2) ∧ w0.cell? ⟨w.heap.size, 2, none⟩ = some (.slice a3 n3 c3) ∧ w0.cell? ⟨w.heap.size, 3, none⟩ = some (.slice a4 n4 c4) ∧ w0.cell? ⟨w.heap.size + 1, 0, none⟩ = some (.slice ua un uc) ∧ w0.cell? ⟨w.heap.size + 1, 1, none⟩ = some (.int .i64 ust) := fun w0 hw => by
    rw [← hw]
    exact ⟨(World.grownBy_alloc _ _ none).trans (World.grownBy_alloc _ _ none), by clear hw; go_simp, by clear hw; go_simp, by clear hw; go_simp, by clear hw; go_simp, by clear hw; go_simp, by clear hw; go_simp⟩
  go_enter Tryd.func3, Tryd.ntmps3
  go_wp2_with fail
  obtain ⟨w0, hw0⟩ : ∃ w0, (w.alloc (.cells #[.slice sa n sc, .slice a2 n2 c2, .slice a3 n3 c3, .slice a4 n4 c4] 27)).alloc (.cells #[.slice ua un uc, .int .i64 ust] 30) = w0 := ⟨_, rfl⟩
  have hq := hq w0 hw0
  obtain ⟨b, hb⟩ : ∃ b, w.heap.size = b := ⟨_, rfl⟩
  rw [hb] at hq ⊢
  rw [hw0]
  have HB := Lib.hid hb
  clear hw0 hb
  refine (hh w0).mono ?_
  rintro e w1 ⟨rfl, g1⟩
  have HW1 := Lib.hid (hq.1.trans g1)
  have HS := Lib.hid (fun (W : World) (hW : w1.grownBy W none) => (⟨hW, hW.cell (g1.cell hq.2.1 (by simp)) (by simp), hW.cell (g1.cell hq.2.2.1 (by simp)) (by simp), hW.cell (g1.cell hq.2.2.2.1 (by simp)) (by simp), hW.cell (g1.cell hq.2.2.2.2.1 (by simp)) (by simp), hW.cell (g1.cell hq.2.2.2.2.2.1 (by simp)) (by simp), hW.cell (g1.cell hq.2.2.2.2.2.2 (by simp)) (by simp)⟩ :
    w1.grownBy W none ∧ W.cell? ⟨b, 0, none⟩ = some (.slice sa n sc) ∧ W.cell? ⟨b, 1, none⟩ = some (.slice a2 n2 c2) ∧ W.cell? ⟨b, 2, none⟩ = some (.slice a3 n3 c3) ∧ W.cell? ⟨b, 3, none⟩ = some (.slice a4 n4 c4) ∧ W.cell? ⟨b + 1, 0, none⟩ = some (.slice ua un uc) ∧ W.cell? ⟨b + 1, 1, none⟩ = some (.int .i64 ust)))
  clear hq g1
  have HC10 := Lib.hid (fun (W : World) (hW : w1.grownBy W none) => by
    have hf := great_calls ss sa sc a2 a3 a4 n2 c2 n3 c3 n4 c4 W (HR.out.2.2.1.grown (HW1.out.trans hW)) (by rw [HN.out.1]; exact hsl)
    rw [HN.out.1] at hf
    exact hf)
  obtain ⟨G, hG⟩ : ∃ G, great ss = G := ⟨_, rfl⟩
  rw [hG] at HC10
  have HG := Lib.hid hG; clear hG
  cases G with
  | true =>
    obtain ⟨_, p0, p1, p2, p3, p4, p5⟩ := HS.out w1 (grown_refl _ _)
    go_wp2_with fail
    have hdr : w1.grownBy w1.drew none := ⟨rfl, rfl, rfl, Nat.le_refl _, fun _ _ _ => rfl⟩
    refine wp_region_held_drew (S := (fun W : World => w1.grownBy W none ∧ W.cell? ⟨b, 0, none⟩ = some (.slice sa n sc) ∧ W.cell? ⟨b, 1, none⟩ = some (.slice a2 n2 c2) ∧ W.cell? ⟨b, 2, none⟩ = some (.slice a3 n3 c3) ∧ W.cell? ⟨b, 3, none⟩ = some (.slice a4 n4 c4) ∧ W.cell? ⟨b + 1, 0, none⟩ = some (.slice ua un uc) ∧ W.cell? ⟨b + 1, 1, none⟩ = some (.int .i64 ust))) (by kernel_rfl) (HS.out _ hdr) (fun hHeld => ?_)
    refine wpAnyH_take (i := 0) (oi := { dst := some 19, op := Op.load 27 (Operand.tmp 7), type := 27, pos := "law.go:45", after := #[], guard := none }) (v := ?vT1x0) rfl (by kernel_rfl) (by kernel_rfl) (by kernel_rfl) (fun _ _ _ h => h) (Or.inl ⟨by rfl, ?yT1x0⟩) (by assumption) ?rT1x0
    case yT1x0 => (intro W hSW; (try dsimp only at hSW); first | (go_simp; done) | (go_simp; with_reducible rfl))
    try simp only [Act.put, List.setIfInBounds_toArray, List.set_cons_zero, List.set_cons_succ]
    refine wpAnyH_ready (rs := [1]) (by kernel_rfl) (by simp) ?_
    refine AllReadyH.cons (o := { dst := some 20, op := Op.call { callee := Callee.value (Operand.func 10), args := #[Operand.tmp 19], argTypes := #[27] }, type := 4, pos := "law.go:45", after := #[{ on := 0, ground := Ground.data }], guard := none }) rfl (fun K hK => ?_) AllReadyH.nil
    go_simp
    go_at_call 10
    refine (HC10.out _ hdr).mono ?_
    rintro e w3 ⟨rfl, g3⟩
    go_wp2_with fail
    refine hK.out _ _ (HS.out _ (hdr.trans g3)) (fun hHeld => ?_)
    clear hK K
    try simp only [Act.put, List.setIfInBounds_toArray, List.set_cons_zero, List.set_cons_succ]
    refine wpAnyH_take (i := 2) (oi := { dst := some 21, op := Op.move (Operand.tmp 20), type := 4, pos := "law.go:45", after := #[{ on := 1, ground := Ground.data }, { on := 1, ground := Ground.chain }], guard := none }) (v := ?vT1x2) rfl (by kernel_rfl) (by kernel_rfl) (by kernel_rfl) (fun _ _ _ h => h) (Or.inl ⟨by rfl, ?yT1x2⟩) (by assumption) ?rT1x2
    case yT1x2 => (intro W hSW; (try dsimp only at hSW); first | (go_simp; done) | (go_simp; with_reducible rfl))
    try simp only [Act.put, List.setIfInBounds_toArray, List.set_cons_zero, List.set_cons_succ]
    refine wpAnyH_take (i := 3) (oi := { dst := some 22, op := Op.fieldAddr 30 (Operand.tmp 8) 0, type := 0, pos := "law.go:45", after := #[{ on := 2, ground := Ground.guard }], guard := some (2, false) }) (v := undef) rfl (by kernel_rfl) (by kernel_rfl) (by kernel_rfl) (fun _ _ _ h => h) (Or.inr ⟨by rfl, rfl⟩) (by assumption) ?_
    try simp only [Act.put, List.setIfInBounds_toArray, List.set_cons_zero, List.set_cons_succ]
    refine wpAnyH_take (i := 4) (oi := { dst := some 23, op := Op.load 28 (Operand.tmp 22), type := 28, pos := "law.go:45", after := #[{ on := 3, ground := Ground.data }, { on := 2, ground := Ground.guard }], guard := some (2, false) }) (v := undef) rfl (by kernel_rfl) (by kernel_rfl) (by kernel_rfl) (fun _ _ _ h => h) (Or.inr ⟨by rfl, rfl⟩) (by assumption) ?_
    try simp only [Act.put, List.setIfInBounds_toArray, List.set_cons_zero, List.set_cons_succ]
    refine wpAnyH_take (i := 5) (oi := { dst := some 24, op := Op.call { callee := Callee.builtin Builtin.len, args := #[Operand.tmp 23], argTypes := #[28] }, type := 3, pos := "law.go:45", after := #[{ on := 4, ground := Ground.data }, { on := 2, ground := Ground.guard }], guard := some (2, false) }) (v := undef) rfl (by kernel_rfl) (by kernel_rfl) (by kernel_rfl) (fun _ _ _ h => h) (Or.inr ⟨by rfl, rfl⟩) (by assumption) ?_
    try simp only [Act.put, List.setIfInBounds_toArray, List.set_cons_zero, List.set_cons_succ]
    refine wpAnyH_take (i := 6) (oi := { dst := some 25, op := Op.binOp BinOp.gtr 3 (Operand.tmp 24) (Operand.const (Value.int IntKind.i64 20)) 3, type := 4, pos := "law.go:45", after := #[{ on := 5, ground := Ground.data }, { on := 2, ground := Ground.guard }], guard := some (2, false) }) (v := undef) rfl (by kernel_rfl) (by kernel_rfl) (by kernel_rfl) (fun _ _ _ h => h) (Or.inr ⟨by rfl, rfl⟩) (by assumption) ?_
    try simp only [Act.put, List.setIfInBounds_toArray, List.set_cons_zero, List.set_cons_succ]
    refine wpAnyH_take (i := 7) (oi := { dst := some 26, op := Op.pick (Operand.tmp 21) (Operand.const (Value.bool true)) (Operand.tmp 25), type := 4, pos := "law.go:45", after := #[{ on := 2, ground := Ground.data }, { on := 6, ground := Ground.data }], guard := none }) (v := ?vT1x7) rfl (by kernel_rfl) (by kernel_rfl) (by kernel_rfl) (fun _ _ _ h => h) (Or.inl ⟨by rfl, ?yT1x7⟩) (by assumption) ?rT1x7
    case yT1x7 => (intro W hSW; (try dsimp only at hSW); first | (go_simp; done) | (go_simp; with_reducible rfl))
    try simp only [Act.put, List.setIfInBounds_toArray, List.set_cons_zero, List.set_cons_succ]
    refine wpAnyH_take (i := 8) (oi := { dst := some 27, op := Op.move (Operand.tmp 26), type := 4, pos := "law.go:45", after := #[{ on := 7, ground := Ground.data }, { on := 2, ground := Ground.chain }], guard := none }) (v := ?vT1x8) rfl (by kernel_rfl) (by kernel_rfl) (by kernel_rfl) (fun _ _ _ h => h) (Or.inl ⟨by rfl, ?yT1x8⟩) (by assumption) ?rT1x8
    case yT1x8 => (intro W hSW; (try dsimp only at hSW); first | (go_simp; done) | (go_simp; with_reducible rfl))
    try simp only [Act.put, List.setIfInBounds_toArray, List.set_cons_zero, List.set_cons_succ]
    refine wpAnyH_take (i := 9) (oi := { dst := some 28, op := Op.move (Operand.tmp 4), type := 28, pos := "law.go:45", after := #[{ on := 8, ground := Ground.guard }], guard := some (8, false) }) (v := undef) rfl (by kernel_rfl) (by kernel_rfl) (by kernel_rfl) (fun _ _ _ h => h) (Or.inr ⟨by rfl, rfl⟩) (by assumption) ?_
    try simp only [Act.put, List.setIfInBounds_toArray, List.set_cons_zero, List.set_cons_succ]
    refine wpAnyH_take (i := 10) (oi := { dst := some 29, op := Op.call { callee := Callee.builtin Builtin.len, args := #[Operand.tmp 28], argTypes := #[28] }, type := 3, pos := "law.go:45", after := #[{ on := 9, ground := Ground.data }, { on := 8, ground := Ground.guard }], guard := some (8, false) }) (v := undef) rfl (by kernel_rfl) (by kernel_rfl) (by kernel_rfl) (fun _ _ _ h => h) (Or.inr ⟨by rfl, rfl⟩) (by assumption) ?_
    try simp only [Act.put, List.setIfInBounds_toArray, List.set_cons_zero, List.set_cons_succ]
    refine wpAnyH_take (i := 11) (oi := { dst := some 30, op := Op.binOp BinOp.gtr 3 (Operand.tmp 29) (Operand.const (Value.int IntKind.i64 20)) 3, type := 4, pos := "law.go:45", after := #[{ on := 10, ground := Ground.data }, { on := 8, ground := Ground.guard }], guard := some (8, false) }) (v := undef) rfl (by kernel_rfl) (by kernel_rfl) (by kernel_rfl) (fun _ _ _ h => h) (Or.inr ⟨by rfl, rfl⟩) (by assumption) ?_
    try simp only [Act.put, List.setIfInBounds_toArray, List.set_cons_zero, List.set_cons_succ]
    refine wpAnyH_take (i := 12) (oi := { dst := some 31, op := Op.pick (Operand.tmp 27) (Operand.const (Value.bool true)) (Operand.tmp 30), type := 4, pos := "law.go:45", after := #[{ on := 8, ground := Ground.data }, { on := 11, ground := Ground.data }], guard := none }) (v := ?vT1x12) rfl (by kernel_rfl) (by kernel_rfl) (by kernel_rfl) (fun _ _ _ h => h) (Or.inl ⟨by rfl, ?yT1x12⟩) (by assumption) ?rT1x12
    case yT1x12 => (intro W hSW; (try dsimp only at hSW); first | (go_simp; done) | (go_simp; with_reducible rfl))
    try simp only [Act.put, List.setIfInBounds_toArray, List.set_cons_zero, List.set_cons_succ]
    refine wpAnyH_take (i := 13) (oi := { dst := some 32, op := Op.move (Operand.tmp 31), type := 4, pos := "law.go:45", after := #[{ on := 12, ground := Ground.data }, { on := 8, ground := Ground.chain }], guard := none }) (v := ?vT1x13) rfl (by kernel_rfl) (by kernel_rfl) (by kernel_rfl) (fun _ _ _ h => h) (Or.inl ⟨by rfl, ?yT1x13⟩) (by assumption) ?rT1x13
    case yT1x13 => (intro W hSW; (try dsimp only at hSW); first | (go_simp; done) | (go_simp; with_reducible rfl))
    try simp only [Act.put, List.setIfInBounds_toArray, List.set_cons_zero, List.set_cons_succ]
    refine wpAnyH_take (i := 14) (oi := { dst := some 33, op := Op.load 27 (Operand.tmp 7), type := 27, pos := "law.go:45", after := #[{ on := 13, ground := Ground.guard }], guard := some (13, false) }) (v := undef) rfl (by kernel_rfl) (by kernel_rfl) (by kernel_rfl) (fun _ _ _ h => h) (Or.inr ⟨by rfl, rfl⟩) (by assumption) ?_
    try simp only [Act.put, List.setIfInBounds_toArray, List.set_cons_zero, List.set_cons_succ]
    refine wpAnyH_take (i := 15) (oi := { dst := some 34, op := Op.load 30 (Operand.tmp 8), type := 30, pos := "law.go:45", after := #[{ on := 13, ground := Ground.guard }], guard := some (13, false) }) (v := undef) rfl (by kernel_rfl) (by kernel_rfl) (by kernel_rfl) (fun _ _ _ h => h) (Or.inr ⟨by rfl, rfl⟩) (by assumption) ?_
    try simp only [Act.put, List.setIfInBounds_toArray, List.set_cons_zero, List.set_cons_succ]
    refine wpAnyH_take (i := 16) (oi := { dst := some 35, op := Op.call { callee := Callee.value (Operand.func 11), args := #[Operand.tmp 33, Operand.tmp 34], argTypes := #[27, 30] }, type := 4, pos := "law.go:45", after := #[{ on := 14, ground := Ground.data }, { on := 15, ground := Ground.data }, { on := 13, ground := Ground.chain }, { on := 13, ground := Ground.guard }], guard := some (13, false) }) (v := undef) rfl (by kernel_rfl) (by kernel_rfl) (by kernel_rfl) (fun _ _ _ h => h) (Or.inr ⟨by rfl, rfl⟩) (by assumption) ?_
    try simp only [Act.put, List.setIfInBounds_toArray, List.set_cons_zero, List.set_cons_succ]
    refine wpAnyH_take (i := 17) (oi := { dst := some 36, op := Op.load 27 (Operand.tmp 7), type := 27, pos := "law.go:45", after := #[{ on := 13, ground := Ground.guard }], guard := some (13, false) }) (v := undef) rfl (by kernel_rfl) (by kernel_rfl) (by kernel_rfl) (fun _ _ _ h => h) (Or.inr ⟨by rfl, rfl⟩) (by assumption) ?_
    try simp only [Act.put, List.setIfInBounds_toArray, List.set_cons_zero, List.set_cons_succ]
    refine wpAnyH_take (i := 18) (oi := { dst := some 37, op := Op.load 30 (Operand.tmp 8), type := 30, pos := "law.go:45", after := #[{ on := 13, ground := Ground.guard }], guard := some (13, false) }) (v := undef) rfl (by kernel_rfl) (by kernel_rfl) (by kernel_rfl) (fun _ _ _ h => h) (Or.inr ⟨by rfl, rfl⟩) (by assumption) ?_
    try simp only [Act.put, List.setIfInBounds_toArray, List.set_cons_zero, List.set_cons_succ]
    refine wpAnyH_take (i := 19) (oi := { dst := some 38, op := Op.call { callee := Callee.value (Operand.func 12), args := #[Operand.tmp 36, Operand.tmp 37], argTypes := #[27, 30] }, type := 4, pos := "law.go:45", after := #[{ on := 17, ground := Ground.data }, { on := 18, ground := Ground.data }, { on := 16, ground := Ground.chain }, { on := 13, ground := Ground.guard }], guard := some (13, false) }) (v := undef) rfl (by kernel_rfl) (by kernel_rfl) (by kernel_rfl) (fun _ _ _ h => h) (Or.inr ⟨by rfl, rfl⟩) (by assumption) ?_
    try simp only [Act.put, List.setIfInBounds_toArray, List.set_cons_zero, List.set_cons_succ]
    refine wpAnyH_take (i := 20) (oi := { dst := some 39, op := Op.binOp BinOp.neq 4 (Operand.tmp 35) (Operand.tmp 38) 4, type := 4, pos := "law.go:45", after := #[{ on := 16, ground := Ground.data }, { on := 19, ground := Ground.data }, { on := 13, ground := Ground.guard }], guard := some (13, false) }) (v := undef) rfl (by kernel_rfl) (by kernel_rfl) (by kernel_rfl) (fun _ _ _ h => h) (Or.inr ⟨by rfl, rfl⟩) (by assumption) ?_
    try simp only [Act.put, List.setIfInBounds_toArray, List.set_cons_zero, List.set_cons_succ]
    refine wpAnyH_take (i := 21) (oi := { dst := some 40, op := Op.pick (Operand.tmp 32) (Operand.const (Value.bool true)) (Operand.tmp 39), type := 4, pos := "law.go:45", after := #[{ on := 13, ground := Ground.data }, { on := 20, ground := Ground.data }], guard := none }) (v := ?vT1x21) rfl (by kernel_rfl) (by kernel_rfl) (by kernel_rfl) (fun _ _ _ h => h) (Or.inl ⟨by rfl, ?yT1x21⟩) (by assumption) ?rT1x21
    case yT1x21 => (intro W hSW; (try dsimp only at hSW); first | (go_simp; done) | (go_simp; with_reducible rfl))
    try simp only [Act.put, List.setIfInBounds_toArray, List.set_cons_zero, List.set_cons_succ]
    refine wpAnyH_done (by kernel_rfl) ?_ _
    have HG3 := Lib.hid (hdr.trans g3); clear hHeld hdr g3 p0 p1 p2 p3 p4 p5
    obtain ⟨_, p0, p1, p2, p3, p4, p5⟩ := HS.out _ HG3.out
    go_wp2_with fail
    refine (HC10.out _ HG3.out).mono ?_
    rintro e w4 ⟨rfl, g4⟩
    have HG4 := Lib.hid (HG3.out.trans g4); clear g4 p0 p1 p2 p3 p4 p5
    obtain ⟨_, p0, p1, p2, p3, p4, p5⟩ := HS.out _ HG4.out
    go_wp2_with fail
    go_ret
    exact ⟨rfl, HW1.out.trans HG4.out⟩
  | false =>
    by_cases hun20 : 20 < un
    · have d1 : decide ((20 : Int) < (un : Int)) = true := by simp; omega
      have d1' : decide (20 < un) = true := by simpa using hun20
      obtain ⟨_, p0, p1, p2, p3, p4, p5⟩ := HS.out w1 (grown_refl _ _)
      go_wp2_with fail
      have hdr : w1.grownBy w1.drew none := ⟨rfl, rfl, rfl, Nat.le_refl _, fun _ _ _ => rfl⟩
      refine wp_region_held_drew (S := (fun W : World => w1.grownBy W none ∧ W.cell? ⟨b, 0, none⟩ = some (.slice sa n sc) ∧ W.cell? ⟨b, 1, none⟩ = some (.slice a2 n2 c2) ∧ W.cell? ⟨b, 2, none⟩ = some (.slice a3 n3 c3) ∧ W.cell? ⟨b, 3, none⟩ = some (.slice a4 n4 c4) ∧ W.cell? ⟨b + 1, 0, none⟩ = some (.slice ua un uc) ∧ W.cell? ⟨b + 1, 1, none⟩ = some (.int .i64 ust))) (by kernel_rfl) (HS.out _ hdr) (fun hHeld => ?_)
      refine wpAnyH_take (i := 0) (oi := { dst := some 19, op := Op.load 27 (Operand.tmp 7), type := 27, pos := "law.go:45", after := #[], guard := none }) (v := ?vT2x0) rfl (by kernel_rfl) (by kernel_rfl) (by kernel_rfl) (fun _ _ _ h => h) (Or.inl ⟨by rfl, ?yT2x0⟩) (by assumption) ?rT2x0
      case yT2x0 => (intro W hSW; (try dsimp only at hSW); first | (go_simp; done) | (go_simp; with_reducible rfl))
      try simp only [Act.put, List.setIfInBounds_toArray, List.set_cons_zero, List.set_cons_succ]
      refine wpAnyH_ready (rs := [1]) (by kernel_rfl) (by simp) ?_
      refine AllReadyH.cons (o := { dst := some 20, op := Op.call { callee := Callee.value (Operand.func 10), args := #[Operand.tmp 19], argTypes := #[27] }, type := 4, pos := "law.go:45", after := #[{ on := 0, ground := Ground.data }], guard := none }) rfl (fun K hK => ?_) AllReadyH.nil
      go_simp
      go_at_call 10
      refine (HC10.out _ hdr).mono ?_
      rintro e w3 ⟨rfl, g3⟩
      go_wp2_with fail
      refine hK.out _ _ (HS.out _ (hdr.trans g3)) (fun hHeld => ?_)
      clear hK K
      try simp only [Act.put, List.setIfInBounds_toArray, List.set_cons_zero, List.set_cons_succ]
      refine wpAnyH_take (i := 2) (oi := { dst := some 21, op := Op.move (Operand.tmp 20), type := 4, pos := "law.go:45", after := #[{ on := 1, ground := Ground.data }, { on := 1, ground := Ground.chain }], guard := none }) (v := ?vT2x2) rfl (by kernel_rfl) (by kernel_rfl) (by kernel_rfl) (fun _ _ _ h => h) (Or.inl ⟨by rfl, ?yT2x2⟩) (by assumption) ?rT2x2
      case yT2x2 => (intro W hSW; (try dsimp only at hSW); first | (go_simp; done) | (go_simp; with_reducible rfl))
      try simp only [Act.put, List.setIfInBounds_toArray, List.set_cons_zero, List.set_cons_succ]
      refine wpAnyH_take (i := 3) (oi := { dst := some 22, op := Op.fieldAddr 30 (Operand.tmp 8) 0, type := 0, pos := "law.go:45", after := #[{ on := 2, ground := Ground.guard }], guard := some (2, false) }) (v := ?vT2x3) rfl (by kernel_rfl) (by kernel_rfl) (by kernel_rfl) (fun _ _ _ h => h) (Or.inl ⟨by rfl, ?yT2x3⟩) (by assumption) ?rT2x3
      case yT2x3 => (intro W hSW; (try dsimp only at hSW); first | (go_simp; done) | (go_simp; with_reducible rfl))
      try simp only [Act.put, List.setIfInBounds_toArray, List.set_cons_zero, List.set_cons_succ]
      refine wpAnyH_take (i := 4) (oi := { dst := some 23, op := Op.load 28 (Operand.tmp 22), type := 28, pos := "law.go:45", after := #[{ on := 3, ground := Ground.data }, { on := 2, ground := Ground.guard }], guard := some (2, false) }) (v := ?vT2x4) rfl (by kernel_rfl) (by kernel_rfl) (by kernel_rfl) (fun _ _ _ h => h) (Or.inl ⟨by rfl, ?yT2x4⟩) (by assumption) ?rT2x4
      case yT2x4 => (intro W hSW; (try dsimp only at hSW); first | (go_simp; done) | (go_simp; with_reducible rfl))
      try simp only [Act.put, List.setIfInBounds_toArray, List.set_cons_zero, List.set_cons_succ]
      refine wpAnyH_take (i := 5) (oi := { dst := some 24, op := Op.call { callee := Callee.builtin Builtin.len, args := #[Operand.tmp 23], argTypes := #[28] }, type := 3, pos := "law.go:45", after := #[{ on := 4, ground := Ground.data }, { on := 2, ground := Ground.guard }], guard := some (2, false) }) (v := ?vT2x5) rfl (by kernel_rfl) (by kernel_rfl) (by kernel_rfl) (fun _ _ _ h => h) (Or.inl ⟨by rfl, ?yT2x5⟩) (by assumption) ?rT2x5
      case yT2x5 => (intro W hSW; (try dsimp only at hSW); first | (go_simp; done) | (go_simp; with_reducible rfl))
      try simp only [Act.put, List.setIfInBounds_toArray, List.set_cons_zero, List.set_cons_succ]
      refine wpAnyH_take (i := 6) (oi := { dst := some 25, op := Op.binOp BinOp.gtr 3 (Operand.tmp 24) (Operand.const (Value.int IntKind.i64 20)) 3, type := 4, pos := "law.go:45", after := #[{ on := 5, ground := Ground.data }, { on := 2, ground := Ground.guard }], guard := some (2, false) }) (v := ?vT2x6) rfl (by kernel_rfl) (by kernel_rfl) (by kernel_rfl) (fun _ _ _ h => h) (Or.inl ⟨by rfl, ?yT2x6⟩) (by assumption) ?rT2x6
      case yT2x6 => (intro W hSW; (try dsimp only at hSW); first | (go_simp; done) | (go_simp; with_reducible rfl))
      try simp only [Act.put, List.setIfInBounds_toArray, List.set_cons_zero, List.set_cons_succ]
      refine wpAnyH_take (i := 7) (oi := { dst := some 26, op := Op.pick (Operand.tmp 21) (Operand.const (Value.bool true)) (Operand.tmp 25), type := 4, pos := "law.go:45", after := #[{ on := 2, ground := Ground.data }, { on := 6, ground := Ground.data }], guard := none }) (v := ?vT2x7) rfl (by kernel_rfl) (by kernel_rfl) (by kernel_rfl) (fun _ _ _ h => h) (Or.inl ⟨by rfl, ?yT2x7⟩) (by assumption) ?rT2x7
      case yT2x7 => (intro W hSW; (try dsimp only at hSW); first | (go_simp; done) | (go_simp; with_reducible rfl))
      try simp only [Act.put, List.setIfInBounds_toArray, List.set_cons_zero, List.set_cons_succ]
      refine wpAnyH_take (i := 8) (oi := { dst := some 27, op := Op.move (Operand.tmp 26), type := 4, pos := "law.go:45", after := #[{ on := 7, ground := Ground.data }, { on := 2, ground := Ground.chain }], guard := none }) (v := ?vT2x8) rfl (by kernel_rfl) (by kernel_rfl) (by kernel_rfl) (fun _ _ _ h => h) (Or.inl ⟨by rfl, ?yT2x8⟩) (by assumption) ?rT2x8
      case yT2x8 => (intro W hSW; (try dsimp only at hSW); first | (go_simp; done) | (go_simp; with_reducible rfl))
      try simp only [Act.put, List.setIfInBounds_toArray, List.set_cons_zero, List.set_cons_succ]
      refine wpAnyH_take (i := 9) (oi := { dst := some 28, op := Op.move (Operand.tmp 4), type := 28, pos := "law.go:45", after := #[{ on := 8, ground := Ground.guard }], guard := some (8, false) }) (v := undef) rfl (by kernel_rfl) (by kernel_rfl) (by kernel_rfl) (fun _ _ _ h => h) (Or.inr ⟨by rfl, rfl⟩) (by assumption) ?_
      try simp only [Act.put, List.setIfInBounds_toArray, List.set_cons_zero, List.set_cons_succ]
      refine wpAnyH_take (i := 10) (oi := { dst := some 29, op := Op.call { callee := Callee.builtin Builtin.len, args := #[Operand.tmp 28], argTypes := #[28] }, type := 3, pos := "law.go:45", after := #[{ on := 9, ground := Ground.data }, { on := 8, ground := Ground.guard }], guard := some (8, false) }) (v := undef) rfl (by kernel_rfl) (by kernel_rfl) (by kernel_rfl) (fun _ _ _ h => h) (Or.inr ⟨by rfl, rfl⟩) (by assumption) ?_
      try simp only [Act.put, List.setIfInBounds_toArray, List.set_cons_zero, List.set_cons_succ]
      refine wpAnyH_take (i := 11) (oi := { dst := some 30, op := Op.binOp BinOp.gtr 3 (Operand.tmp 29) (Operand.const (Value.int IntKind.i64 20)) 3, type := 4, pos := "law.go:45", after := #[{ on := 10, ground := Ground.data }, { on := 8, ground := Ground.guard }], guard := some (8, false) }) (v := undef) rfl (by kernel_rfl) (by kernel_rfl) (by kernel_rfl) (fun _ _ _ h => h) (Or.inr ⟨by rfl, rfl⟩) (by assumption) ?_
      try simp only [Act.put, List.setIfInBounds_toArray, List.set_cons_zero, List.set_cons_succ]
      refine wpAnyH_take (i := 12) (oi := { dst := some 31, op := Op.pick (Operand.tmp 27) (Operand.const (Value.bool true)) (Operand.tmp 30), type := 4, pos := "law.go:45", after := #[{ on := 8, ground := Ground.data }, { on := 11, ground := Ground.data }], guard := none }) (v := ?vT2x12) rfl (by kernel_rfl) (by kernel_rfl) (by kernel_rfl) (fun _ _ _ h => h) (Or.inl ⟨by rfl, ?yT2x12⟩) (by assumption) ?rT2x12
      case yT2x12 => (intro W hSW; (try dsimp only at hSW); first | (go_simp; done) | (go_simp; with_reducible rfl))
      try simp only [Act.put, List.setIfInBounds_toArray, List.set_cons_zero, List.set_cons_succ]
      refine wpAnyH_take (i := 13) (oi := { dst := some 32, op := Op.move (Operand.tmp 31), type := 4, pos := "law.go:45", after := #[{ on := 12, ground := Ground.data }, { on := 8, ground := Ground.chain }], guard := none }) (v := ?vT2x13) rfl (by kernel_rfl) (by kernel_rfl) (by kernel_rfl) (fun _ _ _ h => h) (Or.inl ⟨by rfl, ?yT2x13⟩) (by assumption) ?rT2x13
      case yT2x13 => (intro W hSW; (try dsimp only at hSW); first | (go_simp; done) | (go_simp; with_reducible rfl))
      try simp only [Act.put, List.setIfInBounds_toArray, List.set_cons_zero, List.set_cons_succ]
      refine wpAnyH_take (i := 14) (oi := { dst := some 33, op := Op.load 27 (Operand.tmp 7), type := 27, pos := "law.go:45", after := #[{ on := 13, ground := Ground.guard }], guard := some (13, false) }) (v := undef) rfl (by kernel_rfl) (by kernel_rfl) (by kernel_rfl) (fun _ _ _ h => h) (Or.inr ⟨by rfl, rfl⟩) (by assumption) ?_
      try simp only [Act.put, List.setIfInBounds_toArray, List.set_cons_zero, List.set_cons_succ]
      refine wpAnyH_take (i := 15) (oi := { dst := some 34, op := Op.load 30 (Operand.tmp 8), type := 30, pos := "law.go:45", after := #[{ on := 13, ground := Ground.guard }], guard := some (13, false) }) (v := undef) rfl (by kernel_rfl) (by kernel_rfl) (by kernel_rfl) (fun _ _ _ h => h) (Or.inr ⟨by rfl, rfl⟩) (by assumption) ?_
      try simp only [Act.put, List.setIfInBounds_toArray, List.set_cons_zero, List.set_cons_succ]
      refine wpAnyH_take (i := 16) (oi := { dst := some 35, op := Op.call { callee := Callee.value (Operand.func 11), args := #[Operand.tmp 33, Operand.tmp 34], argTypes := #[27, 30] }, type := 4, pos := "law.go:45", after := #[{ on := 14, ground := Ground.data }, { on := 15, ground := Ground.data }, { on := 13, ground := Ground.chain }, { on := 13, ground := Ground.guard }], guard := some (13, false) }) (v := undef) rfl (by kernel_rfl) (by kernel_rfl) (by kernel_rfl) (fun _ _ _ h => h) (Or.inr ⟨by rfl, rfl⟩) (by assumption) ?_
      try simp only [Act.put, List.setIfInBounds_toArray, List.set_cons_zero, List.set_cons_succ]
      refine wpAnyH_take (i := 17) (oi := { dst := some 36, op := Op.load 27 (Operand.tmp 7), type := 27, pos := "law.go:45", after := #[{ on := 13, ground := Ground.guard }], guard := some (13, false) }) (v := undef) rfl (by kernel_rfl) (by kernel_rfl) (by kernel_rfl) (fun _ _ _ h => h) (Or.inr ⟨by rfl, rfl⟩) (by assumption) ?_
      try simp only [Act.put, List.setIfInBounds_toArray, List.set_cons_zero, List.set_cons_succ]
      refine wpAnyH_take (i := 18) (oi := { dst := some 37, op := Op.load 30 (Operand.tmp 8), type := 30, pos := "law.go:45", after := #[{ on := 13, ground := Ground.guard }], guard := some (13, false) }) (v := undef) rfl (by kernel_rfl) (by kernel_rfl) (by kernel_rfl) (fun _ _ _ h => h) (Or.inr ⟨by rfl, rfl⟩) (by assumption) ?_
      try simp only [Act.put, List.setIfInBounds_toArray, List.set_cons_zero, List.set_cons_succ]
      refine wpAnyH_take (i := 19) (oi := { dst := some 38, op := Op.call { callee := Callee.value (Operand.func 12), args := #[Operand.tmp 36, Operand.tmp 37], argTypes := #[27, 30] }, type := 4, pos := "law.go:45", after := #[{ on := 17, ground := Ground.data }, { on := 18, ground := Ground.data }, { on := 16, ground := Ground.chain }, { on := 13, ground := Ground.guard }], guard := some (13, false) }) (v := undef) rfl (by kernel_rfl) (by kernel_rfl) (by kernel_rfl) (fun _ _ _ h => h) (Or.inr ⟨by rfl, rfl⟩) (by assumption) ?_
      try simp only [Act.put, List.setIfInBounds_toArray, List.set_cons_zero, List.set_cons_succ]
      refine wpAnyH_take (i := 20) (oi := { dst := some 39, op := Op.binOp BinOp.neq 4 (Operand.tmp 35) (Operand.tmp 38) 4, type := 4, pos := "law.go:45", after := #[{ on := 16, ground := Ground.data }, { on := 19, ground := Ground.data }, { on := 13, ground := Ground.guard }], guard := some (13, false) }) (v := undef) rfl (by kernel_rfl) (by kernel_rfl) (by kernel_rfl) (fun _ _ _ h => h) (Or.inr ⟨by rfl, rfl⟩) (by assumption) ?_
      try simp only [Act.put, List.setIfInBounds_toArray, List.set_cons_zero, List.set_cons_succ]
      refine wpAnyH_take (i := 21) (oi := { dst := some 40, op := Op.pick (Operand.tmp 32) (Operand.const (Value.bool true)) (Operand.tmp 39), type := 4, pos := "law.go:45", after := #[{ on := 13, ground := Ground.data }, { on := 20, ground := Ground.data }], guard := none }) (v := ?vT2x21) rfl (by kernel_rfl) (by kernel_rfl) (by kernel_rfl) (fun _ _ _ h => h) (Or.inl ⟨by rfl, ?yT2x21⟩) (by assumption) ?rT2x21
      case yT2x21 => (intro W hSW; (try dsimp only at hSW); first | (go_simp; done) | (go_simp; with_reducible rfl))
      try simp only [Act.put, List.setIfInBounds_toArray, List.set_cons_zero, List.set_cons_succ]
      refine wpAnyH_done (by kernel_rfl) ?_ _
      have HG3 := Lib.hid (hdr.trans g3); clear hHeld hdr g3 p0 p1 p2 p3 p4 p5
      obtain ⟨_, p0, p1, p2, p3, p4, p5⟩ := HS.out _ HG3.out
      go_wp2_with fail
      refine (HC10.out _ HG3.out).mono ?_
      rintro e w4 ⟨rfl, g4⟩
      have HG4 := Lib.hid (HG3.out.trans g4); clear g4 p0 p1 p2 p3 p4 p5
      obtain ⟨_, p0, p1, p2, p3, p4, p5⟩ := HS.out _ HG4.out
      go_wp2_with fail
      go_ret
      exact ⟨rfl, HW1.out.trans HG4.out⟩
    have d1 : decide ((20 : Int) < (un : Int)) = false := by simp; omega
    have d1' : decide (20 < un) = false := by simpa using hun20
    by_cases htn20 : 20 < tn
    · have d2 : decide ((20 : Int) < (tn : Int)) = true := by simp; omega
      have d2' : decide (20 < tn) = true := by simpa using htn20
      obtain ⟨_, p0, p1, p2, p3, p4, p5⟩ := HS.out w1 (grown_refl _ _)
      go_wp2_with fail
      have hdr : w1.grownBy w1.drew none := ⟨rfl, rfl, rfl, Nat.le_refl _, fun _ _ _ => rfl⟩
      refine wp_region_held_drew (S := (fun W : World => w1.grownBy W none ∧ W.cell? ⟨b, 0, none⟩ = some (.slice sa n sc) ∧ W.cell? ⟨b, 1, none⟩ = some (.slice a2 n2 c2) ∧ W.cell? ⟨b, 2, none⟩ = some (.slice a3 n3 c3) ∧ W.cell? ⟨b, 3, none⟩ = some (.slice a4 n4 c4) ∧ W.cell? ⟨b + 1, 0, none⟩ = some (.slice ua un uc) ∧ W.cell? ⟨b + 1, 1, none⟩ = some (.int .i64 ust))) (by kernel_rfl) (HS.out _ hdr) (fun hHeld => ?_)
      refine wpAnyH_take (i := 0) (oi := { dst := some 19, op := Op.load 27 (Operand.tmp 7), type := 27, pos := "law.go:45", after := #[], guard := none }) (v := ?vT3x0) rfl (by kernel_rfl) (by kernel_rfl) (by kernel_rfl) (fun _ _ _ h => h) (Or.inl ⟨by rfl, ?yT3x0⟩) (by assumption) ?rT3x0
      case yT3x0 => (intro W hSW; (try dsimp only at hSW); first | (go_simp; done) | (go_simp; with_reducible rfl))
      try simp only [Act.put, List.setIfInBounds_toArray, List.set_cons_zero, List.set_cons_succ]
      refine wpAnyH_ready (rs := [1]) (by kernel_rfl) (by simp) ?_
      refine AllReadyH.cons (o := { dst := some 20, op := Op.call { callee := Callee.value (Operand.func 10), args := #[Operand.tmp 19], argTypes := #[27] }, type := 4, pos := "law.go:45", after := #[{ on := 0, ground := Ground.data }], guard := none }) rfl (fun K hK => ?_) AllReadyH.nil
      go_simp
      go_at_call 10
      refine (HC10.out _ hdr).mono ?_
      rintro e w3 ⟨rfl, g3⟩
      go_wp2_with fail
      refine hK.out _ _ (HS.out _ (hdr.trans g3)) (fun hHeld => ?_)
      clear hK K
      try simp only [Act.put, List.setIfInBounds_toArray, List.set_cons_zero, List.set_cons_succ]
      refine wpAnyH_take (i := 2) (oi := { dst := some 21, op := Op.move (Operand.tmp 20), type := 4, pos := "law.go:45", after := #[{ on := 1, ground := Ground.data }, { on := 1, ground := Ground.chain }], guard := none }) (v := ?vT3x2) rfl (by kernel_rfl) (by kernel_rfl) (by kernel_rfl) (fun _ _ _ h => h) (Or.inl ⟨by rfl, ?yT3x2⟩) (by assumption) ?rT3x2
      case yT3x2 => (intro W hSW; (try dsimp only at hSW); first | (go_simp; done) | (go_simp; with_reducible rfl))
      try simp only [Act.put, List.setIfInBounds_toArray, List.set_cons_zero, List.set_cons_succ]
      refine wpAnyH_take (i := 3) (oi := { dst := some 22, op := Op.fieldAddr 30 (Operand.tmp 8) 0, type := 0, pos := "law.go:45", after := #[{ on := 2, ground := Ground.guard }], guard := some (2, false) }) (v := ?vT3x3) rfl (by kernel_rfl) (by kernel_rfl) (by kernel_rfl) (fun _ _ _ h => h) (Or.inl ⟨by rfl, ?yT3x3⟩) (by assumption) ?rT3x3
      case yT3x3 => (intro W hSW; (try dsimp only at hSW); first | (go_simp; done) | (go_simp; with_reducible rfl))
      try simp only [Act.put, List.setIfInBounds_toArray, List.set_cons_zero, List.set_cons_succ]
      refine wpAnyH_take (i := 4) (oi := { dst := some 23, op := Op.load 28 (Operand.tmp 22), type := 28, pos := "law.go:45", after := #[{ on := 3, ground := Ground.data }, { on := 2, ground := Ground.guard }], guard := some (2, false) }) (v := ?vT3x4) rfl (by kernel_rfl) (by kernel_rfl) (by kernel_rfl) (fun _ _ _ h => h) (Or.inl ⟨by rfl, ?yT3x4⟩) (by assumption) ?rT3x4
      case yT3x4 => (intro W hSW; (try dsimp only at hSW); first | (go_simp; done) | (go_simp; with_reducible rfl))
      try simp only [Act.put, List.setIfInBounds_toArray, List.set_cons_zero, List.set_cons_succ]
      refine wpAnyH_take (i := 5) (oi := { dst := some 24, op := Op.call { callee := Callee.builtin Builtin.len, args := #[Operand.tmp 23], argTypes := #[28] }, type := 3, pos := "law.go:45", after := #[{ on := 4, ground := Ground.data }, { on := 2, ground := Ground.guard }], guard := some (2, false) }) (v := ?vT3x5) rfl (by kernel_rfl) (by kernel_rfl) (by kernel_rfl) (fun _ _ _ h => h) (Or.inl ⟨by rfl, ?yT3x5⟩) (by assumption) ?rT3x5
      case yT3x5 => (intro W hSW; (try dsimp only at hSW); first | (go_simp; done) | (go_simp; with_reducible rfl))
      try simp only [Act.put, List.setIfInBounds_toArray, List.set_cons_zero, List.set_cons_succ]
      refine wpAnyH_take (i := 6) (oi := { dst := some 25, op := Op.binOp BinOp.gtr 3 (Operand.tmp 24) (Operand.const (Value.int IntKind.i64 20)) 3, type := 4, pos := "law.go:45", after := #[{ on := 5, ground := Ground.data }, { on := 2, ground := Ground.guard }], guard := some (2, false) }) (v := ?vT3x6) rfl (by kernel_rfl) (by kernel_rfl) (by kernel_rfl) (fun _ _ _ h => h) (Or.inl ⟨by rfl, ?yT3x6⟩) (by assumption) ?rT3x6
      case yT3x6 => (intro W hSW; (try dsimp only at hSW); first | (go_simp; done) | (go_simp; with_reducible rfl))
      try simp only [Act.put, List.setIfInBounds_toArray, List.set_cons_zero, List.set_cons_succ]
      refine wpAnyH_take (i := 7) (oi := { dst := some 26, op := Op.pick (Operand.tmp 21) (Operand.const (Value.bool true)) (Operand.tmp 25), type := 4, pos := "law.go:45", after := #[{ on := 2, ground := Ground.data }, { on := 6, ground := Ground.data }], guard := none }) (v := ?vT3x7) rfl (by kernel_rfl) (by kernel_rfl) (by kernel_rfl) (fun _ _ _ h => h) (Or.inl ⟨by rfl, ?yT3x7⟩) (by assumption) ?rT3x7
      case yT3x7 => (intro W hSW; (try dsimp only at hSW); first | (go_simp; done) | (go_simp; with_reducible rfl))
      try simp only [Act.put, List.setIfInBounds_toArray, List.set_cons_zero, List.set_cons_succ]
      refine wpAnyH_take (i := 8) (oi := { dst := some 27, op := Op.move (Operand.tmp 26), type := 4, pos := "law.go:45", after := #[{ on := 7, ground := Ground.data }, { on := 2, ground := Ground.chain }], guard := none }) (v := ?vT3x8) rfl (by kernel_rfl) (by kernel_rfl) (by kernel_rfl) (fun _ _ _ h => h) (Or.inl ⟨by rfl, ?yT3x8⟩) (by assumption) ?rT3x8
      case yT3x8 => (intro W hSW; (try dsimp only at hSW); first | (go_simp; done) | (go_simp; with_reducible rfl))
      try simp only [Act.put, List.setIfInBounds_toArray, List.set_cons_zero, List.set_cons_succ]
      refine wpAnyH_take (i := 9) (oi := { dst := some 28, op := Op.move (Operand.tmp 4), type := 28, pos := "law.go:45", after := #[{ on := 8, ground := Ground.guard }], guard := some (8, false) }) (v := ?vT3x9) rfl (by kernel_rfl) (by kernel_rfl) (by kernel_rfl) (fun _ _ _ h => h) (Or.inl ⟨by rfl, ?yT3x9⟩) (by assumption) ?rT3x9
      case yT3x9 => (intro W hSW; (try dsimp only at hSW); first | (go_simp; done) | (go_simp; with_reducible rfl))
      try simp only [Act.put, List.setIfInBounds_toArray, List.set_cons_zero, List.set_cons_succ]
      refine wpAnyH_take (i := 10) (oi := { dst := some 29, op := Op.call { callee := Callee.builtin Builtin.len, args := #[Operand.tmp 28], argTypes := #[28] }, type := 3, pos := "law.go:45", after := #[{ on := 9, ground := Ground.data }, { on := 8, ground := Ground.guard }], guard := some (8, false) }) (v := ?vT3x10) rfl (by kernel_rfl) (by kernel_rfl) (by kernel_rfl) (fun _ _ _ h => h) (Or.inl ⟨by rfl, ?yT3x10⟩) (by assumption) ?rT3x10
      case yT3x10 => (intro W hSW; (try dsimp only at hSW); first | (go_simp; done) | (go_simp; with_reducible rfl))
      try simp only [Act.put, List.setIfInBounds_toArray, List.set_cons_zero, List.set_cons_succ]
      refine wpAnyH_take (i := 11) (oi := { dst := some 30, op := Op.binOp BinOp.gtr 3 (Operand.tmp 29) (Operand.const (Value.int IntKind.i64 20)) 3, type := 4, pos := "law.go:45", after := #[{ on := 10, ground := Ground.data }, { on := 8, ground := Ground.guard }], guard := some (8, false) }) (v := ?vT3x11) rfl (by kernel_rfl) (by kernel_rfl) (by kernel_rfl) (fun _ _ _ h => h) (Or.inl ⟨by rfl, ?yT3x11⟩) (by assumption) ?rT3x11
      case yT3x11 => (intro W hSW; (try dsimp only at hSW); first | (go_simp; done) | (go_simp; with_reducible rfl))
      try simp only [Act.put, List.setIfInBounds_toArray, List.set_cons_zero, List.set_cons_succ]
      refine wpAnyH_take (i := 12) (oi := { dst := some 31, op := Op.pick (Operand.tmp 27) (Operand.const (Value.bool true)) (Operand.tmp 30), type := 4, pos := "law.go:45", after := #[{ on := 8, ground := Ground.data }, { on := 11, ground := Ground.data }], guard := none }) (v := ?vT3x12) rfl (by kernel_rfl) (by kernel_rfl) (by kernel_rfl) (fun _ _ _ h => h) (Or.inl ⟨by rfl, ?yT3x12⟩) (by assumption) ?rT3x12
      case yT3x12 => (intro W hSW; (try dsimp only at hSW); first | (go_simp; done) | (go_simp; with_reducible rfl))
      try simp only [Act.put, List.setIfInBounds_toArray, List.set_cons_zero, List.set_cons_succ]
      refine wpAnyH_take (i := 13) (oi := { dst := some 32, op := Op.move (Operand.tmp 31), type := 4, pos := "law.go:45", after := #[{ on := 12, ground := Ground.data }, { on := 8, ground := Ground.chain }], guard := none }) (v := ?vT3x13) rfl (by kernel_rfl) (by kernel_rfl) (by kernel_rfl) (fun _ _ _ h => h) (Or.inl ⟨by rfl, ?yT3x13⟩) (by assumption) ?rT3x13
      case yT3x13 => (intro W hSW; (try dsimp only at hSW); first | (go_simp; done) | (go_simp; with_reducible rfl))
      try simp only [Act.put, List.setIfInBounds_toArray, List.set_cons_zero, List.set_cons_succ]
      refine wpAnyH_take (i := 14) (oi := { dst := some 33, op := Op.load 27 (Operand.tmp 7), type := 27, pos := "law.go:45", after := #[{ on := 13, ground := Ground.guard }], guard := some (13, false) }) (v := undef) rfl (by kernel_rfl) (by kernel_rfl) (by kernel_rfl) (fun _ _ _ h => h) (Or.inr ⟨by rfl, rfl⟩) (by assumption) ?_
      try simp only [Act.put, List.setIfInBounds_toArray, List.set_cons_zero, List.set_cons_succ]
      refine wpAnyH_take (i := 15) (oi := { dst := some 34, op := Op.load 30 (Operand.tmp 8), type := 30, pos := "law.go:45", after := #[{ on := 13, ground := Ground.guard }], guard := some (13, false) }) (v := undef) rfl (by kernel_rfl) (by kernel_rfl) (by kernel_rfl) (fun _ _ _ h => h) (Or.inr ⟨by rfl, rfl⟩) (by assumption) ?_
      try simp only [Act.put, List.setIfInBounds_toArray, List.set_cons_zero, List.set_cons_succ]
      refine wpAnyH_take (i := 16) (oi := { dst := some 35, op := Op.call { callee := Callee.value (Operand.func 11), args := #[Operand.tmp 33, Operand.tmp 34], argTypes := #[27, 30] }, type := 4, pos := "law.go:45", after := #[{ on := 14, ground := Ground.data }, { on := 15, ground := Ground.data }, { on := 13, ground := Ground.chain }, { on := 13, ground := Ground.guard }], guard := some (13, false) }) (v := undef) rfl (by kernel_rfl) (by kernel_rfl) (by kernel_rfl) (fun _ _ _ h => h) (Or.inr ⟨by rfl, rfl⟩) (by assumption) ?_
      try simp only [Act.put, List.setIfInBounds_toArray, List.set_cons_zero, List.set_cons_succ]
      refine wpAnyH_take (i := 17) (oi := { dst := some 36, op := Op.load 27 (Operand.tmp 7), type := 27, pos := "law.go:45", after := #[{ on := 13, ground := Ground.guard }], guard := some (13, false) }) (v := undef) rfl (by kernel_rfl) (by kernel_rfl) (by kernel_rfl) (fun _ _ _ h => h) (Or.inr ⟨by rfl, rfl⟩) (by assumption) ?_
      try simp only [Act.put, List.setIfInBounds_toArray, List.set_cons_zero, List.set_cons_succ]
      refine wpAnyH_take (i := 18) (oi := { dst := some 37, op := Op.load 30 (Operand.tmp 8), type := 30, pos := "law.go:45", after := #[{ on := 13, ground := Ground.guard }], guard := some (13, false) }) (v := undef) rfl (by kernel_rfl) (by kernel_rfl) (by kernel_rfl) (fun _ _ _ h => h) (Or.inr ⟨by rfl, rfl⟩) (by assumption) ?_
      try simp only [Act.put, List.setIfInBounds_toArray, List.set_cons_zero, List.set_cons_succ]
      refine wpAnyH_take (i := 19) (oi := { dst := some 38, op := Op.call { callee := Callee.value (Operand.func 12), args := #[Operand.tmp 36, Operand.tmp 37], argTypes := #[27, 30] }, type := 4, pos := "law.go:45", after := #[{ on := 17, ground := Ground.data }, { on := 18, ground := Ground.data }, { on := 16, ground := Ground.chain }, { on := 13, ground := Ground.guard }], guard := some (13, false) }) (v := undef) rfl (by kernel_rfl) (by kernel_rfl) (by kernel_rfl) (fun _ _ _ h => h) (Or.inr ⟨by rfl, rfl⟩) (by assumption) ?_
      try simp only [Act.put, List.setIfInBounds_toArray, List.set_cons_zero, List.set_cons_succ]
      refine wpAnyH_take (i := 20) (oi := { dst := some 39, op := Op.binOp BinOp.neq 4 (Operand.tmp 35) (Operand.tmp 38) 4, type := 4, pos := "law.go:45", after := #[{ on := 16, ground := Ground.data }, { on := 19, ground := Ground.data }, { on := 13, ground := Ground.guard }], guard := some (13, false) }) (v := undef) rfl (by kernel_rfl) (by kernel_rfl) (by kernel_rfl) (fun _ _ _ h => h) (Or.inr ⟨by rfl, rfl⟩) (by assumption) ?_
      try simp only [Act.put, List.setIfInBounds_toArray, List.set_cons_zero, List.set_cons_succ]
      refine wpAnyH_take (i := 21) (oi := { dst := some 40, op := Op.pick (Operand.tmp 32) (Operand.const (Value.bool true)) (Operand.tmp 39), type := 4, pos := "law.go:45", after := #[{ on := 13, ground := Ground.data }, { on := 20, ground := Ground.data }], guard := none }) (v := ?vT3x21) rfl (by kernel_rfl) (by kernel_rfl) (by kernel_rfl) (fun _ _ _ h => h) (Or.inl ⟨by rfl, ?yT3x21⟩) (by assumption) ?rT3x21
      case yT3x21 => (intro W hSW; (try dsimp only at hSW); first | (go_simp; done) | (go_simp; with_reducible rfl))
      try simp only [Act.put, List.setIfInBounds_toArray, List.set_cons_zero, List.set_cons_succ]
      refine wpAnyH_done (by kernel_rfl) ?_ _
      have HG3 := Lib.hid (hdr.trans g3); clear hHeld hdr g3 p0 p1 p2 p3 p4 p5
      obtain ⟨_, p0, p1, p2, p3, p4, p5⟩ := HS.out _ HG3.out
      go_wp2_with fail
      refine (HC10.out _ HG3.out).mono ?_
      rintro e w4 ⟨rfl, g4⟩
      have HG4 := Lib.hid (HG3.out.trans g4); clear g4 p0 p1 p2 p3 p4 p5
      obtain ⟨_, p0, p1, p2, p3, p4, p5⟩ := HS.out _ HG4.out
      go_wp2_with fail
      go_ret
      exact ⟨rfl, HW1.out.trans HG4.out⟩
    have d2 : decide ((20 : Int) < (tn : Int)) = false := by simp; omega
    have d2' : decide (20 < tn) = false := by simpa using htn20
    have hun : un ≤ 20 := by omega
    have htn : tn ≤ 20 := by omega
    clear hun20 htn20
    have HC11 := Lib.hid (fun (W : World) (hW : w1.grownBy W none) => by
      have hf := valid_calls sa n sc a2 a3 a4 n2 c2 n3 c3 n4 c4 zs ua uc ust W (HR.out.2.2.2.1.grown (HW1.out.trans hW)) (by have := (great_no HG.out).1; have := HN.out.1; omega) (by rw [HN.out.2.1]; omega)
      rw [HN.out.2.1] at hf
      exact hf)
    have HC12 := Lib.hid (fun (W : World) (hW : w1.grownBy W none) => by
      have hf := rValid_calls sa n sc a2 a3 a4 n2 c2 n3 c3 n4 c4 zs ua uc ust W (HR.out.2.2.2.1.grown (HW1.out.trans hW)) (by rw [HN.out.2.1]; omega)
      rw [HN.out.2.1] at hf
      exact hf)
    obtain ⟨V, hV⟩ : ∃ V, validI n zs ust = V := ⟨_, rfl⟩
    rw [hV] at HC11 HC12
    have HV := Lib.hid hV; clear hV
    have hVV : (V != V) = false := by simp
    obtain ⟨_, p0, p1, p2, p3, p4, p5⟩ := HS.out w1 (grown_refl _ _)
    go_wp2_with fail
    go_region_held3 (fun W => w1.grownBy W none ∧ W.cell? ⟨b, 0, none⟩ = some (.slice sa n sc) ∧ W.cell? ⟨b, 1, none⟩ = some (.slice a2 n2 c2) ∧ W.cell? ⟨b, 2, none⟩ = some (.slice a3 n3 c3) ∧ W.cell? ⟨b, 3, none⟩ = some (.slice a4 n4 c4) ∧ W.cell? ⟨b + 1, 0, none⟩ = some (.slice ua un uc) ∧ W.cell? ⟨b + 1, 1, none⟩ = some (.int .i64 ust))
      (first | exact HS.out _ ⟨rfl, rfl, rfl, Nat.le_refl _, fun _ _ _ => rfl⟩ | (go_split_ands; exact HS.out _ (World.grownBy.trans (by assumption) g3)))
      (first | (go_at_call 10; refine (HC10.out _ ?_).mono ?_; (go_split_ands; assumption); rintro e w3 ⟨rfl, g3⟩) | (go_at_call 11; refine (HC11.out _ ?_).mono ?_; (go_split_ands; assumption); rintro e w3 ⟨rfl, g3⟩) | (go_at_call 12; refine (HC12.out _ ?_).mono ?_; (go_split_ands; assumption); rintro e w3 ⟨rfl, g3⟩))
    have h3 : w1.grownBy w3 none := by go_split_ands; assumption
    have HG3 := Lib.hid h3; clear h3 hVV p0 p1 p2 p3 p4 p5
    go_wp2_with fail
    refine (scope_calls raw ra rc 0 w3 (HR.out.1.grown (HW1.out.trans HG3.out)) HR.out.2.1 (by omega)).mono ?_
    rintro e w4 ⟨a, c, rfl, hnums, g4⟩
    have hb4 := sizes_bound raw 4 12
    obtain ⟨l, hle⟩ : ∃ l, scopeL raw = l := ⟨_, rfl⟩
    rw [show sizes raw 4 12 = l from hle] at hb4
    rw [hle] at hnums ⊢
    clear hle hl
    have HG4 := Lib.hid (HG3.out.trans g4)
    obtain ⟨k, hk⟩ : ∃ k, l.length = k := ⟨_, rfl⟩
    have HL : Hid ((∀ z ∈ l, z ≤ 5) ∧ l.length = k ∧ k ≤ 4) := Lib.hid ⟨fun z hz => (hb4.2.2 z hz).2, hk, by have := hb4.1; omega⟩
    rw [hk] at ⊢
    have hfz : (w4.alloc (.cells #[.slice a k c, .int .i64 1] 30)).frozen? ⟨w4.heap.size, 0, none⟩ = false ∧ (w4.alloc (.cells #[.slice a k c, .int .i64 1] 30)).frozen? ⟨w4.heap.size, 1, none⟩ = false := ⟨by go_simp, by go_simp⟩
    have hsz4 : w4.heap.size < (w4.alloc (.cells #[.slice a k c, .int .i64 1] 30)).heap.size := by rw [World.size_alloc]; omega
    have hlow : w.heap.size ≤ w4.heap.size ∧ w1.heap.size ≤ w4.heap.size := ⟨(HW1.out.trans (HG3.out.trans g4)).size, (HG3.out.trans g4).size⟩
    have ga := World.grownBy_alloc w4 (.cells #[.slice a k c, .int .i64 1] 30) none
    have HSC0 := Lib.hid (ScV.start (T := 1) hnums (HW1.out.trans HG4.out))
    have HG5 := Lib.hid (HG4.out.trans ga)
    clear hnums g4 hb4 hk ga
    obtain ⟨_, p0, p1, p2, p3, p4, p5⟩ := HS.out _ HG5.out
    go_wp2_with fail
    clear p0 p1 p2 p3 p4 p5
    obtain ⟨g, hg⟩ : ∃ g, w4.heap.size = g := ⟨_, rfl⟩
    obtain ⟨w5, hw5⟩ : ∃ w5, w4.alloc (.cells #[.slice a k c, .int .i64 1] 30) = w5 := ⟨_, rfl⟩
    have hs5 : ScV w w5 g a c 1 l := by have h := HSC0.out; rw [HL.out.2.1] at h; have h2 : ScV w (w4.alloc (.cells #[.slice a k c, .int .i64 1] 30)) w4.heap.size a c 1 l := h; rw [hw5, hg] at h2; exact h2
    rw [hw5] at HG5 hfz hsz4 ⊢
    rw [hg] at hfz hsz4 hlow ⊢
    clear hw5 hg
    refine (HC12.out _ HG5.out).mono ?_
    rintro e w6 ⟨rfl, g6⟩
    have hs6 := hs5.go g6
    have hfz6 : w6.frozen? ⟨g, 0, none⟩ = false ∧ w6.frozen? ⟨g, 1, none⟩ = false := ⟨(World.frozen?_of_block (a := ⟨g, 0, none⟩) (g6.block g hsz4 (by simp))).trans hfz.1, (World.frozen?_of_block (a := ⟨g, 1, none⟩) (g6.block g hsz4 (by simp))).trans hfz.2⟩
    have HG6 := Lib.hid (HG5.out.trans g6)
    clear g6 hs5 hfz hsz4
    have c0 := hs6.c0
    have c1 := hs6.c1
    rw [HL.out.2.1] at c0
    cases V with
    | false =>
      have HX : Hid (w.grownBy w6 none ∧ Nums w6 a c l ∧ l.length = k ∧ (∀ z ∈ l, z ≤ 5) ∧ k ≤ 4) := Lib.hid ⟨hs6.grown, hs6.nums, HL.out.2.1, HL.out.1, HL.out.2.2⟩
      clear hs6 hfz6 hlow
      go_wp2_with fail
      have HC16 := Lib.hid (fun (m : Nat) (W : World) (hm : m ≤ k) (hW : w6.grownBy W none) => by
        have hf := first_calls l a c 1 W (HX.out.2.1.grown hW) HX.out.2.2.2.1 (by rw [HX.out.2.2.1]; exact HX.out.2.2.2.2) m (by rw [HX.out.2.2.1]; exact hm)
        rw [HX.out.2.2.1] at hf
        exact hf)
      have HC17 := Lib.hid (fun (m : Nat) (W : World) (hm : m ≤ k) (hW : w6.grownBy W none) => by
        have hf := rFirst_calls l a c 1 W (HX.out.2.1.grown hW) HX.out.2.2.2.1 (by rw [HX.out.2.2.1]; exact HX.out.2.2.2.2) m (by rw [HX.out.2.2.1]; exact hm)
        rw [HX.out.2.2.1] at hf
        exact hf)
      obtain ⟨N, hN⟩ : ∃ N, sum l = N := ⟨_, rfl⟩
      have HC18 := Lib.hid (fun (W : World) (hW : w6.grownBy W none) => by
        have hf := atoms_calls l a c 1 W (HX.out.2.1.grown hW) HX.out.2.2.2.1 (by rw [HX.out.2.2.1]; exact HX.out.2.2.2.2)
        rw [HX.out.2.2.1, hN] at hf
        exact hf)
      have HC19 := Lib.hid (fun (W : World) (hW : w6.grownBy W none) => by
        have hf := rAtoms_calls l a c 1 W (HX.out.2.1.grown hW) HX.out.2.2.2.1 (by rw [HX.out.2.2.1]; exact HX.out.2.2.2.2)
        rw [HX.out.2.2.1, hN] at hf
        exact hf)
      obtain ⟨so, hso⟩ : ∃ so, sortI l x = so := ⟨_, rfl⟩
      have HC20 := Lib.hid (fun (W : World) (hW : w6.grownBy W none) => by
        have hf := sort_calls l a c 1 x W (HX.out.2.1.grown hW) HX.out.2.2.2.1 (by rw [HX.out.2.2.1]; exact HX.out.2.2.2.2)
        rw [HX.out.2.2.1, hso] at hf
        exact hf)
      have HC21 := Lib.hid (fun (W : World) (hW : w6.grownBy W none) => by
        have hf := rSort_calls l a c 1 x W (HX.out.2.1.grown hW) HX.out.2.2.2.1 (by rw [HX.out.2.2.1]; exact HX.out.2.2.2.2)
        rw [HX.out.2.2.1, hso] at hf
        exact hf)
      obtain ⟨rk, hrk⟩ : ∃ rk, rankI N ts = rk := ⟨_, rfl⟩
      have HC22 := Lib.hid (fun (W : World) (hW : w6.grownBy W none) => by
        have hf := rank_calls l a c 1 ts ta tc W (HX.out.2.1.grown hW) HX.out.2.2.2.1 (by rw [HX.out.2.2.1]; exact HX.out.2.2.2.2) (HR.out.2.2.2.2.1.grown (HX.out.1.trans hW)) (by rw [HN.out.2.2]; omega)
        rw [HX.out.2.2.1, HN.out.2.2, hN, hrk] at hf
        exact hf)
      have HC23 := Lib.hid (fun (W : World) (hW : w6.grownBy W none) => by
        have hf := rRank_calls l a c 1 ts ta tc W (HX.out.2.1.grown hW) HX.out.2.2.2.1 (by rw [HX.out.2.2.1]; exact HX.out.2.2.2.2) (HR.out.2.2.2.2.1.grown (HX.out.1.trans hW)) (by rw [HN.out.2.2]; omega)
        rw [HX.out.2.2.1, HN.out.2.2, hN, hrk] at hf
        exact hf)
      obtain ⟨tp, htp⟩ : ∃ tp, tupI N y z = tp := ⟨_, rfl⟩
      obtain ⟨tl, htl9⟩ : ∃ tl, tp.length = tl := ⟨_, rfl⟩
      have htl3 : tl ≤ 3 := by rw [← htl9, ← htp]; exact tupI_length N y z
      have HC25 := Lib.hid (fun (W : World) (hW : w6.grownBy W none) => by
        have hf := tuple_calls l a c 1 y z W (HX.out.2.1.grown hW) HX.out.2.2.2.1 (by rw [HX.out.2.2.1]; exact HX.out.2.2.2.2) HR.out.2.2.2.2.2
        rw [HX.out.2.2.1, hN, htp, htl9] at hf
        exact hf)
      have HC26 := Lib.hid (fun (W : World) (hW : w6.grownBy W none) => by
        have hf := rTuple_calls l a c 1 y z W (HX.out.2.1.grown hW) HX.out.2.2.2.1 (by rw [HX.out.2.2.1]; exact HX.out.2.2.2.2) HR.out.2.2.2.2.2
        rw [HX.out.2.2.1, hN, htp, htl9] at hf
        exact hf)
      have HC24 := Lib.hid (fun (W : World) (b1 b2 : Option Addr) (k1 k2 : Nat) (h1 : Ints W b1 k1 tp) (h2 : Ints W b2 k2 tp) => by
        have hf := sameTuple_calls tp tp b1 b2 k1 k2 W h1 h2 (by omega) (by omega)
        rw [htl9, show decide (tp = tp) = true by simp] at hf
        exact hf.mono (R' := fun e w' => e = .returned (.bool true) ∧ W.grownBy w' none) fun e w' h => ⟨h.1, by obtain ⟨q, hq⟩ := h.2; rw [hq]; exact grown_drewN _ _ _⟩)
      obtain ⟨fl, hfl⟩ : ∃ fl, fullL l ts = fl := ⟨_, rfl⟩
      obtain ⟨fk, hfk⟩ : ∃ fk, fullK k ts = fk := ⟨_, rfl⟩
      obtain ⟨fn, hfn⟩ : ∃ fn, fl.length = fn := ⟨_, rfl⟩
      have hfn125 : fn ≤ 125 := by rw [← hfn, ← hfl]; exact fullL_length HX.out.2.2.2.1 ts
      have HC28 := Lib.hid (fun (W : World) (hW : w6.grownBy W none) => by
        have hf := full_calls l a c 1 ts ta tc W (HX.out.2.1.grown hW) HX.out.2.2.2.1 (by rw [HX.out.2.2.1]; exact HX.out.2.2.2.2) (HR.out.2.2.2.2.1.grown (HX.out.1.trans hW)) (by rw [HN.out.2.2]; omega)
        unfold FullR at hf
        rw [HX.out.2.2.1, HN.out.2.2, hfl, hfk, hfn] at hf
        exact hf)
      have HC29 := Lib.hid (fun (W : World) (hW : w6.grownBy W none) => by
        have hf := rFull_calls l a c 1 ts ta tc W (HX.out.2.1.grown hW) HX.out.2.2.2.1 (by rw [HX.out.2.2.1]; exact HX.out.2.2.2.2) (HR.out.2.2.2.2.1.grown (HX.out.1.trans hW)) (by rw [HN.out.2.2]; omega)
        unfold FullR at hf
        rw [HX.out.2.2.1, HN.out.2.2, hfl, hfk, hfn] at hf
        exact hf)
      have HC27 := Lib.hid (fun (W : World) (b1 b2 : Option Addr) (k1 k2 : Nat) (h1 : Ints W b1 k1 fl) (h2 : Ints W b2 k2 fl) => by
        have hf := same_calls (fk : Int) (fk : Int) fl fl b1 b2 k1 k2 W h1 h2 (by omega) (by omega)
        rw [hfn, show decide ((fk : Int) = (fk : Int) ∧ fl = fl) = true by simp] at hf
        exact hf)
      have hK4 : k ≤ 4 := HX.out.2.2.2.2
      clear hN hso hrk htp htl9 hfl hfk hfn htl3 hfn125
      go_loopg [17] (k + 1) (fun gk s17 wr => ∃ i : Nat, s17 = .int .i64 (i : Int) ∧ gk = k + 1 - i ∧ i ≤ k + 1 ∧ w6.grownBy wr none)
      case atStart => exact ⟨0, rfl, rfl, Nat.zero_le _, grown_refl _ _⟩
      case round =>
        obtain ⟨i, rfl, hgi, hi, hgr⟩ := hrel
        have e0 := hgr.cell c0 (by simp)
        have e1 := hgr.cell c1 (by simp)
        have HI := Lib.hid (And.intro hgi hgr); clear hgi hgr
        by_cases hik : i ≤ k
        · have hikB : decide (i ≤ k) = true := by simpa using hik
          have HF := Lib.hid (fun (W : World) (hW : wr.grownBy W none) => And.intro (HC16.out i W hik (HI.out.2.trans hW)) (HC17.out i W hik (HI.out.2.trans hW)))
          obtain ⟨S, hS⟩ : ∃ S, sum (l.take i) = S := ⟨_, rfl⟩
          rw [hS] at HF
          clear hS
          go_wp2_with fail
          go_region_held3 (fun w' => wr.grownBy w' none ∧ w'.cell? ⟨g, 0, none⟩ = some (.slice a k c) ∧ w'.cell? ⟨g, 1, none⟩ = some (.int .i64 1))
            (first | exact ⟨⟨rfl, rfl, rfl, Nat.le_refl _, fun _ _ _ => rfl⟩, e0, e1⟩ | (go_split_ands; exact held_next2 g3 (by assumption) (by assumption) (by assumption)))
            (first | (go_at_call 16; refine ((HF.out _ ?_).1).mono ?_; (go_split_ands; assumption); rintro e w8 ⟨rfl, g3⟩) | (go_at_call 17; refine ((HF.out _ ?_).2).mono ?_; (go_split_ands; assumption); rintro e w8 ⟨rfl, g3⟩))
          have h8 : wr.grownBy w8 none := by go_split_ands; assumption
          have HI8 := Lib.hid (HI.out.2.trans h8); clear h8
          go_wp2
          go_roundg (k + 1 - (i + 1))
          case measure => rw [HI.out.1]; omega
          case rel => exact ⟨i + 1, rfl, rfl, by omega, HI8.out⟩
        · have hikB : decide (i ≤ k) = false := by simpa using hik
          clear hik
          go_wp2_with fail
          go_region_held3 (fun w' => wr.grownBy w' none ∧ w'.cell? ⟨g, 0, none⟩ = some (.slice a k c) ∧ w'.cell? ⟨g, 1, none⟩ = some (.int .i64 1))
            (first | exact ⟨⟨rfl, rfl, rfl, Nat.le_refl _, fun _ _ _ => rfl⟩, e0, e1⟩ | (go_split_ands; exact held_next2 g3 (by assumption) (by assumption) (by assumption)))
            (first | (go_at_call 18; refine (HC18.out _ (HI.out.2.trans ?_)).mono ?_; (go_split_ands; assumption); rintro e w8 ⟨rfl, g3⟩) | (go_at_call 19; refine (HC19.out _ (HI.out.2.trans ?_)).mono ?_; (go_split_ands; assumption); rintro e w8 ⟨rfl, g3⟩) | (go_at_call 20; refine (HC20.out _ (HI.out.2.trans ?_)).mono ?_; (go_split_ands; assumption); rintro e w8 ⟨rfl, g3⟩) | (go_at_call 21; refine (HC21.out _ (HI.out.2.trans ?_)).mono ?_; (go_split_ands; assumption); rintro e w8 ⟨rfl, g3⟩) | (go_at_call 22; refine (HC22.out _ (HI.out.2.trans ?_)).mono ?_; (go_split_ands; assumption); rintro e w8 ⟨rfl, g3⟩) | (go_at_call 23; refine (HC23.out _ (HI.out.2.trans ?_)).mono ?_; (go_split_ands; assumption); rintro e w8 ⟨rfl, g3⟩) | (go_at_call 25; refine (HC25.out _ (HI.out.2.trans ?_)).mono ?_; (go_split_ands; assumption); rintro e w8 ⟨qa, qc, rfl, qi, g3⟩) | (go_at_call 26; refine (HC26.out _ (HI.out.2.trans ?_)).mono ?_; (go_split_ands; assumption); rintro e w8 ⟨qa, qc, rfl, qi, g3⟩) | (go_at_call 28; refine (HC28.out _ (HI.out.2.trans ?_)).mono ?_; (go_split_ands; assumption); rintro e w8 ⟨qa, qc, rfl, qi, g3⟩) | (go_at_call 29; refine (HC29.out _ (HI.out.2.trans ?_)).mono ?_; (go_split_ands; assumption); rintro e w8 ⟨qa, qc, rfl, qi, g3⟩) | (go_at_call 24; refine (HC24.out _ _ _ _ _ ?_ ?_).mono ?_; (first | assumption | exact Ints.grown (by assumption) (by assumption)); (first | assumption | exact Ints.grown (by assumption) (by assumption)); rintro e w8 ⟨rfl, g3⟩) | (go_at_call 27; refine (HC27.out _ _ _ _ _ ?_ ?_).mono ?_; (first | assumption | exact Ints.grown (by assumption) (by assumption)); (first | assumption | exact Ints.grown (by assumption) (by assumption)); rintro e w8 ⟨rfl, g3⟩))
          have h8 : wr.grownBy w8 none := by go_split_ands; assumption
          have HI8 := Lib.hid (HI.out.2.trans h8); clear h8
          go_wp2
          go_ret
          exact ⟨rfl, HX.out.1.trans HI8.out⟩
    | true =>
      have hva := HV.out
      rw [validI_sized] at hva
      simp only [sizedR, Bool.and_eq_true, decide_eq_true_eq] at hva
      have hsz := hva.2.1.2
      have hzz : ∀ z ∈ zs, 1 ≤ z ∧ z ≤ 5 := fun z hz => sized_at hsz hz
      have hn4 : un ≤ 4 := by have h1 := hva.2.1.1.1.1; have := HN.out.2.1; omega
      obtain ⟨L, hL⟩ : ∃ L, zs.map Int.toNat = L := ⟨_, rfl⟩
      have HLL : Hid (L.length = un ∧ (∀ z ∈ L, z ≤ 5) ∧ un ≤ 4 ∧ ∀ W : World, w.grownBy W none → Nums W ua uc L) := Lib.hid ⟨by rw [← hL, List.length_map]; exact HN.out.2.1, fun q hq => by
          rw [← hL] at hq
          obtain ⟨z, hz, rfl⟩ := List.mem_map.1 hq
          have := hzz z hz
          omega, hn4, fun W hW => by rw [← hL]; exact (HR.out.2.2.2.1.grown hW).nums (fun z hz => by have := hzz z hz; omega)⟩
      clear hva hsz hzz hn4 hL
      have HG7 : Hid (w1.grownBy ((w6.setCell ⟨g, 0, none⟩ (.slice ua un uc)).setCell ⟨g, 1, none⟩ (.int .i64 ust)) none) := Lib.hid (grown_own (grown_own HG6.out (grown_set _ _ _ _) (fun j hj => by cases hj; exact hlow.2)) (grown_set _ _ _ _) (fun j hj => by cases hj; exact hlow.2))
      have hk0 : ((w6.setCell ⟨g, 0, none⟩ (.slice ua un uc)).setCell ⟨g, 1, none⟩ (.int .i64 ust)).cell? ⟨g, 0, none⟩ = some (.slice ua un uc) := by
        rw [World.cell?_setCell_other _ _ _ _ (by intro e; injection e with _ e1; omega)]; exact World.cell?_setCell_same _ _ _ c0
      have hk1 : ((w6.setCell ⟨g, 0, none⟩ (.slice ua un uc)).setCell ⟨g, 1, none⟩ (.int .i64 ust)).cell? ⟨g, 1, none⟩ = some (.int .i64 ust) := World.cell?_setCell_same _ _ _ (show (w6.setCell ⟨g, 0, none⟩ (.slice ua un uc)).cell? ⟨g, 1, none⟩ = some (.int .i64 1) by rw [World.cell?_setCell_other _ _ _ _ (by intro e; injection e with _ e1; omega)]; exact c1)
      have HK := Lib.hid (And.intro hk0 hk1); clear hk0 hk1
      obtain ⟨_, p0, p1, p2, p3, p4, p5⟩ := HS.out _ HG6.out
      obtain ⟨f0, f1⟩ := hfz6
      clear hs6 hlow
      go_wp2_with fail
      obtain ⟨w7, hw7⟩ : ∃ w7, (w6.setCell ⟨g, 0, none⟩ (.slice ua un uc)).setCell ⟨g, 1, none⟩ (.int .i64 ust) = w7 := ⟨_, rfl⟩
      rw [hw7] at HG7 HK ⊢
      clear hw7 p0 p1 p2 p3 p4 p5 f0 f1 c0 c1
      have HS7 := Lib.hid (fun (W : World) (hW : w7.grownBy W none) => (⟨hW, (HS.out W (HG7.out.trans hW)).2.1, (HS.out W (HG7.out.trans hW)).2.2.1, (HS.out W (HG7.out.trans hW)).2.2.2.1, (HS.out W (HG7.out.trans hW)).2.2.2.2.1, hW.cell HK.out.1 (by simp), hW.cell HK.out.2 (by simp)⟩ :
        w7.grownBy W none ∧ W.cell? ⟨b, 0, none⟩ = some (.slice sa n sc) ∧ W.cell? ⟨b, 1, none⟩ = some (.slice a2 n2 c2) ∧ W.cell? ⟨b, 2, none⟩ = some (.slice a3 n3 c3) ∧ W.cell? ⟨b, 3, none⟩ = some (.slice a4 n4 c4) ∧ W.cell? ⟨g, 0, none⟩ = some (.slice ua un uc) ∧ W.cell? ⟨g, 1, none⟩ = some (.int .i64 ust)))
      obtain ⟨nm, hnm⟩ : ∃ nm, nmOf ss L x = nm := ⟨_, rfl⟩
      have HC14 := Lib.hid (fun (W : World) (hW : w7.grownBy W none) => by
        have hf := name_calls ss sa sc a2 a3 a4 n2 c2 n3 c3 n4 c4 L ua uc ust x W (HR.out.2.2.1.grown ((HW1.out.trans HG7.out).trans hW)) (by have := (great_no HG.out).1; omega) (fun s hs => by have := (great_no HG.out).2 s hs; omega) (HLL.out.2.2.2 W ((HW1.out.trans HG7.out).trans hW)) HLL.out.2.1 (by rw [HLL.out.1]; exact HLL.out.2.2.1)
        have hg := hf.mono (R' := fun e w' => e = .returned (.string (nmOf ss L x)) ∧ W.grownBy w' none) fun e w' h => ⟨by obtain ⟨⟨s, rfl, h1, h2⟩, _⟩ := h; rw [nmOf_eq h1 h2], h.2⟩
        rw [HN.out.1, HLL.out.1, hnm] at hg
        exact hg)
      have HC15 := Lib.hid (fun (W : World) (hW : w7.grownBy W none) => by
        have hf := rName_calls ss sa sc a2 a3 a4 n2 c2 n3 c3 n4 c4 L ua uc ust x W (HR.out.2.2.1.grown ((HW1.out.trans HG7.out).trans hW)) (by have := (great_no HG.out).1; omega) (fun s hs => by have := (great_no HG.out).2 s hs; omega) (HLL.out.2.2.2 W ((HW1.out.trans HG7.out).trans hW)) HLL.out.2.1 (by rw [HLL.out.1]; exact HLL.out.2.2.1)
        have hg := hf.mono (R' := fun e w' => e = .returned (.string (nmOf ss L x)) ∧ W.grownBy w' none) fun e w' h => ⟨by obtain ⟨⟨s, rfl, h1, h2⟩, _⟩ := h; rw [nmOf_eq h1 h2], h.2⟩
        rw [HN.out.1, HLL.out.1, hnm] at hg
        exact hg)
      clear hnm
      obtain ⟨_, p0, p1, p2, p3, p4, p5⟩ := HS7.out _ (grown_refl _ _)
      go_region_held3 (fun W => w7.grownBy W none ∧ W.cell? ⟨b, 0, none⟩ = some (.slice sa n sc) ∧ W.cell? ⟨b, 1, none⟩ = some (.slice a2 n2 c2) ∧ W.cell? ⟨b, 2, none⟩ = some (.slice a3 n3 c3) ∧ W.cell? ⟨b, 3, none⟩ = some (.slice a4 n4 c4) ∧ W.cell? ⟨g, 0, none⟩ = some (.slice ua un uc) ∧ W.cell? ⟨g, 1, none⟩ = some (.int .i64 ust))
        (first | exact HS7.out _ ⟨rfl, rfl, rfl, Nat.le_refl _, fun _ _ _ => rfl⟩ | (go_split_ands; exact HS7.out _ (World.grownBy.trans (by assumption) g3)))
        (first | (go_at_call 14; refine (HC14.out _ ?_).mono ?_; (go_split_ands; assumption); rintro e w9 ⟨rfl, g3⟩) | (go_at_call 15; refine (HC15.out _ ?_).mono ?_; (go_split_ands; assumption); rintro e w9 ⟨rfl, g3⟩))
      have h9 : w7.grownBy w9 none := by go_split_ands; assumption
      have HX : Hid (w.grownBy w9 none ∧ Nums w9 ua uc L ∧ L.length = un ∧ (∀ z ∈ L, z ≤ 5) ∧ un ≤ 4) := Lib.hid ⟨(HW1.out.trans HG7.out).trans h9, HLL.out.2.2.2 _ ((HW1.out.trans HG7.out).trans h9), HLL.out.1, HLL.out.2.1, HLL.out.2.2.1⟩
      have c0 := h9.cell HK.out.1 (by simp)
      have c1 := h9.cell HK.out.2 (by simp)
      clear h9 p0 p1 p2 p3 p4 p5
      go_wp2_with fail
      have HC16 := Lib.hid (fun (m : Nat) (W : World) (hm : m ≤ un) (hW : w9.grownBy W none) => by
        have hf := first_calls L ua uc ust W (HX.out.2.1.grown hW) HX.out.2.2.2.1 (by rw [HX.out.2.2.1]; exact HX.out.2.2.2.2) m (by rw [HX.out.2.2.1]; exact hm)
        rw [HX.out.2.2.1] at hf
        exact hf)
      have HC17 := Lib.hid (fun (m : Nat) (W : World) (hm : m ≤ un) (hW : w9.grownBy W none) => by
        have hf := rFirst_calls L ua uc ust W (HX.out.2.1.grown hW) HX.out.2.2.2.1 (by rw [HX.out.2.2.1]; exact HX.out.2.2.2.2) m (by rw [HX.out.2.2.1]; exact hm)
        rw [HX.out.2.2.1] at hf
        exact hf)
      obtain ⟨N, hN⟩ : ∃ N, sum L = N := ⟨_, rfl⟩
      have HC18 := Lib.hid (fun (W : World) (hW : w9.grownBy W none) => by
        have hf := atoms_calls L ua uc ust W (HX.out.2.1.grown hW) HX.out.2.2.2.1 (by rw [HX.out.2.2.1]; exact HX.out.2.2.2.2)
        rw [HX.out.2.2.1, hN] at hf
        exact hf)
      have HC19 := Lib.hid (fun (W : World) (hW : w9.grownBy W none) => by
        have hf := rAtoms_calls L ua uc ust W (HX.out.2.1.grown hW) HX.out.2.2.2.1 (by rw [HX.out.2.2.1]; exact HX.out.2.2.2.2)
        rw [HX.out.2.2.1, hN] at hf
        exact hf)
      obtain ⟨so, hso⟩ : ∃ so, sortI L x = so := ⟨_, rfl⟩
      have HC20 := Lib.hid (fun (W : World) (hW : w9.grownBy W none) => by
        have hf := sort_calls L ua uc ust x W (HX.out.2.1.grown hW) HX.out.2.2.2.1 (by rw [HX.out.2.2.1]; exact HX.out.2.2.2.2)
        rw [HX.out.2.2.1, hso] at hf
        exact hf)
      have HC21 := Lib.hid (fun (W : World) (hW : w9.grownBy W none) => by
        have hf := rSort_calls L ua uc ust x W (HX.out.2.1.grown hW) HX.out.2.2.2.1 (by rw [HX.out.2.2.1]; exact HX.out.2.2.2.2)
        rw [HX.out.2.2.1, hso] at hf
        exact hf)
      obtain ⟨rk, hrk⟩ : ∃ rk, rankI N ts = rk := ⟨_, rfl⟩
      have HC22 := Lib.hid (fun (W : World) (hW : w9.grownBy W none) => by
        have hf := rank_calls L ua uc ust ts ta tc W (HX.out.2.1.grown hW) HX.out.2.2.2.1 (by rw [HX.out.2.2.1]; exact HX.out.2.2.2.2) (HR.out.2.2.2.2.1.grown (HX.out.1.trans hW)) (by rw [HN.out.2.2]; omega)
        rw [HX.out.2.2.1, HN.out.2.2, hN, hrk] at hf
        exact hf)
      have HC23 := Lib.hid (fun (W : World) (hW : w9.grownBy W none) => by
        have hf := rRank_calls L ua uc ust ts ta tc W (HX.out.2.1.grown hW) HX.out.2.2.2.1 (by rw [HX.out.2.2.1]; exact HX.out.2.2.2.2) (HR.out.2.2.2.2.1.grown (HX.out.1.trans hW)) (by rw [HN.out.2.2]; omega)
        rw [HX.out.2.2.1, HN.out.2.2, hN, hrk] at hf
        exact hf)
      obtain ⟨tp, htp⟩ : ∃ tp, tupI N y z = tp := ⟨_, rfl⟩
      obtain ⟨tl, htl9⟩ : ∃ tl, tp.length = tl := ⟨_, rfl⟩
      have htl3 : tl ≤ 3 := by rw [← htl9, ← htp]; exact tupI_length N y z
      have HC25 := Lib.hid (fun (W : World) (hW : w9.grownBy W none) => by
        have hf := tuple_calls L ua uc ust y z W (HX.out.2.1.grown hW) HX.out.2.2.2.1 (by rw [HX.out.2.2.1]; exact HX.out.2.2.2.2) HR.out.2.2.2.2.2
        rw [HX.out.2.2.1, hN, htp, htl9] at hf
        exact hf)
      have HC26 := Lib.hid (fun (W : World) (hW : w9.grownBy W none) => by
        have hf := rTuple_calls L ua uc ust y z W (HX.out.2.1.grown hW) HX.out.2.2.2.1 (by rw [HX.out.2.2.1]; exact HX.out.2.2.2.2) HR.out.2.2.2.2.2
        rw [HX.out.2.2.1, hN, htp, htl9] at hf
        exact hf)
      have HC24 := Lib.hid (fun (W : World) (b1 b2 : Option Addr) (k1 k2 : Nat) (h1 : Ints W b1 k1 tp) (h2 : Ints W b2 k2 tp) => by
        have hf := sameTuple_calls tp tp b1 b2 k1 k2 W h1 h2 (by omega) (by omega)
        rw [htl9, show decide (tp = tp) = true by simp] at hf
        exact hf.mono (R' := fun e w' => e = .returned (.bool true) ∧ W.grownBy w' none) fun e w' h => ⟨h.1, by obtain ⟨q, hq⟩ := h.2; rw [hq]; exact grown_drewN _ _ _⟩)
      obtain ⟨fl, hfl⟩ : ∃ fl, fullL L ts = fl := ⟨_, rfl⟩
      obtain ⟨fk, hfk⟩ : ∃ fk, fullK un ts = fk := ⟨_, rfl⟩
      obtain ⟨fn, hfn⟩ : ∃ fn, fl.length = fn := ⟨_, rfl⟩
      have hfn125 : fn ≤ 125 := by rw [← hfn, ← hfl]; exact fullL_length HX.out.2.2.2.1 ts
      have HC28 := Lib.hid (fun (W : World) (hW : w9.grownBy W none) => by
        have hf := full_calls L ua uc ust ts ta tc W (HX.out.2.1.grown hW) HX.out.2.2.2.1 (by rw [HX.out.2.2.1]; exact HX.out.2.2.2.2) (HR.out.2.2.2.2.1.grown (HX.out.1.trans hW)) (by rw [HN.out.2.2]; omega)
        unfold FullR at hf
        rw [HX.out.2.2.1, HN.out.2.2, hfl, hfk, hfn] at hf
        exact hf)
      have HC29 := Lib.hid (fun (W : World) (hW : w9.grownBy W none) => by
        have hf := rFull_calls L ua uc ust ts ta tc W (HX.out.2.1.grown hW) HX.out.2.2.2.1 (by rw [HX.out.2.2.1]; exact HX.out.2.2.2.2) (HR.out.2.2.2.2.1.grown (HX.out.1.trans hW)) (by rw [HN.out.2.2]; omega)
        unfold FullR at hf
        rw [HX.out.2.2.1, HN.out.2.2, hfl, hfk, hfn] at hf
        exact hf)
      have HC27 := Lib.hid (fun (W : World) (b1 b2 : Option Addr) (k1 k2 : Nat) (h1 : Ints W b1 k1 fl) (h2 : Ints W b2 k2 fl) => by
        have hf := same_calls (fk : Int) (fk : Int) fl fl b1 b2 k1 k2 W h1 h2 (by omega) (by omega)
        rw [hfn, show decide ((fk : Int) = (fk : Int) ∧ fl = fl) = true by simp] at hf
        exact hf)
      have hK4 : un ≤ 4 := HX.out.2.2.2.2
      clear hN hso hrk htp htl9 hfl hfk hfn htl3 hfn125
      go_loopg [17] (un + 1) (fun gk s17 wr => ∃ i : Nat, s17 = .int .i64 (i : Int) ∧ gk = un + 1 - i ∧ i ≤ un + 1 ∧ w9.grownBy wr none)
      case atStart => exact ⟨0, rfl, rfl, Nat.zero_le _, grown_refl _ _⟩
      case round =>
        obtain ⟨i, rfl, hgi, hi, hgr⟩ := hrel
        have e0 := hgr.cell c0 (by simp)
        have e1 := hgr.cell c1 (by simp)
        have HI := Lib.hid (And.intro hgi hgr); clear hgi hgr
        by_cases hik : i ≤ un
        · have hikB : decide (i ≤ un) = true := by simpa using hik
          have HF := Lib.hid (fun (W : World) (hW : wr.grownBy W none) => And.intro (HC16.out i W hik (HI.out.2.trans hW)) (HC17.out i W hik (HI.out.2.trans hW)))
          obtain ⟨S, hS⟩ : ∃ S, sum (L.take i) = S := ⟨_, rfl⟩
          rw [hS] at HF
          clear hS
          go_wp2_with fail
          go_region_held3 (fun w' => wr.grownBy w' none ∧ w'.cell? ⟨g, 0, none⟩ = some (.slice ua un uc) ∧ w'.cell? ⟨g, 1, none⟩ = some (.int .i64 ust))
            (first | exact ⟨⟨rfl, rfl, rfl, Nat.le_refl _, fun _ _ _ => rfl⟩, e0, e1⟩ | (go_split_ands; exact held_next2 g3 (by assumption) (by assumption) (by assumption)))
            (first | (go_at_call 16; refine ((HF.out _ ?_).1).mono ?_; (go_split_ands; assumption); rintro e w8 ⟨rfl, g3⟩) | (go_at_call 17; refine ((HF.out _ ?_).2).mono ?_; (go_split_ands; assumption); rintro e w8 ⟨rfl, g3⟩))
          have h8 : wr.grownBy w8 none := by go_split_ands; assumption
          have HI8 := Lib.hid (HI.out.2.trans h8); clear h8
          go_wp2
          go_roundg (un + 1 - (i + 1))
          case measure => rw [HI.out.1]; omega
          case rel => exact ⟨i + 1, rfl, rfl, by omega, HI8.out⟩
        · have hikB : decide (i ≤ un) = false := by simpa using hik
          clear hik
          go_wp2_with fail
          go_region_held3 (fun w' => wr.grownBy w' none ∧ w'.cell? ⟨g, 0, none⟩ = some (.slice ua un uc) ∧ w'.cell? ⟨g, 1, none⟩ = some (.int .i64 ust))
            (first | exact ⟨⟨rfl, rfl, rfl, Nat.le_refl _, fun _ _ _ => rfl⟩, e0, e1⟩ | (go_split_ands; exact held_next2 g3 (by assumption) (by assumption) (by assumption)))
            (first | (go_at_call 18; refine (HC18.out _ (HI.out.2.trans ?_)).mono ?_; (go_split_ands; assumption); rintro e w8 ⟨rfl, g3⟩) | (go_at_call 19; refine (HC19.out _ (HI.out.2.trans ?_)).mono ?_; (go_split_ands; assumption); rintro e w8 ⟨rfl, g3⟩) | (go_at_call 20; refine (HC20.out _ (HI.out.2.trans ?_)).mono ?_; (go_split_ands; assumption); rintro e w8 ⟨rfl, g3⟩) | (go_at_call 21; refine (HC21.out _ (HI.out.2.trans ?_)).mono ?_; (go_split_ands; assumption); rintro e w8 ⟨rfl, g3⟩) | (go_at_call 22; refine (HC22.out _ (HI.out.2.trans ?_)).mono ?_; (go_split_ands; assumption); rintro e w8 ⟨rfl, g3⟩) | (go_at_call 23; refine (HC23.out _ (HI.out.2.trans ?_)).mono ?_; (go_split_ands; assumption); rintro e w8 ⟨rfl, g3⟩) | (go_at_call 25; refine (HC25.out _ (HI.out.2.trans ?_)).mono ?_; (go_split_ands; assumption); rintro e w8 ⟨qa, qc, rfl, qi, g3⟩) | (go_at_call 26; refine (HC26.out _ (HI.out.2.trans ?_)).mono ?_; (go_split_ands; assumption); rintro e w8 ⟨qa, qc, rfl, qi, g3⟩) | (go_at_call 28; refine (HC28.out _ (HI.out.2.trans ?_)).mono ?_; (go_split_ands; assumption); rintro e w8 ⟨qa, qc, rfl, qi, g3⟩) | (go_at_call 29; refine (HC29.out _ (HI.out.2.trans ?_)).mono ?_; (go_split_ands; assumption); rintro e w8 ⟨qa, qc, rfl, qi, g3⟩) | (go_at_call 24; refine (HC24.out _ _ _ _ _ ?_ ?_).mono ?_; (first | assumption | exact Ints.grown (by assumption) (by assumption)); (first | assumption | exact Ints.grown (by assumption) (by assumption)); rintro e w8 ⟨rfl, g3⟩) | (go_at_call 27; refine (HC27.out _ _ _ _ _ ?_ ?_).mono ?_; (first | assumption | exact Ints.grown (by assumption) (by assumption)); (first | assumption | exact Ints.grown (by assumption) (by assumption)); rintro e w8 ⟨rfl, g3⟩))
          have h8 : wr.grownBy w8 none := by go_split_ands; assumption
          have HI8 := Lib.hid (HI.out.2.trans h8); clear h8
          go_wp2
          go_ret
          exact ⟨rfl, HX.out.1.trans HI8.out⟩
end Go.Proofs.YtagfkapgjdaiaaaDoor

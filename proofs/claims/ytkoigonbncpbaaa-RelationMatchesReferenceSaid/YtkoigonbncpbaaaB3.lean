/- The universe's size, and the three relations out of the raw numbers. -/
import Derived.Test.YtkoigonbncpbaaaB2
namespace Go.Proofs.Ytkoigonbncpbaaa
open Go.RowKit

theorem atoms_calls (N : Nat) (hN : N < 256) (w : World) : Calls Try.prog 38 #[.int .u8 (N : Int)] w fun e w' => e = .returned (.int .i64 ((1 + N % 5 : Nat) : Int)) ∧ w' = w := by
  obtain ⟨r, hr⟩ : ∃ r, N % 5 = r := ⟨_, rfl⟩
  have hr5 : r < 5 := by omega
  have hmod : (N : Int).tmod 5 = (r : Int) := by rw [Int.tmod_eq_emod_of_nonneg (by omega)]; omega
  have hwn : IntKind.i64.wrap (N : Int) = (N : Int) := IntWalk.i64_in _ (by omega)
  have hws : IntKind.i64.wrap (1 + (r : Int)) = ((1 + r : Nat) : Int) := by rw [IntWalk.i64_in _ (by omega)]; omega
  rw [hr]
  clear hr
  go_enter Try.func38, Try.ntmps38
  go_wp2
  go_ret
  exact ⟨rfl, rfl⟩

theorem results41 (tmps : Array Value) (w : World) (b : Nat) (a : Option Addr) (n c : Nat) (x : Int) (ht : tmps.getD 4 undef = .pointer (some ⟨b, 0, none⟩)) (h0 : w.cell? ⟨b, 0, none⟩ = some (.int .i64 x)) (h1 : w.cell? ⟨b, 1, none⟩ = some (.slice a n c)) :
    (results Try.f41 tmps).run Try.prog w = .ok (.agg #[.int .i64 x, .slice a n c]) w := by
  have ht' : tmps[4]?.getD undef = .pointer (some ⟨b, 0, none⟩) := by simpa using ht
  simp [results, ht', go_sem, h0, h1, Result.andThen]

set_option maxHeartbeats 1000000 in
theorem rel_calls (k : Int) (n : Nat) (a : Option Addr) (c : Nat) (w : World) :
    Calls Try.prog 41 #[.int .i64 k, .slice a n c] w fun e w' => e = .returned (.agg #[.int .i64 k, .slice a n c]) ∧ w.grownBy w' none := by
  have hg := World.grownBy_alloc w (.cells #[.int .i64 k, .slice a n c] 27) none
  have hc := one_cells w (.int .i64 k) (.slice a n c) 27
  go_enter Try.func41, Try.ntmps41
  go_wp2
  exact bodyPost_ret (results41 _ _ w.heap.size a n c k rfl hc.2.1 hc.2.2.1) rfl ⟨rfl, hg⟩

theorem ne_off {g i j : Nat} (h : i ≠ j) : (⟨g, i, none⟩ : Addr) ≠ ⟨g, j, none⟩ := fun e => by injection e with _ e; exact h e
/-- A block of six cells that may be written. -/
def Six (X : World) (g : Nat) (v0 v1 v2 v3 v4 v5 : Value) : Prop :=
  (X.cell? ⟨g, 0, none⟩ = some v0 ∧ X.cell? ⟨g, 1, none⟩ = some v1 ∧ X.cell? ⟨g, 2, none⟩ = some v2 ∧ X.cell? ⟨g, 3, none⟩ = some v3 ∧ X.cell? ⟨g, 4, none⟩ = some v4 ∧ X.cell? ⟨g, 5, none⟩ = some v5) ∧ ∀ o, X.frozen? ⟨g, o, none⟩ = false
theorem Six.off {X X' : World} {g : Nat} {v0 v1 v2 v3 v4 v5 : Value} {r : Option Nat} (h : Six X g v0 v1 v2 v3 v4 v5) (hg : X.grownBy X' r) (hr : ∀ x, r = some x → x ≠ g) : Six X' g v0 v1 v2 v3 v4 v5 := by
  have hne : some g ≠ r := fun e => hr g e.symm rfl
  have hlt : g < X.heap.size := lies_lt h.1.1
  obtain ⟨⟨h0, h1, h2, h3, h4, h5⟩, hf⟩ := h
  exact ⟨⟨hg.cell h0 hne, hg.cell h1 hne, hg.cell h2 hne, hg.cell h3 hne, hg.cell h4 hne, hg.cell h5 hne⟩, fun o => by rw [World.frozen?_of_block (hg.block g hlt hne)]; exact hf o⟩
theorem six_set {X : World} {g : Nat} {u0 u1 u2 u3 u4 u5 : Value} (h : Six X g u0 u1 u2 u3 u4 u5) (v0 v1 v2 v3 v4 v5 : Value) :
    Six ((((((X.setCell ⟨g, 0, none⟩ v0).setCell ⟨g, 1, none⟩ v1).setCell ⟨g, 2, none⟩ v2).setCell ⟨g, 3, none⟩ v3).setCell ⟨g, 4, none⟩ v4).setCell ⟨g, 5, none⟩ v5) g v0 v1 v2 v3 v4 v5 ∧ X.grownBy ((((((X.setCell ⟨g, 0, none⟩ v0).setCell ⟨g, 1, none⟩ v1).setCell ⟨g, 2, none⟩ v2).setCell ⟨g, 3, none⟩ v3).setCell ⟨g, 4, none⟩ v4).setCell ⟨g, 5, none⟩ v5) (some g) := by
  obtain ⟨⟨h0, h1, h2, h3, h4, h5⟩, hf⟩ := h
  refine ⟨⟨⟨?_, ?_, ?_, ?_, ?_, ?_⟩, fun o => by simp only [World.frozen?_setCell]; exact hf o⟩, ?_⟩
  · rw [World.cell?_setCell_other _ _ _ _ (ne_off (by decide))]; rw [World.cell?_setCell_other _ _ _ _ (ne_off (by decide))]; rw [World.cell?_setCell_other _ _ _ _ (ne_off (by decide))]; rw [World.cell?_setCell_other _ _ _ _ (ne_off (by decide))]; rw [World.cell?_setCell_other _ _ _ _ (ne_off (by decide))]; exact World.cell?_setCell_same' _ _ _ (by rw [h0]; rfl)
  · rw [World.cell?_setCell_other _ _ _ _ (ne_off (by decide))]; rw [World.cell?_setCell_other _ _ _ _ (ne_off (by decide))]; rw [World.cell?_setCell_other _ _ _ _ (ne_off (by decide))]; rw [World.cell?_setCell_other _ _ _ _ (ne_off (by decide))]; exact World.cell?_setCell_same' _ _ _ (by rw [World.cell?_setCell_other _ _ _ _ (ne_off (by decide))]; rw [h1]; rfl)
  · rw [World.cell?_setCell_other _ _ _ _ (ne_off (by decide))]; rw [World.cell?_setCell_other _ _ _ _ (ne_off (by decide))]; rw [World.cell?_setCell_other _ _ _ _ (ne_off (by decide))]; exact World.cell?_setCell_same' _ _ _ (by rw [World.cell?_setCell_other _ _ _ _ (ne_off (by decide))]; rw [World.cell?_setCell_other _ _ _ _ (ne_off (by decide))]; rw [h2]; rfl)
  · rw [World.cell?_setCell_other _ _ _ _ (ne_off (by decide))]; rw [World.cell?_setCell_other _ _ _ _ (ne_off (by decide))]; exact World.cell?_setCell_same' _ _ _ (by rw [World.cell?_setCell_other _ _ _ _ (ne_off (by decide))]; rw [World.cell?_setCell_other _ _ _ _ (ne_off (by decide))]; rw [World.cell?_setCell_other _ _ _ _ (ne_off (by decide))]; rw [h3]; rfl)
  · rw [World.cell?_setCell_other _ _ _ _ (ne_off (by decide))]; exact World.cell?_setCell_same' _ _ _ (by rw [World.cell?_setCell_other _ _ _ _ (ne_off (by decide))]; rw [World.cell?_setCell_other _ _ _ _ (ne_off (by decide))]; rw [World.cell?_setCell_other _ _ _ _ (ne_off (by decide))]; rw [World.cell?_setCell_other _ _ _ _ (ne_off (by decide))]; rw [h4]; rfl)
  · exact World.cell?_setCell_same' _ _ _ (by rw [World.cell?_setCell_other _ _ _ _ (ne_off (by decide))]; rw [World.cell?_setCell_other _ _ _ _ (ne_off (by decide))]; rw [World.cell?_setCell_other _ _ _ _ (ne_off (by decide))]; rw [World.cell?_setCell_other _ _ _ _ (ne_off (by decide))]; rw [World.cell?_setCell_other _ _ _ _ (ne_off (by decide))]; rw [h5]; rfl)
  · exact ((((((grown_set _ _ _ _).trans (grown_set _ _ _ _)).trans (grown_set _ _ _ _)).trans (grown_set _ _ _ _)).trans (grown_set _ _ _ _)).trans (grown_set _ _ _ _))
theorem Six.new (W : World) (v0 v1 v2 v3 v4 v5 : Value) (t : TypeId) : Six (W.alloc (.cells #[v0, v1, v2, v3, v4, v5] t)) W.heap.size v0 v1 v2 v3 v4 v5 := ⟨⟨by go_simp, by go_simp, by go_simp, by go_simp, by go_simp, by go_simp⟩, fun o => by go_simp⟩

theorem results11 (tmps : Array Value) (w : World) (b : Nat) (n : Int) (k0 k1 k2 : Int) (a0 a1 a2 : Option Addr) (n0 n1 n2 c0 c1 c2 : Nat) (h2 : tmps.getD 2 undef = .int .i64 n) (h3 : tmps.getD 3 undef = .pointer (some ⟨b, 0, none⟩))
    (h : Six w b (.int .i64 k0) (.slice a0 n0 c0) (.int .i64 k1) (.slice a1 n1 c1) (.int .i64 k2) (.slice a2 n2 c2)) :
    (results Try.f11 tmps).run Try.prog w = .ok (.tuple #[.int .i64 n, .agg #[.int .i64 k0, .slice a0 n0 c0, .int .i64 k1, .slice a1 n1 c1, .int .i64 k2, .slice a2 n2 c2]]) w := by
  have h2' : tmps[2]?.getD undef = .int .i64 n := by simpa using h2
  have h3' : tmps[3]?.getD undef = .pointer (some ⟨b, 0, none⟩) := by simpa using h3
  obtain ⟨⟨q0, q1, q2, q3, q4, q5⟩, _⟩ := h
  simp [results, h2', h3', go_sem, q0, q1, q2, q3, q4, q5, Result.andThen]

/-- The raw numbers, as they came in. -/
structure RawAt (w : World) (N Ar : Nat) (A B C : List Nat) (aa ab ac : Option Addr) (ca cb cc : Nat) : Prop where
  hN : N < 256
  hAr : Ar < 256
  hA : U16s w aa ca A
  hB : U16s w ab cb B
  hC : U16s w ac cc C
  lA : (A.length : Int) ≤ 9223372036854775807
  lB : (B.length : Int) ≤ 9223372036854775807
  lC : (C.length : Int) ≤ 9223372036854775807
theorem RawAt.grown {w w' : World} {N Ar : Nat} {A B C : List Nat} {aa ab ac : Option Addr} {ca cb cc : Nat} (h : RawAt w N Ar A B C aa ab ac ca cb cc) (g : w.grownBy w' none) : RawAt w' N Ar A B C aa ab ac ca cb cc :=
  ⟨h.hN, h.hAr, h.hA.grown g, h.hB.grown g, h.hC.grown g, h.lA, h.lB, h.lC⟩

set_option maxRecDepth 100000 in
set_option maxHeartbeats 8000000 in
theorem three_calls (N Ar : Nat) (A B C : List Nat) (aa ab ac : Option Addr) (ca cb cc : Nat) (w : World) (h : RawAt w N Ar A B C aa ab ac ca cb cc) :
    Calls Try.prog 11 #[.agg #[.int .u8 (N : Int), .int .u8 (Ar : Int), .slice aa A.length ca, .slice ab B.length cb, .slice ac C.length cc]] w fun e w' => ∃ a0 a1 a2 c0 c1 c2,
      e = .returned (.tuple #[.int .i64 ((1 + N % 5 : Nat) : Int), .agg #[.int .i64 ((1 + Ar % 3 : Nat) : Int), .slice a0 (fromL (1 + N % 5) (1 + Ar % 3) A).length c0, .int .i64 ((1 + Ar % 3 : Nat) : Int), .slice a1 (fromL (1 + N % 5) (1 + Ar % 3) B).length c1, .int .i64 ((1 + Ar % 3 : Nat) : Int), .slice a2 (fromL (1 + N % 5) (1 + Ar % 3) C).length c2]]) ∧
      IntsW w' a0 c0 (fromL (1 + N % 5) (1 + Ar % 3) A) ∧ IntsW w' a1 c1 (fromL (1 + N % 5) (1 + Ar % 3) B) ∧ IntsW w' a2 c2 (fromL (1 + N % 5) (1 + Ar % 3) C) ∧ w.grownBy w' none := by
  have hN := h.hN
  have hAr := h.hAr
  have HAT := Lib.hid (fun U => atoms_calls N hN U)
  obtain ⟨n, hn⟩ : ∃ n, 1 + N % 5 = n := ⟨_, rfl⟩
  obtain ⟨r, hr⟩ : ∃ r, Ar % 3 = r := ⟨_, rfl⟩
  obtain ⟨k, hk⟩ : ∃ k, 1 + r = k := ⟨_, rfl⟩
  rw [hn] at HAT
  simp only [hn, hr, hk]
  have hmod : (Ar : Int).tmod 3 = (r : Int) := by rw [Int.tmod_eq_emod_of_nonneg (by omega)]; omega
  have hwn : IntKind.i64.wrap (Ar : Int) = (Ar : Int) := IntWalk.i64_in _ (by omega)
  have hws : IntKind.i64.wrap (1 + (r : Int)) = (k : Int) := by rw [IntWalk.i64_in _ (by omega)]; omega
  have hn1 : 1 ≤ n := by omega
  have hn2 : n ≤ 12 := by omega
  have hk3 : k ≤ 3 := by omega
  clear hn hr hk
  obtain ⟨lA, hlA⟩ : ∃ l, A.length = l := ⟨_, rfl⟩
  obtain ⟨lB, hlB⟩ : ∃ l, B.length = l := ⟨_, rfl⟩
  obtain ⟨lC, hlC⟩ : ∃ l, C.length = l := ⟨_, rfl⟩
  have hg1 := World.grownBy_alloc w (.cells #[.int .u8 (N : Int), .int .u8 (Ar : Int), .slice aa lA ca, .slice ab lB cb, .slice ac lC cc] 24) none
  have hb0 : (w.alloc (.cells #[.int .u8 (N : Int), .int .u8 (Ar : Int), .slice aa lA ca, .slice ab lB cb, .slice ac lC cc] 24)).cell? ⟨w.heap.size, 0, none⟩ = some (.int .u8 (N : Int)) := by go_simp
  have hb1 : (w.alloc (.cells #[.int .u8 (N : Int), .int .u8 (Ar : Int), .slice aa lA ca, .slice ab lB cb, .slice ac lC cc] 24)).cell? ⟨w.heap.size, 1, none⟩ = some (.int .u8 (Ar : Int)) := by go_simp
  have hb2 : (w.alloc (.cells #[.int .u8 (N : Int), .int .u8 (Ar : Int), .slice aa lA ca, .slice ab lB cb, .slice ac lC cc] 24)).cell? ⟨w.heap.size, 2, none⟩ = some (.slice aa lA ca) := by go_simp
  have hb3 : (w.alloc (.cells #[.int .u8 (N : Int), .int .u8 (Ar : Int), .slice aa lA ca, .slice ab lB cb, .slice ac lC cc] 24)).cell? ⟨w.heap.size, 3, none⟩ = some (.slice ab lB cb) := by go_simp
  have hb4 : (w.alloc (.cells #[.int .u8 (N : Int), .int .u8 (Ar : Int), .slice aa lA ca, .slice ab lB cb, .slice ac lC cc] 24)).cell? ⟨w.heap.size, 4, none⟩ = some (.slice ac lC cc) := by go_simp
  have hs1 : (w.alloc (.cells #[.int .u8 (N : Int), .int .u8 (Ar : Int), .slice aa lA ca, .slice ab lB cb, .slice ac lC cc] 24)).heap.size = w.heap.size + 1 := by simp
  obtain ⟨W1, hW1⟩ : ∃ W, w.alloc (.cells #[.int .u8 (N : Int), .int .u8 (Ar : Int), .slice aa lA ca, .slice ab lB cb, .slice ac lC cc] 24) = W := ⟨_, rfl⟩
  rw [hW1] at hg1 hb0 hb1 hb2 hb3 hb4 hs1
  have hg2 := World.grownBy_alloc W1 (.cells #[.int .i64 0, .slice none 0 0, .int .i64 0, .slice none 0 0, .int .i64 0, .slice none 0 0] 29) none
  have hz := Six.new W1 (.int .i64 0) (.slice none 0 0) (.int .i64 0) (.slice none 0 0) (.int .i64 0) (.slice none 0 0) 29
  obtain ⟨W, hW⟩ : ∃ W, W1.alloc (.cells #[.int .i64 0, .slice none 0 0, .int .i64 0, .slice none 0 0, .int .i64 0, .slice none 0 0] 29) = W := ⟨_, rfl⟩
  rw [hW] at hg2 hz
  have HG := Lib.hid (And.intro hg1 (And.intro hs1 hg2))
  have HZ := Lib.hid hz
  have HR := Lib.hid (h.grown hg1)
  have hW1W : W1.heap.size < W.heap.size := lies_lt hz.1.1
  have e0 := hg2.cell hb0 (by simp)
  have e1 := hg2.cell hb1 (by simp)
  have e2 := hg2.cell hb2 (by simp)
  have e3 := hg2.cell hb3 (by simp)
  have e4 := hg2.cell hb4 (by simp)
  have HFA := Lib.hid (fun (U : World) (g : W1.grownBy U none) => from_calls n k A aa ca U (HR.out.hA.grown g) hn1 hn2 hk3 HR.out.lA)
  have HFB := Lib.hid (fun (U : World) (g : W1.grownBy U none) => from_calls n k B ab cb U (HR.out.hB.grown g) hn1 hn2 hk3 HR.out.lB)
  have HFC := Lib.hid (fun (U : World) (g : W1.grownBy U none) => from_calls n k C ac cc U (HR.out.hC.grown g) hn1 hn2 hk3 HR.out.lC)
  obtain ⟨FA, hFA⟩ : ∃ l, fromL n k A = l := ⟨_, rfl⟩
  obtain ⟨FB, hFB⟩ : ∃ l, fromL n k B = l := ⟨_, rfl⟩
  obtain ⟨FC, hFC⟩ : ∃ l, fromL n k C = l := ⟨_, rfl⟩
  simp only [hFA, hFB, hFC, hlA, hlB, hlC] at HFA HFB HFC ⊢
  clear hg1 hg2 hz hb0 hb1 hs1 h hFA hFB hFC hlA hlB hlC hn1 hn2 hk3 hN hAr
  obtain ⟨pA, hpA⟩ : ∃ p, FA.length = p := ⟨_, rfl⟩
  obtain ⟨pB, hpB⟩ : ∃ p, FB.length = p := ⟨_, rfl⟩
  obtain ⟨pC, hpC⟩ : ∃ p, FC.length = p := ⟨_, rfl⟩
  simp only [hpA, hpB, hpC] at HFA HFB HFC ⊢
  clear hpA hpB hpC
  go_enter Try.func11, Try.ntmps11
  go_wp2_with (go_at_call 38; refine (HAT.out _).mono ?_; rintro e w2 ⟨rfl, hw2⟩; rw [hw2]; clear hw2 w2)
  clear hW1 hW
  have HS := Lib.hid (fun (Wh : World) (hWh : W1.grownBy Wh none) => (⟨hWh, hWh.cell hb2 (by simp), hWh.cell hb3 (by simp), hWh.cell hb4 (by simp)⟩ : (fun Wh : World => W1.grownBy Wh none ∧ Wh.cell? ⟨w.heap.size, 2, none⟩ = some (.slice aa lA ca) ∧ Wh.cell? ⟨w.heap.size, 3, none⟩ = some (.slice ab lB cb) ∧ Wh.cell? ⟨w.heap.size, 4, none⟩ = some (.slice ac lC cc)) Wh))
  clear hb2 hb3 hb4
  have hdr : W1.grownBy W.drew none := HG.out.2.2.trans (⟨rfl, rfl, rfl, Nat.le_refl _, fun _ _ _ => rfl⟩ : W.grownBy W.drew none)
  refine wp_region_held_drew (S := (fun Wh : World => W1.grownBy Wh none ∧ Wh.cell? ⟨w.heap.size, 2, none⟩ = some (.slice aa lA ca) ∧ Wh.cell? ⟨w.heap.size, 3, none⟩ = some (.slice ab lB cb) ∧ Wh.cell? ⟨w.heap.size, 4, none⟩ = some (.slice ac lC cc))) (by kernel_rfl) (HS.out _ hdr) (fun hHeld => ?_)
  refine wpAnyH_take (i := 0) (oi := { dst := some 14, op := Op.move (Operand.tmp 4), type := 3, pos := "law.go:37", after := #[], guard := none }) (v := ?_) rfl (by kernel_rfl) (by kernel_rfl) (by kernel_rfl) (fun _ _ _ h => h) (Or.inl ⟨by rfl, ?_⟩) (by assumption) ?_
  rotate_left 1
  · (intro W hSW; (try dsimp only at hSW); first | (go_simp; done) | (go_simp; with_reducible rfl))
  try simp only [Act.put, List.setIfInBounds_toArray, List.set_cons_zero, List.set_cons_succ]
  refine wpAnyH_take (i := 1) (oi := { dst := some 15, op := Op.move (Operand.tmp 4), type := 3, pos := "law.go:37", after := #[], guard := none }) (v := ?_) rfl (by kernel_rfl) (by kernel_rfl) (by kernel_rfl) (fun _ _ _ h => h) (Or.inl ⟨by rfl, ?_⟩) (by assumption) ?_
  rotate_left 1
  · (intro W hSW; (try dsimp only at hSW); first | (go_simp; done) | (go_simp; with_reducible rfl))
  try simp only [Act.put, List.setIfInBounds_toArray, List.set_cons_zero, List.set_cons_succ]
  refine wpAnyH_take (i := 2) (oi := { dst := some 16, op := Op.move (Operand.tmp 5), type := 3, pos := "law.go:37", after := #[], guard := none }) (v := ?_) rfl (by kernel_rfl) (by kernel_rfl) (by kernel_rfl) (fun _ _ _ h => h) (Or.inl ⟨by rfl, ?_⟩) (by assumption) ?_
  rotate_left 1
  · (intro W hSW; (try dsimp only at hSW); first | (go_simp; done) | (go_simp; with_reducible rfl))
  try simp only [Act.put, List.setIfInBounds_toArray, List.set_cons_zero, List.set_cons_succ]
  refine wpAnyH_take (i := 3) (oi := { dst := some 17, op := Op.fieldAddr 24 (Operand.tmp 1) 2, type := 0, pos := "law.go:37", after := #[], guard := none }) (v := ?_) rfl (by kernel_rfl) (by kernel_rfl) (by kernel_rfl) (fun _ _ _ h => h) (Or.inl ⟨by rfl, ?_⟩) (by assumption) ?_
  rotate_left 1
  · (intro W hSW; (try dsimp only at hSW); first | (go_simp; done) | (go_simp; with_reducible rfl))
  try simp only [Act.put, List.setIfInBounds_toArray, List.set_cons_zero, List.set_cons_succ]
  refine wpAnyH_take (i := 4) (oi := { dst := some 18, op := Op.load 22 (Operand.tmp 17), type := 22, pos := "law.go:37", after := #[{ on := 3, ground := Ground.data }], guard := none }) (v := ?_) rfl (by kernel_rfl) (by kernel_rfl) (by kernel_rfl) (fun _ _ _ h => h) (Or.inl ⟨by rfl, ?_⟩) (by assumption) ?_
  rotate_left 1
  · (intro W hSW; (try dsimp only at hSW); first | (go_simp; done) | (go_simp; with_reducible rfl))
  try simp only [Act.put, List.setIfInBounds_toArray, List.set_cons_zero, List.set_cons_succ]
  refine wpAnyH_take (i := 6) (oi := { dst := some 20, op := Op.move (Operand.tmp 4), type := 3, pos := "law.go:37", after := #[], guard := none }) (v := ?_) rfl (by kernel_rfl) (by kernel_rfl) (by kernel_rfl) (fun _ _ _ h => h) (Or.inl ⟨by rfl, ?_⟩) (by assumption) ?_
  rotate_left 1
  · (intro W hSW; (try dsimp only at hSW); first | (go_simp; done) | (go_simp; with_reducible rfl))
  try simp only [Act.put, List.setIfInBounds_toArray, List.set_cons_zero, List.set_cons_succ]
  refine wpAnyH_take (i := 7) (oi := { dst := some 21, op := Op.move (Operand.tmp 5), type := 3, pos := "law.go:37", after := #[], guard := none }) (v := ?_) rfl (by kernel_rfl) (by kernel_rfl) (by kernel_rfl) (fun _ _ _ h => h) (Or.inl ⟨by rfl, ?_⟩) (by assumption) ?_
  rotate_left 1
  · (intro W hSW; (try dsimp only at hSW); first | (go_simp; done) | (go_simp; with_reducible rfl))
  try simp only [Act.put, List.setIfInBounds_toArray, List.set_cons_zero, List.set_cons_succ]
  refine wpAnyH_take (i := 8) (oi := { dst := some 22, op := Op.fieldAddr 24 (Operand.tmp 1) 3, type := 0, pos := "law.go:37", after := #[], guard := none }) (v := ?_) rfl (by kernel_rfl) (by kernel_rfl) (by kernel_rfl) (fun _ _ _ h => h) (Or.inl ⟨by rfl, ?_⟩) (by assumption) ?_
  rotate_left 1
  · (intro W hSW; (try dsimp only at hSW); first | (go_simp; done) | (go_simp; with_reducible rfl))
  try simp only [Act.put, List.setIfInBounds_toArray, List.set_cons_zero, List.set_cons_succ]
  refine wpAnyH_take (i := 9) (oi := { dst := some 23, op := Op.load 22 (Operand.tmp 22), type := 22, pos := "law.go:37", after := #[{ on := 8, ground := Ground.data }], guard := none }) (v := ?_) rfl (by kernel_rfl) (by kernel_rfl) (by kernel_rfl) (fun _ _ _ h => h) (Or.inl ⟨by rfl, ?_⟩) (by assumption) ?_
  rotate_left 1
  · (intro W hSW; (try dsimp only at hSW); first | (go_simp; done) | (go_simp; with_reducible rfl))
  try simp only [Act.put, List.setIfInBounds_toArray, List.set_cons_zero, List.set_cons_succ]
  refine wpAnyH_take (i := 11) (oi := { dst := some 25, op := Op.move (Operand.tmp 4), type := 3, pos := "law.go:37", after := #[], guard := none }) (v := ?_) rfl (by kernel_rfl) (by kernel_rfl) (by kernel_rfl) (fun _ _ _ h => h) (Or.inl ⟨by rfl, ?_⟩) (by assumption) ?_
  rotate_left 1
  · (intro W hSW; (try dsimp only at hSW); first | (go_simp; done) | (go_simp; with_reducible rfl))
  try simp only [Act.put, List.setIfInBounds_toArray, List.set_cons_zero, List.set_cons_succ]
  refine wpAnyH_take (i := 12) (oi := { dst := some 26, op := Op.move (Operand.tmp 5), type := 3, pos := "law.go:37", after := #[], guard := none }) (v := ?_) rfl (by kernel_rfl) (by kernel_rfl) (by kernel_rfl) (fun _ _ _ h => h) (Or.inl ⟨by rfl, ?_⟩) (by assumption) ?_
  rotate_left 1
  · (intro W hSW; (try dsimp only at hSW); first | (go_simp; done) | (go_simp; with_reducible rfl))
  try simp only [Act.put, List.setIfInBounds_toArray, List.set_cons_zero, List.set_cons_succ]
  refine wpAnyH_take (i := 13) (oi := { dst := some 27, op := Op.fieldAddr 24 (Operand.tmp 1) 4, type := 0, pos := "law.go:37", after := #[], guard := none }) (v := ?_) rfl (by kernel_rfl) (by kernel_rfl) (by kernel_rfl) (fun _ _ _ h => h) (Or.inl ⟨by rfl, ?_⟩) (by assumption) ?_
  rotate_left 1
  · (intro W hSW; (try dsimp only at hSW); first | (go_simp; done) | (go_simp; with_reducible rfl))
  try simp only [Act.put, List.setIfInBounds_toArray, List.set_cons_zero, List.set_cons_succ]
  refine wpAnyH_take (i := 14) (oi := { dst := some 28, op := Op.load 22 (Operand.tmp 27), type := 22, pos := "law.go:37", after := #[{ on := 13, ground := Ground.data }], guard := none }) (v := ?_) rfl (by kernel_rfl) (by kernel_rfl) (by kernel_rfl) (fun _ _ _ h => h) (Or.inl ⟨by rfl, ?_⟩) (by assumption) ?_
  rotate_left 1
  · (intro W hSW; (try dsimp only at hSW); first | (go_simp; done) | (go_simp; with_reducible rfl))
  try simp only [Act.put, List.setIfInBounds_toArray, List.set_cons_zero, List.set_cons_succ]
  refine wpAnyH_ready (rs := [5]) (by kernel_rfl) (by simp) ?_
  refine (AllReadyH.cons (o := { dst := some 19, op := Op.call { callee := Callee.value (Operand.func 12), args := #[Operand.tmp 15, Operand.tmp 16, Operand.tmp 18], argTypes := #[3, 3, 22] }, type := 27, pos := "law.go:37", after := #[{ on := 1, ground := Ground.data }, { on := 2, ground := Ground.data }, { on := 4, ground := Ground.data }], guard := none }) rfl (fun K hK => ?_) AllReadyH.nil)
  rw [if_pos (by rfl)]
  go_simp
  go_at_call 12
  refine (HFA.out _ (hdr)).mono ?_
  rintro e wc1 ⟨a0, c0, rfl, hs0, gc1⟩
  have hgr1 := World.grownBy.trans hdr gc1
  go_wp2_with fail
  refine hK.out _ _ (HS.out _ hgr1) (fun hHeld => ?_)
  clear hK K
  try simp only [Act.put, List.setIfInBounds_toArray, List.set_cons_zero, List.set_cons_succ]
  refine wpAnyH_ready (rs := [10]) (by kernel_rfl) (by simp) ?_
  refine (AllReadyH.cons (o := { dst := some 24, op := Op.call { callee := Callee.value (Operand.func 12), args := #[Operand.tmp 20, Operand.tmp 21, Operand.tmp 23], argTypes := #[3, 3, 22] }, type := 27, pos := "law.go:37", after := #[{ on := 6, ground := Ground.data }, { on := 7, ground := Ground.data }, { on := 9, ground := Ground.data }, { on := 5, ground := Ground.chain }], guard := none }) rfl (fun K hK => ?_) AllReadyH.nil)
  rw [if_pos (by rfl)]
  go_simp
  go_at_call 12
  refine (HFB.out _ (hgr1)).mono ?_
  rintro e wc2 ⟨a1, c1, rfl, hs1, gc2⟩
  have hgr2 := World.grownBy.trans hgr1 gc2
  go_wp2_with fail
  refine hK.out _ _ (HS.out _ hgr2) (fun hHeld => ?_)
  clear hK K
  try simp only [Act.put, List.setIfInBounds_toArray, List.set_cons_zero, List.set_cons_succ]
  refine wpAnyH_ready (rs := [15]) (by kernel_rfl) (by simp) ?_
  refine (AllReadyH.cons (o := { dst := some 29, op := Op.call { callee := Callee.value (Operand.func 12), args := #[Operand.tmp 25, Operand.tmp 26, Operand.tmp 28], argTypes := #[3, 3, 22] }, type := 27, pos := "law.go:37", after := #[{ on := 11, ground := Ground.data }, { on := 12, ground := Ground.data }, { on := 14, ground := Ground.data }, { on := 10, ground := Ground.chain }], guard := none }) rfl (fun K hK => ?_) AllReadyH.nil)
  rw [if_pos (by rfl)]
  go_simp
  go_at_call 12
  refine (HFC.out _ (hgr2)).mono ?_
  rintro e wc3 ⟨a2, c2, rfl, hs2, gc3⟩
  have hgr3 := World.grownBy.trans hgr2 gc3
  go_wp2_with fail
  refine hK.out _ _ (HS.out _ hgr3) (fun hHeld => ?_)
  clear hK K
  try simp only [Act.put, List.setIfInBounds_toArray, List.set_cons_zero, List.set_cons_succ]
  refine wpAnyH_take (i := 16) (oi := { dst := some 30, op := Op.build 29 #[(0, Operand.tmp 19), (1, Operand.tmp 24), (2, Operand.tmp 29)], type := 29, pos := "law.go:37", after := #[{ on := 5, ground := Ground.data }, { on := 10, ground := Ground.data }, { on := 15, ground := Ground.data }, { on := 17, ground := Ground.gcOnly Departure.lateStores }], guard := none }) (v := ?_) rfl (by kernel_rfl) (by kernel_rfl) (by kernel_rfl) (fun _ _ _ h => h) (Or.inl ⟨by rfl, ?_⟩) (by assumption) ?_
  rotate_left 1
  · (intro W hSW; (try dsimp only at hSW); first | (go_simp; done) | (go_simp; with_reducible rfl))
  try simp only [Act.put, List.setIfInBounds_toArray, List.set_cons_zero, List.set_cons_succ]
  refine wpAnyH_take (i := 17) (oi := { dst := some 2, op := Op.assign (Operand.tmp 14), type := 3, pos := "law.go:37", after := #[{ on := 0, ground := Ground.data }, { on := 15, ground := Ground.chain }, { on := 0, ground := Ground.phase }, { on := 1, ground := Ground.textOnly Departure.lateStores }, { on := 2, ground := Ground.textOnly Departure.lateStores }, { on := 3, ground := Ground.textOnly Departure.lateStores }, { on := 4, ground := Ground.textOnly Departure.lateStores }, { on := 5, ground := Ground.textOnly Departure.lateStoresUnsure }, { on := 6, ground := Ground.textOnly Departure.lateStores }, { on := 7, ground := Ground.textOnly Departure.lateStores }, { on := 8, ground := Ground.textOnly Departure.lateStores }, { on := 9, ground := Ground.textOnly Departure.lateStores }, { on := 10, ground := Ground.textOnly Departure.lateStoresUnsure }, { on := 11, ground := Ground.textOnly Departure.lateStores }, { on := 12, ground := Ground.textOnly Departure.lateStores }, { on := 13, ground := Ground.textOnly Departure.lateStores }, { on := 14, ground := Ground.textOnly Departure.lateStores }, { on := 15, ground := Ground.textOnly Departure.lateStoresUnsure }, { on := 16, ground := Ground.textOnly Departure.lateStores }], guard := none }) (v := ?_) rfl (by kernel_rfl) (by kernel_rfl) (by kernel_rfl) (fun _ _ _ h => h) (Or.inl ⟨by rfl, ?_⟩) (by assumption) ?_
  rotate_left 1
  · (intro W hSW; (try dsimp only at hSW); first | (go_simp; done) | (go_simp; with_reducible rfl))
  try simp only [Act.put, List.setIfInBounds_toArray, List.set_cons_zero, List.set_cons_succ]
  refine wpAnyH_ready (rs := [18]) (by kernel_rfl) (by simp) ?_
  refine (AllReadyH.cons (o := { dst := none, op := Op.store 29 (Operand.tmp 3) (Operand.tmp 30), type := 0, pos := "law.go:37", after := #[{ on := 16, ground := Ground.data }, { on := 17, ground := Ground.chain }, { on := 0, ground := Ground.phase }, { on := 1, ground := Ground.phase }, { on := 2, ground := Ground.phase }, { on := 3, ground := Ground.phase }, { on := 4, ground := Ground.phase }, { on := 5, ground := Ground.phase }, { on := 6, ground := Ground.phase }, { on := 7, ground := Ground.phase }, { on := 8, ground := Ground.phase }, { on := 9, ground := Ground.phase }, { on := 10, ground := Ground.phase }, { on := 11, ground := Ground.phase }, { on := 12, ground := Ground.phase }, { on := 13, ground := Ground.phase }, { on := 14, ground := Ground.phase }, { on := 15, ground := Ground.phase }, { on := 16, ground := Ground.phase }, { on := 17, ground := Ground.phase }], guard := none }) rfl (fun K hK => ?_) AllReadyH.nil)
  rw [if_pos (by rfl)]
  have hq := HZ.out.off ((((⟨rfl, rfl, rfl, Nat.le_refl _, fun _ _ _ => rfl⟩ : W.grownBy W.drew none).trans gc1).trans gc2).trans gc3) (fun x e => by cases e)
  obtain ⟨⟨q0, q1, q2, q3, q4, q5⟩, qf⟩ := hq
  have qf0 := qf 0
  have qf1 := qf 1
  have qf2 := qf 2
  have qf3 := qf 3
  have qf4 := qf 4
  have qf5 := qf 5
  clear qf
  go_simp
  clear q0 q1 q2 q3 q4 q5 qf0 qf1 qf2 qf3 qf4 qf5
  have hst := six_set (HZ.out.off ((((⟨rfl, rfl, rfl, Nat.le_refl _, fun _ _ _ => rfl⟩ : W.grownBy W.drew none).trans gc1).trans gc2).trans gc3) (fun x e => by cases e)) (.int .i64 (k : Int)) (.slice a0 pA c0) (.int .i64 (k : Int)) (.slice a1 pB c1) (.int .i64 (k : Int)) (.slice a2 pC c2)
  have hgs := grown_own hgr3 hst.2 (fun k hk => by cases hk; exact Nat.le_refl _)
  have hx0 := ((hs0.grown (gc2.trans gc3)).off hst.2 (fun x e => by cases e; exact .inl hW1W)).here
  have hx1 := ((hs1.grown gc3).off hst.2 (fun x e => by cases e; exact .inl (Nat.lt_of_lt_of_le hW1W (World.grownBy.size ((⟨rfl, rfl, rfl, Nat.le_refl _, fun _ _ _ => rfl⟩ : W.grownBy W.drew none).trans gc1))))).here
  have hx2 := (hs2.off hst.2 (fun x e => by cases e; exact .inl (Nat.lt_of_lt_of_le hW1W (World.grownBy.size (((⟨rfl, rfl, rfl, Nat.le_refl _, fun _ _ _ => rfl⟩ : W.grownBy W.drew none).trans gc1).trans gc2))))).here
  refine hK.out _ _ (HS.out _ hgs) (fun hHeld => ?_)
  clear hK K
  try simp only [Act.put, List.setIfInBounds_toArray, List.set_cons_zero, List.set_cons_succ]
  refine wpAnyH_done (by kernel_rfl) ?_ _
  have hEND := hgs
  clear hHeld
  have HE := Lib.hid (And.intro hst.1 (And.intro hx0 (And.intro hx1 (And.intro hx2 hEND))))
  clear hst hx0 hx1 hx2 hEND hgs
  go_wp2_with fail
  exact bodyPost_ret (results11 _ _ W1.heap.size (n : Int) (k : Int) (k : Int) (k : Int) a0 a1 a2 pA pB pC c0 c1 c2 rfl rfl HE.out.1) rfl ⟨a0, a1, a2, c0, c1, c2, rfl, HE.out.2.1, HE.out.2.2.1, HE.out.2.2.2.1, HG.out.1.trans HE.out.2.2.2.2⟩
end Go.Proofs.Ytkoigonbncpbaaa

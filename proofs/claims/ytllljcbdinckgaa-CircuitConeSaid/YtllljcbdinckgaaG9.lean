/- Circuits: New, Input, And, Or, Iff. -/
import Derived.Test.YtllljcbdinckgaaG8
namespace Go.Proofs.Ytllljcbdinckgaa
open Go.RowKit

/-- A circuit that lies in memory as a value. -/
def CirV (w : World) (v : Value) (gs : List Gt) : Prop := ∃ a c, v = .agg #[.slice a gs.length c] ∧ GatesW w a c gs
theorem CirV.grown {w w' : World} {v : Value} {gs : List Gt} (h : CirV w v gs) (hg : w.grownBy w' none) : CirV w' v gs := by
  obtain ⟨a, c, e, h⟩ := h
  exact ⟨a, c, e, h.grown hg⟩
theorem results12 (tmps : Array Value) (w : World) (b : Nat) (a : Option Addr) (n c : Nat) (x : Int) (ht : tmps.getD 4 undef = .pointer (some ⟨b, 0, none⟩)) (hs : tmps.getD 5 undef = .int .i64 x) (h0 : w.cell? ⟨b, 0, none⟩ = some (.slice a n c)) :
    (results Try.f12 tmps).run Try.prog w = .ok (.tuple #[.agg #[.slice a n c], .int .i64 x]) w := by
  have ht' : tmps[4]?.getD undef = .pointer (some ⟨b, 0, none⟩) := by simpa using ht
  have hs' : tmps[5]?.getD undef = .int .i64 x := by simpa using hs
  simp [results, ht', hs', go_sem, h0, Result.andThen]
theorem results14 (tmps : Array Value) (w : World) (b : Nat) (a : Option Addr) (n c : Nat) (x : Int) (ht : tmps.getD 6 undef = .pointer (some ⟨b, 0, none⟩)) (hs : tmps.getD 7 undef = .int .i64 x) (h0 : w.cell? ⟨b, 0, none⟩ = some (.slice a n c)) :
    (results Try.f14 tmps).run Try.prog w = .ok (.tuple #[.agg #[.slice a n c], .int .i64 x]) w := by
  have ht' : tmps[6]?.getD undef = .pointer (some ⟨b, 0, none⟩) := by simpa using ht
  have hs' : tmps[7]?.getD undef = .int .i64 x := by simpa using hs
  simp [results, ht', hs', go_sem, h0, Result.andThen]
theorem results16 (tmps : Array Value) (w : World) (b : Nat) (a : Option Addr) (n c : Nat) (x : Int) (ht : tmps.getD 6 undef = .pointer (some ⟨b, 0, none⟩)) (hs : tmps.getD 7 undef = .int .i64 x) (h0 : w.cell? ⟨b, 0, none⟩ = some (.slice a n c)) :
    (results Try.f16 tmps).run Try.prog w = .ok (.tuple #[.agg #[.slice a n c], .int .i64 x]) w := by
  have ht' : tmps[6]?.getD undef = .pointer (some ⟨b, 0, none⟩) := by simpa using ht
  have hs' : tmps[7]?.getD undef = .int .i64 x := by simpa using hs
  simp [results, ht', hs', go_sem, h0, Result.andThen]
theorem results18 (tmps : Array Value) (w : World) (b : Nat) (a : Option Addr) (n c : Nat) (x : Int) (ht : tmps.getD 6 undef = .pointer (some ⟨b, 0, none⟩)) (hs : tmps.getD 7 undef = .int .i64 x) (h0 : w.cell? ⟨b, 0, none⟩ = some (.slice a n c)) :
    (results Try.f18 tmps).run Try.prog w = .ok (.tuple #[.agg #[.slice a n c], .int .i64 x]) w := by
  have ht' : tmps[6]?.getD undef = .pointer (some ⟨b, 0, none⟩) := by simpa using ht
  have hs' : tmps[7]?.getD undef = .int .i64 x := by simpa using hs
  simp [results, ht', hs', go_sem, h0, Result.andThen]

set_option maxRecDepth 100000 in
set_option maxHeartbeats 4000000 in
theorem cinput_calls (gs : List Gt) (v : Int) (a : Option Addr) (c : Nat) (w : World) (h : GatesW w a c gs) (hG : Good gs) (hl : gs.length ≤ 900) :
    Calls Try.prog 12 #[.agg #[.slice a gs.length c], .int .i64 v] w fun e w' => ∃ y, e = .returned (.tuple #[y, .int .i64 (inputC gs v).2]) ∧ CirV w' y (inputC gs v).1 ∧ w.grownBy w' none := by
  obtain ⟨n, hn⟩ : ∃ n, gs.length = n := ⟨_, rfl⟩
  have hg1 := World.grownBy_alloc w (.cells #[.slice a n c] 25) none
  obtain ⟨W1, hW1⟩ : ∃ W, w.alloc (.cells #[.slice a n c] 25) = W := ⟨_, rfl⟩
  have e1 := one_cell w (.slice a n c) 25
  rw [hW1] at hg1 e1
  have hg2 := World.grownBy_alloc W1 (.cells #[.slice none 0 0] 25) none
  have e2 := one_cell W1 (.slice none 0 0) 25
  obtain ⟨W2, hW2⟩ : ∃ W, W1.alloc (.cells #[.slice none 0 0] 25) = W := ⟨_, rfl⟩
  rw [hW2] at hg2 e2
  have r1 := hg2.cell e1.2.1 (by simp)
  have HR := Lib.hid e2
  have HW := Lib.hid (World.grownBy.trans hg1 hg2)
  have HGA := Lib.hid ((h.grown hg1).grown hg2)
  have HG := Lib.hid hG
  have HL := Lib.hid (And.intro hl hG.pos)
  have HN := Lib.hid hn
  have HS1 := Lib.hid (show w.heap.size ≤ W1.heap.size from hg1.size)
  have HF := Lib.hid (from_calls gs a c W2 HGA.out)
  clear h hg1 hg2 e1 e2 hG hl hn
  rw [HN.out] at HF ⊢
  go_enter Try.func12, Try.ntmps12
  go_wp2_with fail
  refine HF.out.mono ?_
  rintro e w3 ⟨p, rfl, hp, hgr, hg3⟩
  have HP := Lib.hid hp
  have HG3 := Lib.hid hg3
  have HGR := Lib.hid (show GR p W2 0 0 gs w3 from ⟨_, _, _, _, hgr, ⟨Int.le_refl _, Int.le_refl _⟩, hg3⟩)
  clear hgr hp hg3 r1 HF
  go_wp2_with fail
  refine (ginput_calls gs v p w3 W2 0 0 HGR.out HG.out (by have := HL.out.1; omega) (Int.le_refl _) (by omega) HP.out).mono ?_
  rintro e w4 ⟨rfl, hq⟩
  have HQ := Lib.hid hq
  clear hq
  go_wp2_with fail
  refine (gcircuit_calls (inputC gs v).1 p _ W2 0 _ HQ.out (by have h1 := input_len (gs := gs) v; have h2 := HL.out.1; omega) HP.out).mono ?_
  rintro e w5 ⟨a5, c5, rfl, hx, hg5⟩
  have HX := Lib.hid hx
  have HG5 := Lib.hid hg5
  have r5 := hg5.cell HR.out.2.1 (by simp)
  have f5 : w5.frozen? ⟨W1.heap.size, 0, none⟩ = false := (grown_frozen hg5 HR.out.1 0).trans HR.out.2.2
  clear hx hg5
  go_wp2_with fail
  refine bodyPost_ret (results12 _ _ W1.heap.size a5 _ c5 _ rfl rfl (World.cell?_setCell_same _ _ _ r5)) rfl ⟨_, rfl, ⟨a5, c5, rfl, ?_⟩, grown_own (World.grownBy.trans HW.out HG5.out) (grown_set w5 W1.heap.size 0 _) (fun k e => by cases e; exact HS1.out)⟩
  exact (HX.out.off (grown_set w5 W1.heap.size 0 _) (fun x e => by cases e; exact .inl (by have h1 := HP.out; have h2 := HR.out.1; omega))).here

set_option maxRecDepth 100000 in
set_option maxHeartbeats 4000000 in
theorem cand_calls (gs : List Gt) (a0 b0 : Int) (a : Option Addr) (c : Nat) (w : World) (h : GatesW w a c gs) (hG : Good gs) (hl : gs.length ≤ 900) (ha : a0 ≤ 9223372036854775807) (hb : b0 ≤ 9223372036854775807) :
    Calls Try.prog 14 #[.agg #[.slice a gs.length c], .int .i64 a0, .int .i64 b0] w fun e w' => ∃ y, e = .returned (.tuple #[y, .int .i64 (andC gs a0 b0).2]) ∧ CirV w' y (andC gs a0 b0).1 ∧ w.grownBy w' none := by
  obtain ⟨n, hn⟩ : ∃ n, gs.length = n := ⟨_, rfl⟩
  have hg1 := World.grownBy_alloc w (.cells #[.slice a n c] 25) none
  obtain ⟨W1, hW1⟩ : ∃ W, w.alloc (.cells #[.slice a n c] 25) = W := ⟨_, rfl⟩
  have e1 := one_cell w (.slice a n c) 25
  rw [hW1] at hg1 e1
  have hg2 := World.grownBy_alloc W1 (.cells #[.slice none 0 0] 25) none
  have e2 := one_cell W1 (.slice none 0 0) 25
  obtain ⟨W2, hW2⟩ : ∃ W, W1.alloc (.cells #[.slice none 0 0] 25) = W := ⟨_, rfl⟩
  rw [hW2] at hg2 e2
  have r1 := hg2.cell e1.2.1 (by simp)
  have HR := Lib.hid e2
  have HW := Lib.hid (World.grownBy.trans hg1 hg2)
  have HGA := Lib.hid ((h.grown hg1).grown hg2)
  have HG := Lib.hid hG
  have HL := Lib.hid (And.intro hl hG.pos)
  have HN := Lib.hid hn
  have HS1 := Lib.hid (show w.heap.size ≤ W1.heap.size from hg1.size)
  have HF := Lib.hid (from_calls gs a c W2 HGA.out)
  clear h hg1 hg2 e1 e2 hG hl hn
  have HAB := Lib.hid (And.intro ha hb)
  clear ha hb
  rw [HN.out] at HF ⊢
  go_enter Try.func14, Try.ntmps14
  go_wp2_with fail
  refine HF.out.mono ?_
  rintro e w3 ⟨p, rfl, hp, hgr, hg3⟩
  have HP := Lib.hid hp
  have HG3 := Lib.hid hg3
  have HGR := Lib.hid (show GR p W2 0 0 gs w3 from ⟨_, _, _, _, hgr, ⟨Int.le_refl _, Int.le_refl _⟩, hg3⟩)
  clear hgr hp hg3 r1 HF
  go_wp2_with fail
  refine (gand_calls gs a0 b0 p w3 W2 0 0 HGR.out HG.out (by have := HL.out.1; omega) (Int.le_refl _) (by omega) HP.out).mono ?_
  rintro e w4 ⟨rfl, hq⟩
  have HQ := Lib.hid hq
  clear hq
  go_wp2_with fail
  refine (gcircuit_calls (andC gs a0 b0).1 p _ W2 0 _ HQ.out (by have h1 := and_len (gs := gs) a0 b0; have h2 := HL.out.1; omega) HP.out).mono ?_
  rintro e w5 ⟨a5, c5, rfl, hx, hg5⟩
  have HX := Lib.hid hx
  have HG5 := Lib.hid hg5
  have r5 := hg5.cell HR.out.2.1 (by simp)
  have f5 : w5.frozen? ⟨W1.heap.size, 0, none⟩ = false := (grown_frozen hg5 HR.out.1 0).trans HR.out.2.2
  clear hx hg5
  go_wp2_with fail
  refine bodyPost_ret (results14 _ _ W1.heap.size a5 _ c5 _ rfl rfl (World.cell?_setCell_same _ _ _ r5)) rfl ⟨_, rfl, ⟨a5, c5, rfl, ?_⟩, grown_own (World.grownBy.trans HW.out HG5.out) (grown_set w5 W1.heap.size 0 _) (fun k e => by cases e; exact HS1.out)⟩
  exact (HX.out.off (grown_set w5 W1.heap.size 0 _) (fun x e => by cases e; exact .inl (by have h1 := HP.out; have h2 := HR.out.1; omega))).here

set_option maxRecDepth 100000 in
set_option maxHeartbeats 4000000 in
theorem cor_calls (gs : List Gt) (a0 b0 : Int) (a : Option Addr) (c : Nat) (w : World) (h : GatesW w a c gs) (hG : Good gs) (hl : gs.length ≤ 900) (ha : a0 ≤ 9223372036854775807) (hb : b0 ≤ 9223372036854775807) :
    Calls Try.prog 16 #[.agg #[.slice a gs.length c], .int .i64 a0, .int .i64 b0] w fun e w' => ∃ y, e = .returned (.tuple #[y, .int .i64 (orC gs a0 b0).2]) ∧ CirV w' y (orC gs a0 b0).1 ∧ w.grownBy w' none := by
  obtain ⟨n, hn⟩ : ∃ n, gs.length = n := ⟨_, rfl⟩
  have hg1 := World.grownBy_alloc w (.cells #[.slice a n c] 25) none
  obtain ⟨W1, hW1⟩ : ∃ W, w.alloc (.cells #[.slice a n c] 25) = W := ⟨_, rfl⟩
  have e1 := one_cell w (.slice a n c) 25
  rw [hW1] at hg1 e1
  have hg2 := World.grownBy_alloc W1 (.cells #[.slice none 0 0] 25) none
  have e2 := one_cell W1 (.slice none 0 0) 25
  obtain ⟨W2, hW2⟩ : ∃ W, W1.alloc (.cells #[.slice none 0 0] 25) = W := ⟨_, rfl⟩
  rw [hW2] at hg2 e2
  have r1 := hg2.cell e1.2.1 (by simp)
  have HR := Lib.hid e2
  have HW := Lib.hid (World.grownBy.trans hg1 hg2)
  have HGA := Lib.hid ((h.grown hg1).grown hg2)
  have HG := Lib.hid hG
  have HL := Lib.hid (And.intro hl hG.pos)
  have HN := Lib.hid hn
  have HS1 := Lib.hid (show w.heap.size ≤ W1.heap.size from hg1.size)
  have HF := Lib.hid (from_calls gs a c W2 HGA.out)
  clear h hg1 hg2 e1 e2 hG hl hn
  have HAB := Lib.hid (And.intro ha hb)
  clear ha hb
  rw [HN.out] at HF ⊢
  go_enter Try.func16, Try.ntmps16
  go_wp2_with fail
  refine HF.out.mono ?_
  rintro e w3 ⟨p, rfl, hp, hgr, hg3⟩
  have HP := Lib.hid hp
  have HG3 := Lib.hid hg3
  have HGR := Lib.hid (show GR p W2 0 0 gs w3 from ⟨_, _, _, _, hgr, ⟨Int.le_refl _, Int.le_refl _⟩, hg3⟩)
  clear hgr hp hg3 r1 HF
  go_wp2_with fail
  refine (gor_calls gs a0 b0 p w3 W2 0 0 HGR.out HG.out (by have := HL.out.1; omega) (Int.le_refl _) (by omega) HP.out HAB.out.1 HAB.out.2).mono ?_
  rintro e w4 ⟨rfl, hq⟩
  have HQ := Lib.hid hq
  clear hq
  go_wp2_with fail
  refine (gcircuit_calls (orC gs a0 b0).1 p _ W2 0 _ HQ.out (by have h1 := or_len (gs := gs) a0 b0; have h2 := HL.out.1; omega) HP.out).mono ?_
  rintro e w5 ⟨a5, c5, rfl, hx, hg5⟩
  have HX := Lib.hid hx
  have HG5 := Lib.hid hg5
  have r5 := hg5.cell HR.out.2.1 (by simp)
  have f5 : w5.frozen? ⟨W1.heap.size, 0, none⟩ = false := (grown_frozen hg5 HR.out.1 0).trans HR.out.2.2
  clear hx hg5
  go_wp2_with fail
  refine bodyPost_ret (results16 _ _ W1.heap.size a5 _ c5 _ rfl rfl (World.cell?_setCell_same _ _ _ r5)) rfl ⟨_, rfl, ⟨a5, c5, rfl, ?_⟩, grown_own (World.grownBy.trans HW.out HG5.out) (grown_set w5 W1.heap.size 0 _) (fun k e => by cases e; exact HS1.out)⟩
  exact (HX.out.off (grown_set w5 W1.heap.size 0 _) (fun x e => by cases e; exact .inl (by have h1 := HP.out; have h2 := HR.out.1; omega))).here

set_option maxRecDepth 100000 in
set_option maxHeartbeats 4000000 in
theorem ciff_calls (gs : List Gt) (a0 b0 : Int) (a : Option Addr) (c : Nat) (w : World) (h : GatesW w a c gs) (hG : Good gs) (hl : gs.length ≤ 900) (ha : a0 ≤ 9223372036854775807) (hb : b0 ≤ 9223372036854775807) :
    Calls Try.prog 18 #[.agg #[.slice a gs.length c], .int .i64 a0, .int .i64 b0] w fun e w' => ∃ y, e = .returned (.tuple #[y, .int .i64 (iffC gs a0 b0).2]) ∧ CirV w' y (iffC gs a0 b0).1 ∧ w.grownBy w' none := by
  obtain ⟨n, hn⟩ : ∃ n, gs.length = n := ⟨_, rfl⟩
  have hg1 := World.grownBy_alloc w (.cells #[.slice a n c] 25) none
  obtain ⟨W1, hW1⟩ : ∃ W, w.alloc (.cells #[.slice a n c] 25) = W := ⟨_, rfl⟩
  have e1 := one_cell w (.slice a n c) 25
  rw [hW1] at hg1 e1
  have hg2 := World.grownBy_alloc W1 (.cells #[.slice none 0 0] 25) none
  have e2 := one_cell W1 (.slice none 0 0) 25
  obtain ⟨W2, hW2⟩ : ∃ W, W1.alloc (.cells #[.slice none 0 0] 25) = W := ⟨_, rfl⟩
  rw [hW2] at hg2 e2
  have r1 := hg2.cell e1.2.1 (by simp)
  have HR := Lib.hid e2
  have HW := Lib.hid (World.grownBy.trans hg1 hg2)
  have HGA := Lib.hid ((h.grown hg1).grown hg2)
  have HG := Lib.hid hG
  have HL := Lib.hid (And.intro hl hG.pos)
  have HN := Lib.hid hn
  have HS1 := Lib.hid (show w.heap.size ≤ W1.heap.size from hg1.size)
  have HF := Lib.hid (from_calls gs a c W2 HGA.out)
  clear h hg1 hg2 e1 e2 hG hl hn
  have HAB := Lib.hid (And.intro ha hb)
  clear ha hb
  rw [HN.out] at HF ⊢
  go_enter Try.func18, Try.ntmps18
  go_wp2_with fail
  refine HF.out.mono ?_
  rintro e w3 ⟨p, rfl, hp, hgr, hg3⟩
  have HP := Lib.hid hp
  have HG3 := Lib.hid hg3
  have HGR := Lib.hid (show GR p W2 0 0 gs w3 from ⟨_, _, _, _, hgr, ⟨Int.le_refl _, Int.le_refl _⟩, hg3⟩)
  clear hgr hp hg3 r1 HF
  have HX1 := Lib.hid (show (andC gs a0 (notR b0)).2 ≤ 9223372036854775807 from and_le HAB.out.1 (notR_le HAB.out.2) (by have := HL.out.1; omega))
  have HS1' := Lib.hid (step_and HG.out a0 (notR b0))
  have HY1 := Lib.hid (show (andC (andC gs a0 (notR b0)).1 (notR a0) b0).2 ≤ 9223372036854775807 from and_le (notR_le HAB.out.1) HAB.out.2 (by have h1 := and_len (gs := gs) a0 (notR b0); have h2 := HL.out.1; omega))
  have HS2' := Lib.hid (step_and HS1'.out.good (notR a0) b0)
  go_wp2_with (go_at_call 25; refine (not25_calls _ _ (by first | exact HAB.out.1 | exact HAB.out.2 | exact HX1.out | exact HY1.out)).mono ?_; rintro e w9 ⟨rfl, hw9⟩; rw [hw9]; clear hw9 w9)
  go_at_call 38
  refine (gand_calls gs a0 (notR b0) p w3 W2 0 0 HGR.out HG.out (by have := HL.out.1; omega) (Int.le_refl _) (by omega) HP.out).mono ?_
  rintro e w4 ⟨rfl, hq⟩
  have HQ1 := Lib.hid hq
  clear hq
  go_wp2_with (go_at_call 25; refine (not25_calls _ _ (by first | exact HAB.out.1 | exact HAB.out.2 | exact HX1.out | exact HY1.out)).mono ?_; rintro e w9 ⟨rfl, hw9⟩; rw [hw9]; clear hw9 w9)
  go_at_call 38
  refine (gand_calls (andC gs a0 (notR b0)).1 (notR a0) b0 p w4 W2 0 _ HQ1.out HS1'.out.good (by have h1 := and_len (gs := gs) a0 (notR b0); have h2 := HL.out.1; omega) (Int.le_refl _) (by have h1 := HS1'.out.pre.length_le; omega) HP.out).mono ?_
  rintro e w5 ⟨rfl, hq⟩
  have HQ2 := Lib.hid hq
  clear hq
  go_wp2_with (go_at_call 25; refine (not25_calls _ _ (by first | exact HAB.out.1 | exact HAB.out.2 | exact HX1.out | exact HY1.out)).mono ?_; rintro e w9 ⟨rfl, hw9⟩; rw [hw9]; clear hw9 w9)
  go_at_call 38
  refine (gand_calls (andC (andC gs a0 (notR b0)).1 (notR a0) b0).1 (notR (andC gs a0 (notR b0)).2) (notR (andC (andC gs a0 (notR b0)).1 (notR a0) b0).2) p w5 W2 0 _ HQ2.out HS2'.out.good (by have h1 := and_len (gs := gs) a0 (notR b0); have h3 := and_len (gs := (andC gs a0 (notR b0)).1) (notR a0) b0; have h2 := HL.out.1; omega) (Int.le_refl _) (by have h1 := HS1'.out.pre.length_le; have h2 := HS2'.out.pre.length_le; omega) HP.out).mono ?_
  rintro e w6 ⟨rfl, hq⟩
  have HQ := Lib.hid hq
  clear hq
  go_wp2_with fail
  refine (gcircuit_calls (iffC gs a0 b0).1 p _ W2 0 _ HQ.out (by have h1 := iff_len (gs := gs) a0 b0; have h2 := HL.out.1; omega) HP.out).mono ?_
  rintro e w7 ⟨a5, c5, rfl, hx, hg5⟩
  have HX := Lib.hid hx
  have HG5 := Lib.hid hg5
  have r5 := hg5.cell HR.out.2.1 (by simp)
  have f5 : w7.frozen? ⟨W1.heap.size, 0, none⟩ = false := (grown_frozen hg5 HR.out.1 0).trans HR.out.2.2
  clear hx hg5
  go_wp2_with fail
  refine bodyPost_ret (results18 _ _ W1.heap.size a5 _ c5 _ rfl rfl (World.cell?_setCell_same _ _ _ r5)) rfl ⟨_, rfl, ⟨a5, c5, rfl, ?_⟩, grown_own (World.grownBy.trans HW.out HG5.out) (grown_set w7 W1.heap.size 0 _) (fun k e => by cases e; exact HS1.out)⟩
  exact (HX.out.off (grown_set w7 W1.heap.size 0 _) (fun x e => by cases e; exact .inl (by have h1 := HP.out; have h2 := HR.out.1; omega))).here

theorem results27 (tmps : Array Value) (w : World) (b : Nat) (a : Option Addr) (n c : Nat) (ht : tmps.getD 0 undef = .pointer (some ⟨b, 0, none⟩)) (h0 : w.cell? ⟨b, 0, none⟩ = some (.slice a n c)) :
    (results Try.f27 tmps).run Try.prog w = .ok (.agg #[.slice a n c]) w := by
  have ht' : tmps[0]?.getD undef = .pointer (some ⟨b, 0, none⟩) := by simpa using ht
  simp [results, ht', go_sem, h0, Result.andThen]
set_option maxHeartbeats 1000000 in
theorem cnew_calls (w : World) : Calls Try.prog 27 #[] w fun e w' => ∃ y, e = .returned y ∧ CirV w' y [(0, 0, 0)] ∧ w.grownBy w' none := by
  have hg1 := World.grownBy_alloc w (.cells #[.slice none 0 0] 25) none
  have e1 := one_cell w (.slice none 0 0) 25
  obtain ⟨W1, hW1⟩ : ∃ W, w.alloc (.cells #[.slice none 0 0] 25) = W := ⟨_, rfl⟩
  rw [hW1] at hg1 e1
  have hg2 := World.grownBy_alloc W1 (.cells #[.int .i64 0, .int .i64 0, .int .i64 0] 47) none
  have hx := gate_cells W1 (0, 0, 0)
  have ht := ty_alloc W1 #[.int .i64 0, .int .i64 0, .int .i64 0]
  obtain ⟨W2, hW2⟩ : ∃ W, W1.alloc (.cells #[.int .i64 0, .int .i64 0, .int .i64 0] 47) = W := ⟨_, rfl⟩
  rw [hW2] at hg2 hx ht
  have r1 := hg2.cell e1.2.1 (by simp)
  have HE := Lib.hid e1
  have rf : W2.frozen? ⟨w.heap.size, 0, none⟩ = false := (grown_frozen hg2 e1.1 0).trans e1.2.2
  have HG := Lib.hid (World.grownBy.trans hg1 hg2)
  have HX := Lib.hid (And.intro hx ht)
  have HSZ := Lib.hid (show W1.heap.size < W2.heap.size from lies_lt hx.1)
  clear hg1 hg2 hx ht e1
  go_enter Try.func27, Try.ntmps27
  go_wp2_with fail
  refine bodyPost_ret (results27 _ _ w.heap.size _ 1 1 rfl (World.cell?_setCell_same _ _ _ r1)) rfl ⟨_, rfl, ⟨_, 1, rfl, gate_news (HX.out.1.moved (grown_set W2 w.heap.size 0 _) (fun e => by injection e with e; have := HE.out.1; omega)) (HX.out.2.set _ _)⟩, grown_own HG.out (grown_set W2 w.heap.size 0 _) (fun k e => by cases e; exact Nat.le_refl _)⟩
end Go.Proofs.Ytllljcbdinckgaa

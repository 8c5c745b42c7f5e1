/- From: a relation out of raw numbers. -/
import Derived.Test.YtkoigonbncpbaaaB1
namespace Go.Proofs.Ytkoigonbncpbaaa
open Go.RowKit

/-- A row of small numbers that came in. -/
def U16s (w : World) (a : Option Addr) (c : Nat) (us : List Nat) : Prop :=
  us.length ≤ c ∧ (us = [] ∨ ∃ b o, a = some ⟨b, o, none⟩ ∧ ∀ j u : Nat, us[j]? = some u → u < 65536 ∧ w.cell? ⟨b, o + j, none⟩ = some (.int .u16 (u : Int)))
theorem U16s.grown {w w' : World} {a : Option Addr} {c : Nat} {us : List Nat} (h : U16s w a c us) (hg : w.grownBy w' none) : U16s w' a c us := by
  obtain ⟨hc, h | ⟨b, o, ha, hz⟩⟩ := h
  · exact ⟨hc, .inl h⟩
  · exact ⟨hc, .inr ⟨b, o, ha, fun j z hj => ⟨(hz j z hj).1, hg.cell (hz j z hj).2 (by simp)⟩⟩⟩
theorem U16s.at {w : World} {a : Option Addr} {c : Nat} {us : List Nat} (h : U16s w a c us) {i u : Nat} (hz : us[i]? = some u) : ∃ b o, a = some ⟨b, o, none⟩ ∧ u < 65536 ∧ w.cell? ⟨b, o + i, none⟩ = some (.int .u16 (u : Int)) := by
  obtain ⟨_, rfl | ⟨b, o, ha, h⟩⟩ := h
  · simp at hz
  · exact ⟨b, o, ha, h i u hz⟩
def fromR (n k : Nat) (raw : List Nat) : List Int := (raw.take 40).map fun u => ((u % n ^ k : Nat) : Int)
abbrev fromL (n k : Nat) (raw : List Nat) : List Int := uniq (fromR n k raw)
theorem fromR_len (n k : Nat) (raw : List Nat) : (fromR n k raw).length = min 40 raw.length := by simp [fromR]
theorem fromR_at {n k : Nat} {raw : List Nat} {i u : Nat} (hi : i < 40) (h : raw[i]? = some u) : (fromR n k raw)[i]? = some ((u % n ^ k : Nat) : Int) := by
  rw [fromR, List.getElem?_map, List.getElem?_take, if_pos hi, h]
  rfl
theorem fromL_up (n k : Nat) (raw : List Nat) : Up (fromL n k raw) := uniq_up _
theorem fromL_in {n k : Nat} {raw : List Nat} (hn : 1 ≤ n) {z : Int} (h : z ∈ fromL n k raw) : 0 ≤ z ∧ z < ((n ^ k : Nat) : Int) := by
  obtain ⟨u, _, rfl⟩ := List.mem_map.1 (mem_uniq.1 h)
  have h1 := Nat.mod_lt u (Nat.pow_pos (n := k) (show 0 < n by omega))
  exact ⟨Int.natCast_nonneg _, Int.ofNat_lt.2 h1⟩
theorem fromL_len (n k : Nat) (raw : List Nat) : (fromL n k raw).length ≤ 40 := by
  have h1 := ofTo_len (rs := fromR n k raw) (i := (fromR n k raw).length)
  have h2 := fromR_len n k raw
  show (ofTo (fromR n k raw) (fromR n k raw).length).length ≤ 40
  omega

theorem results12 (tmps : Array Value) (w : World) (b : Nat) (a : Option Addr) (n c : Nat) (x : Int) (ht : tmps.getD 6 undef = .pointer (some ⟨b, 0, none⟩)) (h0 : w.cell? ⟨b, 0, none⟩ = some (.int .i64 x)) (h1 : w.cell? ⟨b, 1, none⟩ = some (.slice a n c)) :
    (results Try.f12 tmps).run Try.prog w = .ok (.agg #[.int .i64 x, .slice a n c]) w := by
  have ht' : tmps[6]?.getD undef = .pointer (some ⟨b, 0, none⟩) := by simpa using ht
  simp [results, ht', go_sem, h0, h1, Result.andThen]

set_option maxRecDepth 100000 in
set_option maxHeartbeats 8000000 in
theorem from_calls (n k : Nat) (raw : List Nat) (ra : Option Addr) (rc : Nat) (w : World) (h : U16s w ra rc raw) (hn : 1 ≤ n) (hn2 : n ≤ 12) (hk : k ≤ 3) (hl : (raw.length : Int) ≤ 9223372036854775807) :
    Calls Try.prog 12 #[.int .i64 (n : Int), .int .i64 (k : Int), .slice ra raw.length rc] w fun e w' => ∃ a c, e = .returned (.agg #[.int .i64 (k : Int), .slice a (fromL n k raw).length c]) ∧ Span w.heap.size w'.heap.size w' (fun W => IntsW W a c (fromL n k raw)) ∧ w.grownBy w' none := by
  obtain ⟨L, hL⟩ : ∃ L, raw.length = L := ⟨_, rfl⟩
  obtain ⟨rs, hrs⟩ : ∃ rs, fromR n k raw = rs := ⟨_, rfl⟩
  have hlen := fromR_len n k raw
  rw [hrs, hL] at hlen
  obtain ⟨M, hM⟩ : ∃ M, n ^ k = M := ⟨_, rfl⟩
  have hM2 : M ≤ 1728 := by rw [← hM]; exact pow_small hn2 hk
  have hM1 : 1 ≤ M := by rw [← hM]; exact Nat.pow_pos (by omega)
  have HPW := Lib.hid (fun (U : World) => power9_calls n k U hn2 hk)
  rw [hM] at HPW
  show Calls _ _ _ _ (fun e w' => ∃ a c, e = .returned (.agg #[.int .i64 (k : Int), .slice a (uniq (fromR n k raw)).length c]) ∧ Span w.heap.size w'.heap.size w' (fun W => IntsW W a c (uniq (fromR n k raw))) ∧ w.grownBy w' none)
  rw [hrs]
  have HAT := Lib.hid (fun (i u : Nat) (hi : i < 40) (h : raw[i]? = some u) => fromR_at (n := n) (k := k) hi h)
  rw [hrs, hM] at HAT
  obtain ⟨Q, hQ⟩ : ∃ Q, rs.length = Q := ⟨_, rfl⟩
  have hQL : Q = min 40 L := by rw [← hQ, hlen]
  show Calls _ _ _ _ (fun e w' => ∃ a c, e = .returned (.agg #[.int .i64 (k : Int), .slice a (ofTo rs rs.length).length c]) ∧ Span w.heap.size w'.heap.size w' (fun W => IntsW W a c (ofTo rs rs.length)) ∧ w.grownBy w' none)
  rw [hQ]
  rw [hL] at hl ⊢
  have HH0 := Lib.hid (And.intro h hL)
  clear h hL hlen hrs hM
  have hc := one_cells w (.int .i64 0) (.slice none 0 0) 27
  have hg := World.grownBy_alloc w (.cells #[.int .i64 0, .slice none 0 0] 27) none
  have hsz : (w.alloc (.cells #[.int .i64 0, .slice none 0 0] 27)).heap.size = w.heap.size + 1 := by simp
  obtain ⟨W, hW⟩ : ∃ W, w.alloc (.cells #[.int .i64 0, .slice none 0 0] 27) = W := ⟨_, rfl⟩
  rw [hW] at hc hg hsz
  have HG := Lib.hid (And.intro hg hsz); clear hg hsz
  have HC := Lib.hid hc
  obtain ⟨_, e0, e1, ef0, ef1⟩ := hc
  have HH := Lib.hid (And.intro (HH0.out.1.grown HG.out.1) HH0.out.2); clear HH0
  have HB0 := Lib.hid (OfBox.new W (k : Int))
  have HG0 := Lib.hid (World.grownBy_alloc W (.cells #[.int .i64 (k : Int), .slice none 0 0] 27) none)
  have HQ := Lib.hid (And.intro hQ hQL); clear hQ hQL
  go_enter Try.func12, Try.ntmps12
  go_wp2_with fail
  clear hW e0 e1 ef0 ef1
  obtain ⟨W1, hW1⟩ : ∃ W1, W.alloc (.cells #[.int .i64 (k : Int), .slice none 0 0] 27) = W1 := ⟨_, rfl⟩
  rw [hW1] at HB0 HG0 ⊢
  clear hW1
  go_loopg [8] Q (fun g s8 wr => ∃ (i : Nat) (va : Option Addr) (vc : Nat), s8 = .int .i64 (i : Int) ∧ g = Q - i ∧ i ≤ Q ∧ OfBox W.heap.size wr (k : Int) va vc (ofTo rs i) ∧ W.grownBy wr none)
  case atStart => exact ⟨0, none, 0, rfl, rfl, Nat.zero_le _, HB0.out, HG0.out⟩
  case round =>
    obtain ⟨i, va, vc, rfl, hgk, hi, hbx, hgr⟩ := hrel
    have HBX := Lib.hid hbx; clear hbx
    have HWR := Lib.hid hgr; clear hgr
    have HI := Lib.hid hgk; clear hgk
    by_cases hin : i < Q
    · have hiL : i < L := by have := HQ.out.2; omega
      have hi40 : i < 40 := by have := HQ.out.2; omega
      have hinB : decide (i < L) = true := by simpa using hiL
      have hinB2 : decide (i < 40) = true := by simpa using hi40
      have hinB3 : decide ((i : Int) < 40) = true := by simp; omega
      have hinI : (i : Int) < (L : Int) := by omega
      obtain ⟨u, hu⟩ : ∃ u, raw[i]? = some u := ⟨_, List.getElem?_eq_getElem (by rw [HH.out.2]; exact hiL)⟩
      have hz := HAT.out i u hi40 hu
      obtain ⟨b, o, rfl, hu16, hcell0⟩ := HH.out.1.at hu
      obtain ⟨r, hr⟩ : ∃ r, u % M = r := ⟨_, rfl⟩
      rw [hr] at hz
      have hrM : r < M := by rw [← hr]; exact Nat.mod_lt _ (by omega)
      have hmod : (u : Int).tmod (M : Int) = (r : Int) := by rw [Int.tmod_eq_emod_of_nonneg (by omega)]; omega
      have hwu : IntKind.i64.wrap (u : Int) = (u : Int) := IntWalk.i64_in _ (by omega)
      have hM0 : M ≠ 0 := by omega
      have hmx : max (M : Int) 1 = (M : Int) := by omega
      have hmy : (1 : Int) ≤ (M : Int) := by omega
      have HNX := Lib.hid (ofTo_next hz)
      have HLE := Lib.hid (ofTo_len (rs := rs) (i := i))
      have HAD := Lib.hid (fun (U : World) (g : wr.grownBy U none) => add_calls (ofTo rs i) va vc (W.heap.size + 1) (r : Int) U (HBX.out.grown g).sp (HBX.out.grown g).low (by have := HLE.out; omega) ofTo_up)
      rw [← HNX.out] at HAD
      clear hz hu hr
      obtain ⟨p, hp⟩ : ∃ p, (ofTo rs i).length = p := ⟨_, rfl⟩
      obtain ⟨p2, hp2⟩ : ∃ p, (ofTo rs (i + 1)).length = p := ⟨_, rfl⟩
      rw [hp, hp2] at HAD
      have HP := Lib.hid (And.intro hp hp2); clear hp hp2
      go_wp2_with fail
      have HS := Lib.hid (fun (Wh : World) (hWh : W.grownBy Wh none) => (⟨hWh, hWh.cell hcell0 (by simp)⟩ : (fun Wh : World => W.grownBy Wh none ∧ Wh.cell? ⟨b, o + i, none⟩ = some (.int .u16 (u : Int))) Wh))
      have hdr : W.grownBy wr.drew none := World.grownBy.trans HWR.out (⟨rfl, rfl, rfl, Nat.le_refl _, fun _ _ _ => rfl⟩ : wr.grownBy wr.drew none)
      refine wp_region_held_drew (S := (fun Wh : World => W.grownBy Wh none ∧ Wh.cell? ⟨b, o + i, none⟩ = some (.int .u16 (u : Int)))) (by kernel_rfl) (HS.out _ hdr) (fun hHeld => ?_)
      refine wpAnyH_take (i := 0) (oi := { dst := some 21, op := Op.fieldAddr 27 (Operand.tmp 7) 1, type := 0, pos := "ref.go:210", after := #[], guard := none }) (v := ?_) rfl (by kernel_rfl) (by kernel_rfl) (by kernel_rfl) (fun _ _ _ h => h) (Or.inl ⟨by rfl, ?_⟩) (by assumption) ?_
      rotate_left 1
      · (intro W hSW; (try dsimp only at hSW); first | (go_simp; done) | (go_simp; with_reducible rfl))
      try simp only [Act.put, List.setIfInBounds_toArray, List.set_cons_zero, List.set_cons_succ]
      refine wpAnyH_take (i := 2) (oi := { dst := some 23, op := Op.move (Operand.tmp 2), type := 22, pos := "ref.go:210", after := #[], guard := none }) (v := ?_) rfl (by kernel_rfl) (by kernel_rfl) (by kernel_rfl) (fun _ _ _ h => h) (Or.inl ⟨by rfl, ?_⟩) (by assumption) ?_
      rotate_left 1
      · (intro W hSW; (try dsimp only at hSW); first | (go_simp; done) | (go_simp; with_reducible rfl))
      try simp only [Act.put, List.setIfInBounds_toArray, List.set_cons_zero, List.set_cons_succ]
      refine wpAnyH_take (i := 3) (oi := { dst := some 24, op := Op.move (Operand.tmp 8), type := 3, pos := "ref.go:210", after := #[], guard := none }) (v := ?_) rfl (by kernel_rfl) (by kernel_rfl) (by kernel_rfl) (fun _ _ _ h => h) (Or.inl ⟨by rfl, ?_⟩) (by assumption) ?_
      rotate_left 1
      · (intro W hSW; (try dsimp only at hSW); first | (go_simp; done) | (go_simp; with_reducible rfl))
      try simp only [Act.put, List.setIfInBounds_toArray, List.set_cons_zero, List.set_cons_succ]
      refine wpAnyH_take (i := 4) (oi := { dst := some 25, op := Op.indexAddr 22 (Operand.tmp 23) (Operand.tmp 24), type := 0, pos := "ref.go:210", after := #[{ on := 2, ground := Ground.data }, { on := 3, ground := Ground.data }], guard := none }) (v := ?_) rfl (by kernel_rfl) (by kernel_rfl) (by kernel_rfl) (fun _ _ _ h => h) (Or.inl ⟨by rfl, ?_⟩) (by assumption) ?_
      rotate_left 1
      · (intro W hSW; (try dsimp only at hSW); first | (go_simp; done) | (go_simp; with_reducible rfl))
      try simp only [Act.put, List.setIfInBounds_toArray, List.set_cons_zero, List.set_cons_succ]
      refine wpAnyH_take (i := 5) (oi := { dst := some 26, op := Op.load 51 (Operand.tmp 25), type := 51, pos := "ref.go:210", after := #[{ on := 4, ground := Ground.data }], guard := none }) (v := ?_) rfl (by kernel_rfl) (by kernel_rfl) (by kernel_rfl) (fun _ _ _ h => h) (Or.inl ⟨by rfl, ?_⟩) (by assumption) ?_
      rotate_left 1
      · (intro W hSW; (try dsimp only at hSW); first | (go_simp; done) | (go_simp; with_reducible rfl))
      try simp only [Act.put, List.setIfInBounds_toArray, List.set_cons_zero, List.set_cons_succ]
      refine wpAnyH_take (i := 6) (oi := { dst := some 27, op := Op.convert 51 3 (Operand.tmp 26), type := 3, pos := "ref.go:210", after := #[{ on := 5, ground := Ground.data }], guard := none }) (v := ?_) rfl (by kernel_rfl) (by kernel_rfl) (by kernel_rfl) (fun _ _ _ h => h) (Or.inl ⟨by rfl, ?_⟩) (by assumption) ?_
      rotate_left 1
      · (intro W hSW; (try dsimp only at hSW); first | (go_simp; done) | (go_simp; with_reducible rfl))
      try simp only [Act.put, List.setIfInBounds_toArray, List.set_cons_zero, List.set_cons_succ]
      refine wpAnyH_take (i := 7) (oi := { dst := some 28, op := Op.move (Operand.tmp 0), type := 3, pos := "ref.go:210", after := #[], guard := none }) (v := ?_) rfl (by kernel_rfl) (by kernel_rfl) (by kernel_rfl) (fun _ _ _ h => h) (Or.inl ⟨by rfl, ?_⟩) (by assumption) ?_
      rotate_left 1
      · (intro W hSW; (try dsimp only at hSW); first | (go_simp; done) | (go_simp; with_reducible rfl))
      try simp only [Act.put, List.setIfInBounds_toArray, List.set_cons_zero, List.set_cons_succ]
      refine wpAnyH_take (i := 8) (oi := { dst := some 29, op := Op.move (Operand.tmp 1), type := 3, pos := "ref.go:210", after := #[], guard := none }) (v := ?_) rfl (by kernel_rfl) (by kernel_rfl) (by kernel_rfl) (fun _ _ _ h => h) (Or.inl ⟨by rfl, ?_⟩) (by assumption) ?_
      rotate_left 1
      · (intro W hSW; (try dsimp only at hSW); first | (go_simp; done) | (go_simp; with_reducible rfl))
      try simp only [Act.put, List.setIfInBounds_toArray, List.set_cons_zero, List.set_cons_succ]
      refine wpAnyH_ready (rs := [1, 9]) (by kernel_rfl) (by simp) ?_
      refine (AllReadyH.cons (o := { dst := some 22, op := Op.load 25 (Operand.tmp 21), type := 25, pos := "ref.go:210", after := #[{ on := 0, ground := Ground.data }], guard := none }) rfl (fun K hK => ?_) (AllReadyH.cons (o := { dst := some 30, op := Op.call { callee := Callee.value (Operand.func 39), args := #[Operand.tmp 28, Operand.tmp 29], argTypes := #[3, 3] }, type := 3, pos := "ref.go:210", after := #[{ on := 7, ground := Ground.data }, { on := 8, ground := Ground.data }], guard := none }) rfl (fun K hK => ?_) AllReadyH.nil))
      · rw [if_pos (by rfl)]
        have hrow := HBX.out.c1
        rw [HP.out.1] at hrow
        go_simp
        clear hrow
        refine hK.out _ _ (HS.out _ hdr) (fun hHeld => ?_)
        clear hK K
        try simp only [Act.put, List.setIfInBounds_toArray, List.set_cons_zero, List.set_cons_succ]
        refine wpAnyH_ready (rs := [9]) (by kernel_rfl) (by simp) ?_
        refine (AllReadyH.cons (o := { dst := some 30, op := Op.call { callee := Callee.value (Operand.func 39), args := #[Operand.tmp 28, Operand.tmp 29], argTypes := #[3, 3] }, type := 3, pos := "ref.go:210", after := #[{ on := 7, ground := Ground.data }, { on := 8, ground := Ground.data }], guard := none }) rfl (fun K hK => ?_) AllReadyH.nil)
        rw [if_pos (by rfl)]
        go_simp
        go_at_call 39
        refine (HPW.out _).mono ?_
        rintro e wc2 ⟨rfl, rfl⟩
        have hgr2 := hdr
        have gc2 : wr.drew.grownBy wr.drew none := grown_refl wr.drew none
        go_wp2_with fail
        refine hK.out _ _ (HS.out _ hgr2) (fun hHeld => ?_)
        clear hK K
        try simp only [Act.put, List.setIfInBounds_toArray, List.set_cons_zero, List.set_cons_succ]
        refine wpAnyH_take (i := 10) (oi := { dst := some 31, op := Op.call { callee := Callee.builtin Builtin.max, args := #[Operand.tmp 30, Operand.const (Value.int IntKind.i64 1)], argTypes := #[3, 3] }, type := 3, pos := "ref.go:210", after := #[{ on := 9, ground := Ground.data }], guard := none }) (v := ?_) rfl (by kernel_rfl) (by kernel_rfl) (by kernel_rfl) (fun _ _ _ h => h) (Or.inl ⟨by rfl, ?_⟩) (by assumption) ?_
        rotate_left 1
        · (intro W hSW; (try dsimp only at hSW); first | (go_simp; done) | (go_simp; with_reducible rfl))
        try simp only [Act.put, List.setIfInBounds_toArray, List.set_cons_zero, List.set_cons_succ]
        refine wpAnyH_take (i := 11) (oi := { dst := some 32, op := Op.binOp BinOp.rem 3 (Operand.tmp 27) (Operand.tmp 31) 3, type := 3, pos := "ref.go:210", after := #[{ on := 6, ground := Ground.data }, { on := 10, ground := Ground.data }], guard := none }) (v := ?_) rfl (by kernel_rfl) (by kernel_rfl) (by kernel_rfl) (fun _ _ _ h => h) (Or.inl ⟨by rfl, ?_⟩) (by assumption) ?_
        rotate_left 1
        · (intro W hSW; (try dsimp only at hSW); first | (go_simp; done) | (go_simp; with_reducible rfl))
        try simp only [Act.put, List.setIfInBounds_toArray, List.set_cons_zero, List.set_cons_succ]
        refine wpAnyH_ready (rs := [12]) (by kernel_rfl) (by simp) ?_
        refine (AllReadyH.cons (o := { dst := some 33, op := Op.call { callee := Callee.value (Operand.func 42), args := #[Operand.tmp 22, Operand.tmp 32], argTypes := #[25, 3] }, type := 25, pos := "ref.go:210", after := #[{ on := 1, ground := Ground.data }, { on := 11, ground := Ground.data }, { on := 9, ground := Ground.chain }], guard := none }) rfl (fun K hK => ?_) AllReadyH.nil)
        rw [if_pos (by rfl)]
        go_simp
        go_at_call 42
        refine (HAD.out wr.drew (⟨rfl, rfl, rfl, Nat.le_refl _, fun _ _ _ => rfl⟩ : wr.grownBy wr.drew none)).mono ?_
        rintro e wc3 ⟨a', c', rfl, hsA, gc3⟩
        have hgr3 := World.grownBy.trans hgr2 gc3
        go_wp2_with fail
        refine hK.out _ _ (HS.out _ hgr3) (fun hHeld => ?_)
        clear hK K
        try simp only [Act.put, List.setIfInBounds_toArray, List.set_cons_zero, List.set_cons_succ]
        refine wpAnyH_take (i := 13) (oi := { dst := some 34, op := Op.fieldAddr 27 (Operand.tmp 7) 1, type := 0, pos := "ref.go:210", after := #[{ on := 0, ground := Ground.phase }, { on := 1, ground := Ground.phase }, { on := 2, ground := Ground.phase }, { on := 3, ground := Ground.phase }, { on := 4, ground := Ground.phase }, { on := 5, ground := Ground.phase }, { on := 6, ground := Ground.phase }, { on := 7, ground := Ground.phase }, { on := 8, ground := Ground.phase }, { on := 9, ground := Ground.phase }, { on := 10, ground := Ground.phase }, { on := 11, ground := Ground.phase }, { on := 12, ground := Ground.phase }], guard := none }) (v := ?_) rfl (by kernel_rfl) (by kernel_rfl) (by kernel_rfl) (fun _ _ _ h => h) (Or.inl ⟨by rfl, ?_⟩) (by assumption) ?_
        rotate_left 1
        · (intro W hSW; (try dsimp only at hSW); first | (go_simp; done) | (go_simp; with_reducible rfl))
        try simp only [Act.put, List.setIfInBounds_toArray, List.set_cons_zero, List.set_cons_succ]
        refine wpAnyH_ready (rs := [14]) (by kernel_rfl) (by simp) ?_
        refine (AllReadyH.cons (o := { dst := none, op := Op.store 25 (Operand.tmp 34) (Operand.tmp 33), type := 0, pos := "ref.go:210", after := #[{ on := 13, ground := Ground.data }, { on := 12, ground := Ground.data }, { on := 12, ground := Ground.chain }, { on := 0, ground := Ground.phase }, { on := 1, ground := Ground.phase }, { on := 2, ground := Ground.phase }, { on := 3, ground := Ground.phase }, { on := 4, ground := Ground.phase }, { on := 5, ground := Ground.phase }, { on := 6, ground := Ground.phase }, { on := 7, ground := Ground.phase }, { on := 8, ground := Ground.phase }, { on := 9, ground := Ground.phase }, { on := 10, ground := Ground.phase }, { on := 11, ground := Ground.phase }, { on := 12, ground := Ground.phase }], guard := none }) rfl (fun K hK => ?_) AllReadyH.nil)
        rw [if_pos (by rfl)]
        have hbg := HBX.out.grown (World.grownBy.trans (⟨rfl, rfl, rfl, Nat.le_refl _, fun _ _ _ => rfl⟩ : wr.grownBy wr.drew none) gc3)
        have q1 := hbg.c1
        have q2 := hbg.f1
        go_simp
        clear q1 q2
        have hst := hbg.set hsA
        rw [HP.out.2] at hst
        have hgs := grown_own hgr3 (grown_set wc3 W.heap.size 1 (.slice a' p2 c')) (fun k hk => by cases hk; exact Nat.le_refl _)
        clear hbg
        refine hK.out _ _ (HS.out _ hgs) (fun hHeld => ?_)
        clear hK K
        try simp only [Act.put, List.setIfInBounds_toArray, List.set_cons_zero, List.set_cons_succ]
        refine wpAnyH_done (by kernel_rfl) ?_ _
        have hEND := hgs
        clear hHeld
        have HE := Lib.hid (And.intro hst hgs)
        clear hst hgs hEND hsA
        go_wp2_with fail
        go_roundg (Q - (i + 1))
        case measure => rw [HI.out]; omega
        case rel => exact ⟨i + 1, _, _, rfl, rfl, by omega, HE.out.1, HE.out.2⟩
      · rw [if_pos (by rfl)]
        go_simp
        go_at_call 39
        refine (HPW.out _).mono ?_
        rintro e wc1 ⟨rfl, rfl⟩
        have hgr1 := hdr
        have gc1 : wr.drew.grownBy wr.drew none := grown_refl wr.drew none
        go_wp2_with fail
        refine hK.out _ _ (HS.out _ hgr1) (fun hHeld => ?_)
        clear hK K
        try simp only [Act.put, List.setIfInBounds_toArray, List.set_cons_zero, List.set_cons_succ]
        refine wpAnyH_take (i := 10) (oi := { dst := some 31, op := Op.call { callee := Callee.builtin Builtin.max, args := #[Operand.tmp 30, Operand.const (Value.int IntKind.i64 1)], argTypes := #[3, 3] }, type := 3, pos := "ref.go:210", after := #[{ on := 9, ground := Ground.data }], guard := none }) (v := ?_) rfl (by kernel_rfl) (by kernel_rfl) (by kernel_rfl) (fun _ _ _ h => h) (Or.inl ⟨by rfl, ?_⟩) (by assumption) ?_
        rotate_left 1
        · (intro W hSW; (try dsimp only at hSW); first | (go_simp; done) | (go_simp; with_reducible rfl))
        try simp only [Act.put, List.setIfInBounds_toArray, List.set_cons_zero, List.set_cons_succ]
        refine wpAnyH_take (i := 11) (oi := { dst := some 32, op := Op.binOp BinOp.rem 3 (Operand.tmp 27) (Operand.tmp 31) 3, type := 3, pos := "ref.go:210", after := #[{ on := 6, ground := Ground.data }, { on := 10, ground := Ground.data }], guard := none }) (v := ?_) rfl (by kernel_rfl) (by kernel_rfl) (by kernel_rfl) (fun _ _ _ h => h) (Or.inl ⟨by rfl, ?_⟩) (by assumption) ?_
        rotate_left 1
        · (intro W hSW; (try dsimp only at hSW); first | (go_simp; done) | (go_simp; with_reducible rfl))
        try simp only [Act.put, List.setIfInBounds_toArray, List.set_cons_zero, List.set_cons_succ]
        refine wpAnyH_ready (rs := [1]) (by kernel_rfl) (by simp) ?_
        refine (AllReadyH.cons (o := { dst := some 22, op := Op.load 25 (Operand.tmp 21), type := 25, pos := "ref.go:210", after := #[{ on := 0, ground := Ground.data }], guard := none }) rfl (fun K hK => ?_) AllReadyH.nil)
        rw [if_pos (by rfl)]
        have hrow := (HBX.out.grown (World.grownBy.trans (⟨rfl, rfl, rfl, Nat.le_refl _, fun _ _ _ => rfl⟩ : wr.grownBy wr.drew none) gc1)).c1
        rw [HP.out.1] at hrow
        go_simp
        clear hrow
        refine hK.out _ _ (HS.out _ hgr1) (fun hHeld => ?_)
        clear hK K
        try simp only [Act.put, List.setIfInBounds_toArray, List.set_cons_zero, List.set_cons_succ]
        refine wpAnyH_ready (rs := [12]) (by kernel_rfl) (by simp) ?_
        refine (AllReadyH.cons (o := { dst := some 33, op := Op.call { callee := Callee.value (Operand.func 42), args := #[Operand.tmp 22, Operand.tmp 32], argTypes := #[25, 3] }, type := 25, pos := "ref.go:210", after := #[{ on := 1, ground := Ground.data }, { on := 11, ground := Ground.data }, { on := 9, ground := Ground.chain }], guard := none }) rfl (fun K hK => ?_) AllReadyH.nil)
        rw [if_pos (by rfl)]
        go_simp
        go_at_call 42
        refine (HAD.out wr.drew (⟨rfl, rfl, rfl, Nat.le_refl _, fun _ _ _ => rfl⟩ : wr.grownBy wr.drew none)).mono ?_
        rintro e wc3 ⟨a', c', rfl, hsA, gc3⟩
        have hgr3 := World.grownBy.trans hgr1 gc3
        go_wp2_with fail
        refine hK.out _ _ (HS.out _ hgr3) (fun hHeld => ?_)
        clear hK K
        try simp only [Act.put, List.setIfInBounds_toArray, List.set_cons_zero, List.set_cons_succ]
        refine wpAnyH_take (i := 13) (oi := { dst := some 34, op := Op.fieldAddr 27 (Operand.tmp 7) 1, type := 0, pos := "ref.go:210", after := #[{ on := 0, ground := Ground.phase }, { on := 1, ground := Ground.phase }, { on := 2, ground := Ground.phase }, { on := 3, ground := Ground.phase }, { on := 4, ground := Ground.phase }, { on := 5, ground := Ground.phase }, { on := 6, ground := Ground.phase }, { on := 7, ground := Ground.phase }, { on := 8, ground := Ground.phase }, { on := 9, ground := Ground.phase }, { on := 10, ground := Ground.phase }, { on := 11, ground := Ground.phase }, { on := 12, ground := Ground.phase }], guard := none }) (v := ?_) rfl (by kernel_rfl) (by kernel_rfl) (by kernel_rfl) (fun _ _ _ h => h) (Or.inl ⟨by rfl, ?_⟩) (by assumption) ?_
        rotate_left 1
        · (intro W hSW; (try dsimp only at hSW); first | (go_simp; done) | (go_simp; with_reducible rfl))
        try simp only [Act.put, List.setIfInBounds_toArray, List.set_cons_zero, List.set_cons_succ]
        refine wpAnyH_ready (rs := [14]) (by kernel_rfl) (by simp) ?_
        refine (AllReadyH.cons (o := { dst := none, op := Op.store 25 (Operand.tmp 34) (Operand.tmp 33), type := 0, pos := "ref.go:210", after := #[{ on := 13, ground := Ground.data }, { on := 12, ground := Ground.data }, { on := 12, ground := Ground.chain }, { on := 0, ground := Ground.phase }, { on := 1, ground := Ground.phase }, { on := 2, ground := Ground.phase }, { on := 3, ground := Ground.phase }, { on := 4, ground := Ground.phase }, { on := 5, ground := Ground.phase }, { on := 6, ground := Ground.phase }, { on := 7, ground := Ground.phase }, { on := 8, ground := Ground.phase }, { on := 9, ground := Ground.phase }, { on := 10, ground := Ground.phase }, { on := 11, ground := Ground.phase }, { on := 12, ground := Ground.phase }], guard := none }) rfl (fun K hK => ?_) AllReadyH.nil)
        rw [if_pos (by rfl)]
        have hbg := HBX.out.grown (World.grownBy.trans (⟨rfl, rfl, rfl, Nat.le_refl _, fun _ _ _ => rfl⟩ : wr.grownBy wr.drew none) gc3)
        have q1 := hbg.c1
        have q2 := hbg.f1
        go_simp
        clear q1 q2
        have hst := hbg.set hsA
        rw [HP.out.2] at hst
        have hgs := grown_own hgr3 (grown_set wc3 W.heap.size 1 (.slice a' p2 c')) (fun k hk => by cases hk; exact Nat.le_refl _)
        clear hbg
        refine hK.out _ _ (HS.out _ hgs) (fun hHeld => ?_)
        clear hK K
        try simp only [Act.put, List.setIfInBounds_toArray, List.set_cons_zero, List.set_cons_succ]
        refine wpAnyH_done (by kernel_rfl) ?_ _
        have hEND := hgs
        clear hHeld
        have HE := Lib.hid (And.intro hst hgs)
        clear hst hgs hEND hsA
        go_wp2_with fail
        go_roundg (Q - (i + 1))
        case measure => rw [HI.out]; omega
        case rel => exact ⟨i + 1, _, _, rfl, rfl, by omega, HE.out.1, HE.out.2⟩
    · obtain rfl : i = Q := by omega
      obtain ⟨p, hp⟩ : ∃ p, (ofTo rs i).length = p := ⟨_, rfl⟩
      have r0 := HBX.out.c0
      have r1 := HBX.out.c1
      rw [hp] at r1
      have hi := HBX.out.sp
      have g3 : wr.grownBy wr none := grown_refl wr none
      by_cases hiL : i < L
      · have hinB : decide (i < L) = true := by simpa using hiL
        have h40 : i = 40 := by have := HQ.out.2; omega
        have hinB2 : decide (i < 40) = false := by simp; omega
        have hinB3 : decide ((i : Int) < 40) = false := by simp; omega
        clear h40
        have g := World.grownBy.trans HWR.out g3
        have m0 := g.cell HC.out.2.1 (by simp)
        have m1 := g.cell HC.out.2.2.1 (by simp)
        have f0 := (grown_frozen g HC.out.1 0).trans HC.out.2.2.2.1
        have f1 := (grown_frozen g HC.out.1 1).trans HC.out.2.2.2.2
        have HI3 := Lib.hid hi
        have HG3 := Lib.hid g
        clear hi g
        go_wp2_with fail
        have hret := ret_rel (p := p) (k := (k : Int)) (B := w.heap.size) (HI3.out.wide (by have := HG.out.2; omega) (Nat.le_refl _) (Nat.le_refl _)) (Nat.le_refl _) (HG.out.1.trans HG3.out)
        refine bodyPost_ret (results12 _ _ (w.heap.size) va p vc (k : Int) rfl (by rw [World.cell?_setCell_other _ _ _ _ (by intro e; injection e with _ e; cases e)]; exact World.cell?_setCell_same _ _ _ m0) (World.cell?_setCell_same _ _ _ (by rw [World.cell?_setCell_other _ _ _ _ (by intro e; injection e with _ e; cases e)]; exact m1))) rfl ⟨va, vc, by rw [hp], hret⟩
      · have hinB : decide (i < L) = false := by simpa using hiL
        have g := World.grownBy.trans HWR.out g3
        have m0 := g.cell HC.out.2.1 (by simp)
        have m1 := g.cell HC.out.2.2.1 (by simp)
        have f0 := (grown_frozen g HC.out.1 0).trans HC.out.2.2.2.1
        have f1 := (grown_frozen g HC.out.1 1).trans HC.out.2.2.2.2
        have HI3 := Lib.hid hi
        have HG3 := Lib.hid g
        clear hi g
        go_wp2_with fail
        have hret := ret_rel (p := p) (k := (k : Int)) (B := w.heap.size) (HI3.out.wide (by have := HG.out.2; omega) (Nat.le_refl _) (Nat.le_refl _)) (Nat.le_refl _) (HG.out.1.trans HG3.out)
        refine bodyPost_ret (results12 _ _ (w.heap.size) va p vc (k : Int) rfl (by rw [World.cell?_setCell_other _ _ _ _ (by intro e; injection e with _ e; cases e)]; exact World.cell?_setCell_same _ _ _ m0) (World.cell?_setCell_same _ _ _ (by rw [World.cell?_setCell_other _ _ _ _ (by intro e; injection e with _ e; cases e)]; exact m1))) rfl ⟨va, vc, by rw [hp], hret⟩
end Go.Proofs.Ytkoigonbncpbaaa

/- The reference's Diff, its row too. -/
import Derived.Test.YtkoigonbncpbaaaS24
import Derived.Test.YtkoigonbncpbaaaAR
namespace Go.Proofs.Ytkoigonbncpbaaa
open Go.RowKit

set_option maxRecDepth 100000 in
set_option maxHeartbeats 8000000 in
theorem rDiff2_calls (k k' : Int) (xs ys : List Int) (xa ya : Option Addr) (xc yc : Nat) (w : World) (h : IntsW w xa xc xs) (h' : IntsW w ya yc ys) (hl : xs.length ≤ 100000) (hl' : ys.length ≤ 100000) (hu : Up ys) :
    Calls Try.prog 32 #[.agg #[.int .i64 k, .slice xa xs.length xc], .agg #[.int .i64 k', .slice ya ys.length yc]] w fun e w' => ∃ a c, e = .returned (.agg #[.int .i64 k, .slice a (lacks xs ys).length c]) ∧ Span w.heap.size w'.heap.size w' (fun W => IntsW W a c (lacks xs ys)) ∧ w.grownBy w' none := by
  have HHAS := Lib.hid (fun (W : World) (z : Int) (g : w.grownBy W none) => has_calls k' ys ya yc z W (h'.grown g) (by omega) hu)
  obtain ⟨i0, hi0, hz0, hz1, hz2⟩ := info_parts info3
  obtain ⟨n, hn⟩ : ∃ n, xs.length = n := ⟨_, rfl⟩
  obtain ⟨m, hm⟩ : ∃ m, ys.length = m := ⟨_, rfl⟩
  have hg1 := World.grownBy_alloc w (.cells #[.int .i64 k, .slice xa n xc] 27) none
  have hg2 := World.grownBy_alloc (w.alloc (.cells #[.int .i64 k, .slice xa n xc] 27)) (.cells #[.int .i64 k', .slice ya m yc] 27) none
  have hg3 := World.grownBy_alloc ((w.alloc (.cells #[.int .i64 k, .slice xa n xc] 27)).alloc (.cells #[.int .i64 k', .slice ya m yc] 27)) (.cells #[.int .i64 0, .slice none 0 0] 27) none
  have hg := (hg1.trans hg2).trans hg3
  have hc := six_cells w (.int .i64 k) (.slice xa n xc) (.int .i64 k') (.slice ya m yc) (.int .i64 0) (.slice none 0 0) 27 27 27
  obtain ⟨W, hW⟩ : ∃ W, ((w.alloc (.cells #[.int .i64 k, .slice xa n xc] 27)).alloc (.cells #[.int .i64 k', .slice ya m yc] 27)).alloc (.cells #[.int .i64 0, .slice none 0 0] 27) = W := ⟨_, rfl⟩
  have hsz : W.heap.size = w.heap.size + 3 := by rw [← hW]; simp
  rw [hW] at hg hc
  have HH := Lib.hid (And.intro (h.grown hg) (And.intro hn hm))
  rw [hm] at HHAS hl'
  rw [hn] at hl ⊢
  rw [hm]
  clear h h' hu hn hm hg1 hg2 hg3
  have HG := Lib.hid hg; clear hg
  have HC := Lib.hid hc
  obtain ⟨hlt, c0, c1, d0, d1, e0, e1, ef0, ef1⟩ := hc
  have HB0 := Lib.hid (RowBox.new W k (Bs := W.heap.size + 1) rfl)
  have HG0 := Lib.hid (World.grownBy_alloc W (.cells #[.int .i64 k, .slice none 0 0] 27) none)
  have HSZ := Lib.hid hsz
  clear hsz
  go_enter Try.func32, Try.ntmps32
  go_wp2_with fail
  clear hW hlt c0 c1 d0 d1 e0 e1 ef0 ef1
  obtain ⟨W1, hW1⟩ : ∃ W1, W.alloc (.cells #[.int .i64 k, .slice none 0 0] 27) = W1 := ⟨_, rfl⟩
  rw [hW1] at HB0 HG0 ⊢
  clear hW1
  go_loopg [6] n (fun g s6 wr => ∃ (i : Nat) (v : Value), s6 = .int .i64 (i : Int) ∧ g = n - i ∧ i ≤ n ∧ RowBox (W.heap.size + 1) wr W.heap.size k v (lacks (xs.take i) ys) ∧ W.grownBy wr none)
  case atStart => exact ⟨0, .slice none 0 0, rfl, rfl, Nat.zero_le _, HB0.out, HG0.out⟩
  case round =>
    obtain ⟨i, v, rfl, hgk, hi, hbx, hgr⟩ := hrel
    obtain ⟨va, vc, rfl⟩ := own_shape hbx.own
    have HBX := Lib.hid hbx; clear hbx
    have HWR := Lib.hid hgr; clear hgr
    have HI := Lib.hid hgk; clear hgk
    have hcs := HC.out
    have c1 := HWR.out.cell hcs.2.2.1 (by simp)
    by_cases hin : i < n
    · have hinB : decide (i < n) = true := by simpa using hin
      have hinI : (i : Int) < (n : Int) := by omega
      obtain ⟨z, hz⟩ : ∃ z, xs[i]? = some z := ⟨_, List.getElem?_eq_getElem (by rw [HH.out.2.1]; exact hin)⟩
      obtain ⟨b, o, rfl, hcell⟩ := HH.out.1.at hz
      have HZ := Lib.hid hz; clear hz
      have HHZ := Lib.hid (fun (U : World) (g : W.grownBy U none) => HHAS.out U z (HG.out.trans g))
      have HLT := Lib.hid (lacks_take (ys := ys) HZ.out)
      obtain ⟨Q, hQ⟩ : ∃ Q, decide (z ∈ ys) = Q := ⟨_, rfl⟩
      rw [hQ] at HHZ
      have HQ := Lib.hid hQ; clear hQ
      go_wp2_with fail
      have HS := Lib.hid (fun (Wh : World) (hWh : W.grownBy Wh none) => (⟨hWh, hWh.cell hcs.2.1 (by simp), hWh.cell hcs.2.2.1 (by simp), hWh.cell hcs.2.2.2.1 (by simp), hWh.cell hcs.2.2.2.2.1 (by simp), hWh.cell hcell (by simp)⟩ : (fun Wh : World => W.grownBy Wh none ∧ Wh.cell? ⟨w.heap.size, 0, none⟩ = some (.int .i64 k) ∧ Wh.cell? ⟨w.heap.size, 1, none⟩ = some (.slice (some ⟨b, o, none⟩) n xc) ∧ Wh.cell? ⟨w.heap.size + 1, 0, none⟩ = some (.int .i64 k') ∧ Wh.cell? ⟨w.heap.size + 1, 1, none⟩ = some (.slice ya m yc) ∧ Wh.cell? ⟨b, o + i, none⟩ = some (.int .i64 z)) Wh))
      have hdr : W.grownBy wr.drew none := World.grownBy.trans HWR.out (⟨rfl, rfl, rfl, Nat.le_refl _, fun _ _ _ => rfl⟩ : wr.grownBy wr.drew none)
      refine wp_region_held_drew (S := (fun Wh : World => W.grownBy Wh none ∧ Wh.cell? ⟨w.heap.size, 0, none⟩ = some (.int .i64 k) ∧ Wh.cell? ⟨w.heap.size, 1, none⟩ = some (.slice (some ⟨b, o, none⟩) n xc) ∧ Wh.cell? ⟨w.heap.size + 1, 0, none⟩ = some (.int .i64 k') ∧ Wh.cell? ⟨w.heap.size + 1, 1, none⟩ = some (.slice ya m yc) ∧ Wh.cell? ⟨b, o + i, none⟩ = some (.int .i64 z))) (by kernel_rfl) (HS.out _ hdr) (fun hHeld => ?_)
      refine wpAnyH_take (i := 0) (oi := { dst := some 17, op := Op.load 27 (Operand.tmp 3), type := 27, pos := "ref.go:89", after := #[], guard := none }) (v := ?_) rfl (by kernel_rfl) (by kernel_rfl) (by kernel_rfl) (fun _ _ _ h => h) (Or.inl ⟨by rfl, ?_⟩) (by assumption) ?_
      rotate_left 1
      · (intro W hSW; (try dsimp only at hSW); first | (go_simp; done) | (go_simp; with_reducible rfl))
      try simp only [Act.put, List.setIfInBounds_toArray, List.set_cons_zero, List.set_cons_succ]
      refine wpAnyH_take (i := 1) (oi := { dst := some 18, op := Op.fieldAddr 27 (Operand.tmp 2) 1, type := 0, pos := "ref.go:89", after := #[], guard := none }) (v := ?_) rfl (by kernel_rfl) (by kernel_rfl) (by kernel_rfl) (fun _ _ _ h => h) (Or.inl ⟨by rfl, ?_⟩) (by assumption) ?_
      rotate_left 1
      · (intro W hSW; (try dsimp only at hSW); first | (go_simp; done) | (go_simp; with_reducible rfl))
      try simp only [Act.put, List.setIfInBounds_toArray, List.set_cons_zero, List.set_cons_succ]
      refine wpAnyH_take (i := 2) (oi := { dst := some 19, op := Op.load 25 (Operand.tmp 18), type := 25, pos := "ref.go:89", after := #[{ on := 1, ground := Ground.data }], guard := none }) (v := ?_) rfl (by kernel_rfl) (by kernel_rfl) (by kernel_rfl) (fun _ _ _ h => h) (Or.inl ⟨by rfl, ?_⟩) (by assumption) ?_
      rotate_left 1
      · (intro W hSW; (try dsimp only at hSW); first | (go_simp; done) | (go_simp; with_reducible rfl))
      try simp only [Act.put, List.setIfInBounds_toArray, List.set_cons_zero, List.set_cons_succ]
      refine wpAnyH_take (i := 3) (oi := { dst := some 20, op := Op.move (Operand.tmp 6), type := 3, pos := "ref.go:89", after := #[], guard := none }) (v := ?_) rfl (by kernel_rfl) (by kernel_rfl) (by kernel_rfl) (fun _ _ _ h => h) (Or.inl ⟨by rfl, ?_⟩) (by assumption) ?_
      rotate_left 1
      · (intro W hSW; (try dsimp only at hSW); first | (go_simp; done) | (go_simp; with_reducible rfl))
      try simp only [Act.put, List.setIfInBounds_toArray, List.set_cons_zero, List.set_cons_succ]
      refine wpAnyH_take (i := 4) (oi := { dst := some 21, op := Op.indexAddr 25 (Operand.tmp 19) (Operand.tmp 20), type := 0, pos := "ref.go:89", after := #[{ on := 2, ground := Ground.data }, { on := 3, ground := Ground.data }], guard := none }) (v := ?_) rfl (by kernel_rfl) (by kernel_rfl) (by kernel_rfl) (fun _ _ _ h => h) (Or.inl ⟨by rfl, ?_⟩) (by assumption) ?_
      rotate_left 1
      · (intro W hSW; (try dsimp only at hSW); first | (go_simp; done) | (go_simp; with_reducible rfl))
      try simp only [Act.put, List.setIfInBounds_toArray, List.set_cons_zero, List.set_cons_succ]
      refine wpAnyH_take (i := 5) (oi := { dst := some 22, op := Op.load 3 (Operand.tmp 21), type := 3, pos := "ref.go:89", after := #[{ on := 4, ground := Ground.data }], guard := none }) (v := ?_) rfl (by kernel_rfl) (by kernel_rfl) (by kernel_rfl) (fun _ _ _ h => h) (Or.inl ⟨by rfl, ?_⟩) (by assumption) ?_
      rotate_left 1
      · (intro W hSW; (try dsimp only at hSW); first | (go_simp; done) | (go_simp; with_reducible rfl))
      try simp only [Act.put, List.setIfInBounds_toArray, List.set_cons_zero, List.set_cons_succ]
      refine wpAnyH_ready (rs := [6]) (by kernel_rfl) (by simp) ?_
      refine (AllReadyH.cons (o := { dst := some 23, op := Op.call { callee := Callee.value (Operand.func 47), args := #[Operand.tmp 17, Operand.tmp 22], argTypes := #[27, 3] }, type := 4, pos := "ref.go:89", after := #[{ on := 0, ground := Ground.data }, { on := 5, ground := Ground.data }], guard := none }) rfl (fun K hK => ?_) AllReadyH.nil)
      rw [if_pos (by rfl)]
      go_simp
      go_at_call 47
      refine (HHZ.out _ (hdr)).mono ?_
      rintro e wc1 ⟨rfl, gc1⟩
      have hgr1 := World.grownBy.trans hdr gc1
      go_wp2_with fail
      refine hK.out _ _ (HS.out _ hgr1) (fun hHeld => ?_)
      clear hK K
      try simp only [Act.put, List.setIfInBounds_toArray, List.set_cons_zero, List.set_cons_succ]
      refine wpAnyH_take (i := 7) (oi := { dst := some 24, op := Op.unOp UnOp.not 4 (Operand.tmp 23), type := 4, pos := "ref.go:89", after := #[{ on := 6, ground := Ground.data }], guard := none }) (v := ?_) rfl (by kernel_rfl) (by kernel_rfl) (by kernel_rfl) (fun _ _ _ h => h) (Or.inl ⟨by rfl, ?_⟩) (by assumption) ?_
      rotate_left 1
      · (intro W hSW; (try dsimp only at hSW); first | (go_simp; done) | (go_simp; with_reducible rfl))
      try simp only [Act.put, List.setIfInBounds_toArray, List.set_cons_zero, List.set_cons_succ]
      refine wpAnyH_done (by kernel_rfl) ?_ _
      have hEND := hgr1
      clear hHeld
      have HE := Lib.hid hEND
      clear hEND c1
      cases Q with
      | true =>
        have HLS : Hid (lacks (xs.take (i + 1)) ys = lacks (xs.take i) ys) := Lib.hid (by rw [HLT.out, if_pos (of_decide_eq_true HQ.out)])
        have HBX2 := Lib.hid (HBX.out.grown (World.grownBy.trans (⟨rfl, rfl, rfl, Nat.le_refl _, fun _ _ _ => rfl⟩ : wr.grownBy wr.drew none) gc1))
        go_wp2_with fail
        go_roundg (n - (i + 1))
        case measure => rw [HI.out]; omega
        case rel => exact ⟨i + 1, _, rfl, rfl, by omega, by rw [HLS.out]; exact HBX2.out, HE.out⟩
      | false =>
        have HLS : Hid (lacks (xs.take (i + 1)) ys = lacks (xs.take i) ys ++ [z]) := Lib.hid (by rw [HLT.out, if_neg (of_decide_eq_false HQ.out)])
        have HBX2 := Lib.hid (HBX.out.grown (World.grownBy.trans (⟨rfl, rfl, rfl, Nat.le_refl _, fun _ _ _ => rfl⟩ : wr.grownBy wr.drew none) gc1))
        have HLEN : Hid ((lacks (xs.take i) ys).length ≤ 1000000) := Lib.hid (by have h1 := lacks_len (xs.take i) ys; rw [List.length_take] at h1; omega)
        have HB0' : Hid (W.heap.size ≤ W.heap.size) := Lib.hid (Nat.le_refl _)
        go_wp2_with fail
        have hdr : W.grownBy wc1.drew none := World.grownBy.trans HE.out (⟨rfl, rfl, rfl, Nat.le_refl _, fun _ _ _ => rfl⟩ : wc1.grownBy wc1.drew none)
        refine wp_region_held_drew (S := (fun Wh : World => W.grownBy Wh none ∧ Wh.cell? ⟨w.heap.size, 0, none⟩ = some (.int .i64 k) ∧ Wh.cell? ⟨w.heap.size, 1, none⟩ = some (.slice (some ⟨b, o, none⟩) n xc) ∧ Wh.cell? ⟨w.heap.size + 1, 0, none⟩ = some (.int .i64 k') ∧ Wh.cell? ⟨w.heap.size + 1, 1, none⟩ = some (.slice ya m yc) ∧ Wh.cell? ⟨b, o + i, none⟩ = some (.int .i64 z))) (by kernel_rfl) (HS.out _ hdr) (fun hHeld => ?_)
        refine wpAnyH_take (i := 0) (oi := { dst := some 25, op := Op.fieldAddr 27 (Operand.tmp 5) 1, type := 0, pos := "ref.go:90", after := #[], guard := none }) (v := ?_) rfl (by kernel_rfl) (by kernel_rfl) (by kernel_rfl) (fun _ _ _ h => h) (Or.inl ⟨by rfl, ?_⟩) (by assumption) ?_
        rotate_left 1
        · (intro W hSW; (try dsimp only at hSW); first | (go_simp; done) | (go_simp; with_reducible rfl))
        try simp only [Act.put, List.setIfInBounds_toArray, List.set_cons_zero, List.set_cons_succ]
        refine wpAnyH_take (i := 2) (oi := { dst := some 27, op := Op.fieldAddr 27 (Operand.tmp 2) 1, type := 0, pos := "ref.go:90", after := #[], guard := none }) (v := ?_) rfl (by kernel_rfl) (by kernel_rfl) (by kernel_rfl) (fun _ _ _ h => h) (Or.inl ⟨by rfl, ?_⟩) (by assumption) ?_
        rotate_left 1
        · (intro W hSW; (try dsimp only at hSW); first | (go_simp; done) | (go_simp; with_reducible rfl))
        try simp only [Act.put, List.setIfInBounds_toArray, List.set_cons_zero, List.set_cons_succ]
        refine wpAnyH_take (i := 3) (oi := { dst := some 28, op := Op.load 25 (Operand.tmp 27), type := 25, pos := "ref.go:90", after := #[{ on := 2, ground := Ground.data }], guard := none }) (v := ?_) rfl (by kernel_rfl) (by kernel_rfl) (by kernel_rfl) (fun _ _ _ h => h) (Or.inl ⟨by rfl, ?_⟩) (by assumption) ?_
        rotate_left 1
        · (intro W hSW; (try dsimp only at hSW); first | (go_simp; done) | (go_simp; with_reducible rfl))
        try simp only [Act.put, List.setIfInBounds_toArray, List.set_cons_zero, List.set_cons_succ]
        refine wpAnyH_take (i := 4) (oi := { dst := some 29, op := Op.move (Operand.tmp 6), type := 3, pos := "ref.go:90", after := #[], guard := none }) (v := ?_) rfl (by kernel_rfl) (by kernel_rfl) (by kernel_rfl) (fun _ _ _ h => h) (Or.inl ⟨by rfl, ?_⟩) (by assumption) ?_
        rotate_left 1
        · (intro W hSW; (try dsimp only at hSW); first | (go_simp; done) | (go_simp; with_reducible rfl))
        try simp only [Act.put, List.setIfInBounds_toArray, List.set_cons_zero, List.set_cons_succ]
        refine wpAnyH_take (i := 5) (oi := { dst := some 30, op := Op.indexAddr 25 (Operand.tmp 28) (Operand.tmp 29), type := 0, pos := "ref.go:90", after := #[{ on := 3, ground := Ground.data }, { on := 4, ground := Ground.data }], guard := none }) (v := ?_) rfl (by kernel_rfl) (by kernel_rfl) (by kernel_rfl) (fun _ _ _ h => h) (Or.inl ⟨by rfl, ?_⟩) (by assumption) ?_
        rotate_left 1
        · (intro W hSW; (try dsimp only at hSW); first | (go_simp; done) | (go_simp; with_reducible rfl))
        try simp only [Act.put, List.setIfInBounds_toArray, List.set_cons_zero, List.set_cons_succ]
        refine wpAnyH_take (i := 6) (oi := { dst := some 31, op := Op.load 3 (Operand.tmp 30), type := 3, pos := "ref.go:90", after := #[{ on := 5, ground := Ground.data }], guard := none }) (v := ?_) rfl (by kernel_rfl) (by kernel_rfl) (by kernel_rfl) (fun _ _ _ h => h) (Or.inl ⟨by rfl, ?_⟩) (by assumption) ?_
        rotate_left 1
        · (intro W hSW; (try dsimp only at hSW); first | (go_simp; done) | (go_simp; with_reducible rfl))
        try simp only [Act.put, List.setIfInBounds_toArray, List.set_cons_zero, List.set_cons_succ]
        refine wpAnyH_ready (rs := [1, 7]) (by kernel_rfl) (by simp) ?_
        refine (AllReadyH.cons (o := { dst := some 26, op := Op.load 25 (Operand.tmp 25), type := 25, pos := "ref.go:90", after := #[{ on := 0, ground := Ground.data }], guard := none }) rfl (fun K hK => ?_) (AllReadyH.cons (o := { dst := some 32, op := Op.buildSlice 25 1 #[(0, Operand.tmp 31)], type := 25, pos := "ref.go:90", after := #[{ on := 6, ground := Ground.data }], guard := none }) rfl (fun K hK => ?_) AllReadyH.nil))
        · rw [if_pos (by rfl)]
          have hrow := (HBX2.out).row
          go_simp
          clear hrow
          refine hK.out _ _ (HS.out _ hdr) (fun hHeld => ?_)
          clear hK K
          try simp only [Act.put, List.setIfInBounds_toArray, List.set_cons_zero, List.set_cons_succ]
          refine wpAnyH_ready (rs := [7]) (by kernel_rfl) (by simp) ?_
          refine (AllReadyH.cons (o := { dst := some 32, op := Op.buildSlice 25 1 #[(0, Operand.tmp 31)], type := 25, pos := "ref.go:90", after := #[{ on := 6, ground := Ground.data }], guard := none }) rfl (fun K hK => ?_) AllReadyH.nil)
          rw [if_pos (by rfl)]
          go_simp
          have haA : wc1.grownBy ((World.alloc wc1 (.cells #[.int .i64 z] 3)).drew) none := World.grownBy.trans (World.grownBy_alloc wc1 _ none) (⟨rfl, rfl, rfl, Nat.le_refl _, fun _ _ _ => rfl⟩ : (World.alloc wc1 (.cells #[.int .i64 z] 3)).grownBy ((World.alloc wc1 (.cells #[.int .i64 z] 3)).drew) none)
          have hnA : ∀ j u, [Value.int .i64 z][j]? = some u → ((World.alloc wc1 (.cells #[.int .i64 z] 3)).drew).cell? ((⟨wc1.heap.size, 0, none⟩ : Addr).add j) = some u := cell_one_new wc1 _ _
          obtain ⟨WA, hWA⟩ : ∃ WA, (World.alloc wc1 (.cells #[.int .i64 z] 3)).drew = WA := ⟨_, rfl⟩
          rw [hWA] at haA hnA ⊢
          clear hWA
          have HBA := HBX2.out.grown haA
          have hgA := World.grownBy.trans HE.out haA
          refine hK.out _ _ (HS.out _ hgA) (fun hHeld => ?_)
          clear hK K
          try simp only [Act.put, List.setIfInBounds_toArray, List.set_cons_zero, List.set_cons_succ]
          refine wpAnyH_ready (rs := [8]) (by kernel_rfl) (by simp) ?_
          refine (AllReadyH.cons (o := { dst := some 33, op := Op.call { callee := Callee.builtin Builtin.append, args := #[Operand.tmp 26, Operand.tmp 32], argTypes := #[25, 25] }, type := 25, pos := "ref.go:90", after := #[{ on := 1, ground := Ground.data }, { on := 7, ground := Ground.data }], guard := none }) rfl (fun K hK => ?_) AllReadyH.nil)
          refine ready_append_g 25 3 (.tmp 26) (.tmp 32) rfl rfl Try.underlying25 hi0 hz0 hz1 hz2 rfl (by decide) (by omega) (W.heap.size + 1) _ _ (intCells _) rfl HBA.own ⟨wc1.heap.size, 0, none⟩ [.int .i64 z] rfl rfl hnA (fun u hu => by simp at hu; subst hu; rfl) HLEN.out (HBA.low.2) (fun v' w6 hown' hgrow6 hat6 => ?_)
          have hg6 := grown_own hgA hgrow6 (fun j hj => by have h1 := (HBA.own.lt j hj).1; have h2 := HBA.low.1; have h3 := HB0'.out; omega)
          obtain ⟨hs1, hs2⟩ := HBX2.out.at_ haA hgrow6
          obtain ⟨rgA, rcA, rfl⟩ := own_shape hown'
          refine hK.out _ _ (HS.out _ hg6) (fun hHeld => ?_)
          clear hK K
          try simp only [Act.put, List.setIfInBounds_toArray, List.set_cons_zero, List.set_cons_succ]
          refine wpAnyH_take (i := 9) (oi := { dst := some 34, op := Op.fieldAddr 27 (Operand.tmp 5) 1, type := 0, pos := "ref.go:90", after := #[{ on := 0, ground := Ground.phase }, { on := 1, ground := Ground.phase }, { on := 2, ground := Ground.phase }, { on := 3, ground := Ground.phase }, { on := 4, ground := Ground.phase }, { on := 5, ground := Ground.phase }, { on := 6, ground := Ground.phase }, { on := 7, ground := Ground.phase }, { on := 8, ground := Ground.phase }], guard := none }) (v := ?_) rfl (by kernel_rfl) (by kernel_rfl) (by kernel_rfl) (fun _ _ _ h => h) (Or.inl ⟨by rfl, ?_⟩) (by assumption) ?_
          rotate_left 1
          · (intro W hSW; (try dsimp only at hSW); first | (go_simp; done) | (go_simp; with_reducible rfl))
          try simp only [Act.put, List.setIfInBounds_toArray, List.set_cons_zero, List.set_cons_succ]
          refine wpAnyH_ready (rs := [10]) (by kernel_rfl) (by simp) ?_
          refine (AllReadyH.cons (o := { dst := none, op := Op.store 25 (Operand.tmp 34) (Operand.tmp 33), type := 0, pos := "ref.go:90", after := #[{ on := 9, ground := Ground.data }, { on := 8, ground := Ground.data }, { on := 8, ground := Ground.chain }, { on := 0, ground := Ground.phase }, { on := 1, ground := Ground.phase }, { on := 2, ground := Ground.phase }, { on := 3, ground := Ground.phase }, { on := 4, ground := Ground.phase }, { on := 5, ground := Ground.phase }, { on := 6, ground := Ground.phase }, { on := 7, ground := Ground.phase }, { on := 8, ground := Ground.phase }], guard := none }) rfl (fun K hK => ?_) AllReadyH.nil)
          rw [if_pos (by rfl)]
          go_simp
          have hst := HBX2.out.step haA hgrow6 hown'
          have hgs := HBX2.out.grows2 hst HE.out HB0'.out haA hgrow6
          refine hK.out _ _ (HS.out _ hgs) (fun hHeld => ?_)
          clear hK K
          try simp only [Act.put, List.setIfInBounds_toArray, List.set_cons_zero, List.set_cons_succ]
          refine wpAnyH_done (by kernel_rfl) ?_ _
          have hEND := hgs
          clear hHeld
          have HE2 := Lib.hid (And.intro hst hgs)
          clear hst hgs hs1 hs2 hgrow6 hown' hat6 haA hnA HBA hgA hg6 hEND
          go_wp2_with fail
          go_roundg (n - (i + 1))
          case measure => rw [HI.out]; omega
          case rel => exact ⟨i + 1, _, rfl, rfl, by omega, by rw [HLS.out]; exact HE2.out.1, HE2.out.2⟩
        · rw [if_pos (by rfl)]
          go_simp
          have haA : wc1.grownBy ((World.alloc wc1 (.cells #[.int .i64 z] 3)).drew) none := World.grownBy.trans (World.grownBy_alloc wc1 _ none) (⟨rfl, rfl, rfl, Nat.le_refl _, fun _ _ _ => rfl⟩ : (World.alloc wc1 (.cells #[.int .i64 z] 3)).grownBy ((World.alloc wc1 (.cells #[.int .i64 z] 3)).drew) none)
          have hnA : ∀ j u, [Value.int .i64 z][j]? = some u → ((World.alloc wc1 (.cells #[.int .i64 z] 3)).drew).cell? ((⟨wc1.heap.size, 0, none⟩ : Addr).add j) = some u := cell_one_new wc1 _ _
          obtain ⟨WA, hWA⟩ : ∃ WA, (World.alloc wc1 (.cells #[.int .i64 z] 3)).drew = WA := ⟨_, rfl⟩
          rw [hWA] at haA hnA ⊢
          clear hWA
          have HBA := HBX2.out.grown haA
          have hgA := World.grownBy.trans HE.out haA
          refine hK.out _ _ (HS.out _ hgA) (fun hHeld => ?_)
          clear hK K
          try simp only [Act.put, List.setIfInBounds_toArray, List.set_cons_zero, List.set_cons_succ]
          refine wpAnyH_ready (rs := [1]) (by kernel_rfl) (by simp) ?_
          refine (AllReadyH.cons (o := { dst := some 26, op := Op.load 25 (Operand.tmp 25), type := 25, pos := "ref.go:90", after := #[{ on := 0, ground := Ground.data }], guard := none }) rfl (fun K hK => ?_) AllReadyH.nil)
          rw [if_pos (by rfl)]
          have hrow := (HBA).row
          go_simp
          clear hrow
          refine hK.out _ _ (HS.out _ hgA) (fun hHeld => ?_)
          clear hK K
          try simp only [Act.put, List.setIfInBounds_toArray, List.set_cons_zero, List.set_cons_succ]
          refine wpAnyH_ready (rs := [8]) (by kernel_rfl) (by simp) ?_
          refine (AllReadyH.cons (o := { dst := some 33, op := Op.call { callee := Callee.builtin Builtin.append, args := #[Operand.tmp 26, Operand.tmp 32], argTypes := #[25, 25] }, type := 25, pos := "ref.go:90", after := #[{ on := 1, ground := Ground.data }, { on := 7, ground := Ground.data }], guard := none }) rfl (fun K hK => ?_) AllReadyH.nil)
          refine ready_append_g 25 3 (.tmp 26) (.tmp 32) rfl rfl Try.underlying25 hi0 hz0 hz1 hz2 rfl (by decide) (by omega) (W.heap.size + 1) _ _ (intCells _) rfl HBA.own ⟨wc1.heap.size, 0, none⟩ [.int .i64 z] rfl rfl hnA (fun u hu => by simp at hu; subst hu; rfl) HLEN.out (HBA.low.2) (fun v' w6 hown' hgrow6 hat6 => ?_)
          have hg6 := grown_own hgA hgrow6 (fun j hj => by have h1 := (HBA.own.lt j hj).1; have h2 := HBA.low.1; have h3 := HB0'.out; omega)
          obtain ⟨hs1, hs2⟩ := HBX2.out.at_ haA hgrow6
          obtain ⟨rgA, rcA, rfl⟩ := own_shape hown'
          refine hK.out _ _ (HS.out _ hg6) (fun hHeld => ?_)
          clear hK K
          try simp only [Act.put, List.setIfInBounds_toArray, List.set_cons_zero, List.set_cons_succ]
          refine wpAnyH_take (i := 9) (oi := { dst := some 34, op := Op.fieldAddr 27 (Operand.tmp 5) 1, type := 0, pos := "ref.go:90", after := #[{ on := 0, ground := Ground.phase }, { on := 1, ground := Ground.phase }, { on := 2, ground := Ground.phase }, { on := 3, ground := Ground.phase }, { on := 4, ground := Ground.phase }, { on := 5, ground := Ground.phase }, { on := 6, ground := Ground.phase }, { on := 7, ground := Ground.phase }, { on := 8, ground := Ground.phase }], guard := none }) (v := ?_) rfl (by kernel_rfl) (by kernel_rfl) (by kernel_rfl) (fun _ _ _ h => h) (Or.inl ⟨by rfl, ?_⟩) (by assumption) ?_
          rotate_left 1
          · (intro W hSW; (try dsimp only at hSW); first | (go_simp; done) | (go_simp; with_reducible rfl))
          try simp only [Act.put, List.setIfInBounds_toArray, List.set_cons_zero, List.set_cons_succ]
          refine wpAnyH_ready (rs := [10]) (by kernel_rfl) (by simp) ?_
          refine (AllReadyH.cons (o := { dst := none, op := Op.store 25 (Operand.tmp 34) (Operand.tmp 33), type := 0, pos := "ref.go:90", after := #[{ on := 9, ground := Ground.data }, { on := 8, ground := Ground.data }, { on := 8, ground := Ground.chain }, { on := 0, ground := Ground.phase }, { on := 1, ground := Ground.phase }, { on := 2, ground := Ground.phase }, { on := 3, ground := Ground.phase }, { on := 4, ground := Ground.phase }, { on := 5, ground := Ground.phase }, { on := 6, ground := Ground.phase }, { on := 7, ground := Ground.phase }, { on := 8, ground := Ground.phase }], guard := none }) rfl (fun K hK => ?_) AllReadyH.nil)
          rw [if_pos (by rfl)]
          go_simp
          have hst := HBX2.out.step haA hgrow6 hown'
          have hgs := HBX2.out.grows2 hst HE.out HB0'.out haA hgrow6
          refine hK.out _ _ (HS.out _ hgs) (fun hHeld => ?_)
          clear hK K
          try simp only [Act.put, List.setIfInBounds_toArray, List.set_cons_zero, List.set_cons_succ]
          refine wpAnyH_done (by kernel_rfl) ?_ _
          have hEND := hgs
          clear hHeld
          have HE2 := Lib.hid (And.intro hst hgs)
          clear hst hgs hs1 hs2 hgrow6 hown' hat6 haA hnA HBA hgA hg6 hEND
          go_wp2_with fail
          go_roundg (n - (i + 1))
          case measure => rw [HI.out]; omega
          case rel => exact ⟨i + 1, _, rfl, rfl, by omega, by rw [HLS.out]; exact HE2.out.1, HE2.out.2⟩
    · have hie : i = n := by omega
      subst hie
      have hinB : decide (i < i) = false := by simp
      have HL : Hid (lacks (xs.take i) ys = lacks xs ys) := Lib.hid (by rw [List.take_of_length_le (by rw [HH.out.2.1]; exact Nat.le_refl _)])
      obtain ⟨a', c', he, hsp⟩ := ints_span HBX.out.own
      injection he with he1 _ he2
      subst he1 he2
      have HSP := Lib.hid hsp; clear hsp
      obtain ⟨p, hp⟩ : ∃ p, (lacks (xs.take i) ys).length = p := ⟨_, rfl⟩
      have HP := Lib.hid hp
      have r0 := HBX.out.c0
      have r1 := HBX.out.row
      have m0 := HWR.out.cell hcs.2.2.2.2.2.1 (by simp)
      have m1 := HWR.out.cell hcs.2.2.2.2.2.2.1 (by simp)
      have f0 := (grown_frozen HWR.out (show w.heap.size + 2 < W.heap.size by have := HSZ.out; omega) 0).trans hcs.2.2.2.2.2.2.2.1
      have f1 := (grown_frozen HWR.out (show w.heap.size + 2 < W.heap.size by have := HSZ.out; omega) 1).trans hcs.2.2.2.2.2.2.2.2
      rw [hp] at r1
      clear hp hcs
      go_wp2_with fail
      refine bodyPost_ret (results111 _ _ (w.heap.size + 2) va p vc k rfl (by rw [World.cell?_setCell_other _ _ _ _ (by intro e; injection e with _ e; cases e)]; exact World.cell?_setCell_same _ _ _ m0) (World.cell?_setCell_same _ _ _ (by rw [World.cell?_setCell_other _ _ _ _ (by intro e; injection e with _ e; cases e)]; exact m1))) rfl ⟨va, vc, by rw [← HL.out, HP.out], ?_, ?_⟩
      · have hz2 : ((wr.setCell ⟨w.heap.size + 2, 0, none⟩ (.int .i64 k)).setCell ⟨w.heap.size + 2, 1, none⟩ (.slice va p vc)).heap.size = wr.heap.size := by simp [World.setCell]
        have h1 := (HSP.out.off (grown_set _ (w.heap.size + 2) 0 (.int .i64 k)) (fun x e => by cases e; have := HSZ.out; exact .inl (by omega))).off (grown_set _ (w.heap.size + 2) 1 (.slice va p vc)) (fun x e => by cases e; have := HSZ.out; exact .inl (by omega))
        rw [← HL.out]
        exact (h1.map (fun _ h => h.weak)).wide (by have := HSZ.out; omega) (by rw [hz2]; exact Nat.le_refl _) (Nat.le_refl _)
      · exact grown_own (grown_own (HG.out.trans HWR.out) (grown_set _ (w.heap.size + 2) 0 _) (fun k hk => by cases hk; omega)) (grown_set _ (w.heap.size + 2) 1 _) (fun k hk => by cases hk; omega)
end Go.Proofs.Ytkoigonbncpbaaa

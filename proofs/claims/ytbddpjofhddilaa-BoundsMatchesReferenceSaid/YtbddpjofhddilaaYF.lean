/- The reference's meet of two rows; its union of two. -/
import Derived.Test.YtbddpjofhddilaaYE
namespace Go.Proofs.Ytbddpjofhddilaa
open Go.RowKit

theorem results105 (tmps : Array Value) (w : World) (b : Nat) (a : Option Addr) (n c : Nat) (x : Int) (ht : tmps.getD 4 undef = .pointer (some ⟨b, 0, none⟩)) (h0 : w.cell? ⟨b, 0, none⟩ = some (.int .i64 x)) (h1 : w.cell? ⟨b, 1, none⟩ = some (.slice a n c)) :
    (results Try.f105 tmps).run Try.prog w = .ok (.agg #[.int .i64 x, .slice a n c]) w := by
  have ht' : tmps[4]?.getD undef = .pointer (some ⟨b, 0, none⟩) := by simpa using ht
  simp [results, ht', go_sem, h0, h1, Result.andThen]

set_option maxRecDepth 100000 in
set_option maxHeartbeats 8000000 in
theorem rInter_calls (k k' : Int) (xs ys : List Int) (xa ya : Option Addr) (xc yc : Nat) (w : World) (h : IntsW w xa xc xs) (h' : IntsW w ya yc ys) (hl : xs.length ≤ 100000) (hl' : ys.length ≤ 100000) (hu : Up ys) :
    Calls Try.prog 105 #[.agg #[.int .i64 k, .slice xa xs.length xc], .agg #[.int .i64 k', .slice ya ys.length yc]] w fun e w' => ∃ a c, e = .returned (.agg #[.int .i64 k, .slice a (shares xs ys).length c]) ∧ Span w.heap.size w'.heap.size w' (fun W => IntsW W a c (shares xs ys)) ∧ w.grownBy w' none := by
  have HHAS := Lib.hid (fun (W : World) (z : Int) (g : w.grownBy W none) => has_calls k' ys ya yc z W (h'.grown g) (by omega) hu)
  obtain ⟨i0, hi0, hz0, hz1, hz2⟩ := info_parts info3
  obtain ⟨n, hn⟩ : ∃ n, xs.length = n := ⟨_, rfl⟩
  obtain ⟨m, hm⟩ : ∃ m, ys.length = m := ⟨_, rfl⟩
  have hg1 := World.grownBy_alloc w (.cells #[.int .i64 k, .slice xa n xc] 53) none
  have hg2 := World.grownBy_alloc (w.alloc (.cells #[.int .i64 k, .slice xa n xc] 53)) (.cells #[.int .i64 k', .slice ya m yc] 53) none
  have hg3 := World.grownBy_alloc ((w.alloc (.cells #[.int .i64 k, .slice xa n xc] 53)).alloc (.cells #[.int .i64 k', .slice ya m yc] 53)) (.cells #[.int .i64 0, .slice none 0 0] 53) none
  have hg := (hg1.trans hg2).trans hg3
  have hc := six_cells w (.int .i64 k) (.slice xa n xc) (.int .i64 k') (.slice ya m yc) (.int .i64 0) (.slice none 0 0) 53 53 53
  obtain ⟨W, hW⟩ : ∃ W, ((w.alloc (.cells #[.int .i64 k, .slice xa n xc] 53)).alloc (.cells #[.int .i64 k', .slice ya m yc] 53)).alloc (.cells #[.int .i64 0, .slice none 0 0] 53) = W := ⟨_, rfl⟩
  have hsz : W.heap.size = w.heap.size + 3 := by rw [← hW]; simp
  rw [hW] at hg hc
  have HH := Lib.hid (And.intro (h.grown hg) (And.intro hn hm))
  rw [hm] at HHAS hl'
  rw [hn] at hl ⊢
  rw [hm]
  clear h h' hu hn hm hg1 hg2 hg3
  have HG := Lib.hid hg; clear hg
  have HC := Lib.hid hc
  obtain ⟨hlt, c0, c1, d0, d1, e0, e1, ef0, ef1⟩ := hc
  have HB0 := Lib.hid (RowBox.new W k (Bs := W.heap.size + 1) rfl)
  have HG0 := Lib.hid (World.grownBy_alloc W (.cells #[.int .i64 k, .slice none 0 0] 53) none)
  have HSZ := Lib.hid hsz
  clear hsz
  go_enter Try.func105, Try.ntmps105
  go_wp2_with fail
  clear hW hlt c0 c1 d0 d1 e0 e1 ef0 ef1
  obtain ⟨W1, hW1⟩ : ∃ W1, W.alloc (.cells #[.int .i64 k, .slice none 0 0] 53) = W1 := ⟨_, rfl⟩
  rw [hW1] at HB0 HG0 ⊢
  clear hW1
  go_loopg [6] n (fun g s6 wr => ∃ (i : Nat) (v : Value), s6 = .int .i64 (i : Int) ∧ g = n - i ∧ i ≤ n ∧ RowBox (W.heap.size + 1) wr W.heap.size k v (shares (xs.take i) ys) ∧ W.grownBy wr none)
  case atStart => exact ⟨0, .slice none 0 0, rfl, rfl, Nat.zero_le _, HB0.out, HG0.out⟩
  case round =>
    obtain ⟨i, v, rfl, hgk, hi, hbx, hgr⟩ := hrel
    obtain ⟨va, vc, rfl⟩ := own_shape hbx.own
    have HBX := Lib.hid hbx; clear hbx
    have HWR := Lib.hid hgr; clear hgr
    have HI := Lib.hid hgk; clear hgk
    have hcs := HC.out
    have c1 := HWR.out.cell hcs.2.2.1 (by simp)
    by_cases hin : i < n
    · have hinB : decide (i < n) = true := by simpa using hin
      have hinI : (i : Int) < (n : Int) := by omega
      obtain ⟨z, hz⟩ : ∃ z, xs[i]? = some z := ⟨_, List.getElem?_eq_getElem (by rw [HH.out.2.1]; exact hin)⟩
      obtain ⟨b, o, rfl, hcell⟩ := HH.out.1.at hz
      have HZ := Lib.hid hz; clear hz
      have HHZ := Lib.hid (fun (U : World) (g : W.grownBy U none) => HHAS.out U z (HG.out.trans g))
      have HLT := Lib.hid (shares_take (ys := ys) HZ.out)
      obtain ⟨Q, hQ⟩ : ∃ Q, decide (z ∈ ys) = Q := ⟨_, rfl⟩
      rw [hQ] at HHZ
      have HQ := Lib.hid hQ; clear hQ
      go_wp2_with fail
      have HS := Lib.hid (fun (Wh : World) (hWh : W.grownBy Wh none) => (⟨hWh, hWh.cell hcs.2.1 (by simp), hWh.cell hcs.2.2.1 (by simp), hWh.cell hcs.2.2.2.1 (by simp), hWh.cell hcs.2.2.2.2.1 (by simp), hWh.cell hcell (by simp)⟩ : (fun Wh : World => W.grownBy Wh none ∧ Wh.cell? ⟨w.heap.size, 0, none⟩ = some (.int .i64 k) ∧ Wh.cell? ⟨w.heap.size, 1, none⟩ = some (.slice (some ⟨b, o, none⟩) n xc) ∧ Wh.cell? ⟨w.heap.size + 1, 0, none⟩ = some (.int .i64 k') ∧ Wh.cell? ⟨w.heap.size + 1, 1, none⟩ = some (.slice ya m yc) ∧ Wh.cell? ⟨b, o + i, none⟩ = some (.int .i64 z)) Wh))
      have hdr : W.grownBy wr.drew none := World.grownBy.trans HWR.out (⟨rfl, rfl, rfl, Nat.le_refl _, fun _ _ _ => rfl⟩ : wr.grownBy wr.drew none)
      refine wp_region_held_drew (S := (fun Wh : World => W.grownBy Wh none ∧ Wh.cell? ⟨w.heap.size, 0, none⟩ = some (.int .i64 k) ∧ Wh.cell? ⟨w.heap.size, 1, none⟩ = some (.slice (some ⟨b, o, none⟩) n xc) ∧ Wh.cell? ⟨w.heap.size + 1, 0, none⟩ = some (.int .i64 k') ∧ Wh.cell? ⟨w.heap.size + 1, 1, none⟩ = some (.slice ya m yc) ∧ Wh.cell? ⟨b, o + i, none⟩ = some (.int .i64 z))) (by kernel_rfl) (HS.out _ hdr) (fun hHeld => ?_)
      refine wpAnyH_take (i := 0) (oi := { dst := some 17, op := Op.load 53 (Operand.tmp 3), type := 53, pos := "ref.go:78", after := #[], guard := none }) (v := ?_) rfl (by kernel_rfl) (by kernel_rfl) (by kernel_rfl) (fun _ _ _ h => h) (Or.inl ⟨by rfl, ?_⟩) (by assumption) ?_
      rotate_left 1
      · (intro W hSW; (try dsimp only at hSW); first | (go_simp; done) | (go_simp; with_reducible rfl))
      try simp only [Act.put, List.setIfInBounds_toArray, List.set_cons_zero, List.set_cons_succ]
      refine wpAnyH_take (i := 1) (oi := { dst := some 18, op := Op.fieldAddr 53 (Operand.tmp 2) 1, type := 0, pos := "ref.go:78", after := #[], guard := none }) (v := ?_) rfl (by kernel_rfl) (by kernel_rfl) (by kernel_rfl) (fun _ _ _ h => h) (Or.inl ⟨by rfl, ?_⟩) (by assumption) ?_
      rotate_left 1
      · (intro W hSW; (try dsimp only at hSW); first | (go_simp; done) | (go_simp; with_reducible rfl))
      try simp only [Act.put, List.setIfInBounds_toArray, List.set_cons_zero, List.set_cons_succ]
      refine wpAnyH_take (i := 2) (oi := { dst := some 19, op := Op.load 28 (Operand.tmp 18), type := 28, pos := "ref.go:78", after := #[{ on := 1, ground := Ground.data }], guard := none }) (v := ?_) rfl (by kernel_rfl) (by kernel_rfl) (by kernel_rfl) (fun _ _ _ h => h) (Or.inl ⟨by rfl, ?_⟩) (by assumption) ?_
      rotate_left 1
      · (intro W hSW; (try dsimp only at hSW); first | (go_simp; done) | (go_simp; with_reducible rfl))
      try simp only [Act.put, List.setIfInBounds_toArray, List.set_cons_zero, List.set_cons_succ]
      refine wpAnyH_take (i := 3) (oi := { dst := some 20, op := Op.move (Operand.tmp 6), type := 3, pos := "ref.go:78", after := #[], guard := none }) (v := ?_) rfl (by kernel_rfl) (by kernel_rfl) (by kernel_rfl) (fun _ _ _ h => h) (Or.inl ⟨by rfl, ?_⟩) (by assumption) ?_
      rotate_left 1
      · (intro W hSW; (try dsimp only at hSW); first | (go_simp; done) | (go_simp; with_reducible rfl))
      try simp only [Act.put, List.setIfInBounds_toArray, List.set_cons_zero, List.set_cons_succ]
      refine wpAnyH_take (i := 4) (oi := { dst := some 21, op := Op.indexAddr 28 (Operand.tmp 19) (Operand.tmp 20), type := 0, pos := "ref.go:78", after := #[{ on := 2, ground := Ground.data }, { on := 3, ground := Ground.data }], guard := none }) (v := ?_) rfl (by kernel_rfl) (by kernel_rfl) (by kernel_rfl) (fun _ _ _ h => h) (Or.inl ⟨by rfl, ?_⟩) (by assumption) ?_
      rotate_left 1
      · (intro W hSW; (try dsimp only at hSW); first | (go_simp; done) | (go_simp; with_reducible rfl))
      try simp only [Act.put, List.setIfInBounds_toArray, List.set_cons_zero, List.set_cons_succ]
      refine wpAnyH_take (i := 5) (oi := { dst := some 22, op := Op.load 3 (Operand.tmp 21), type := 3, pos := "ref.go:78", after := #[{ on := 4, ground := Ground.data }], guard := none }) (v := ?_) rfl (by kernel_rfl) (by kernel_rfl) (by kernel_rfl) (fun _ _ _ h => h) (Or.inl ⟨by rfl, ?_⟩) (by assumption) ?_
      rotate_left 1
      · (intro W hSW; (try dsimp only at hSW); first | (go_simp; done) | (go_simp; with_reducible rfl))
      try simp only [Act.put, List.setIfInBounds_toArray, List.set_cons_zero, List.set_cons_succ]
      refine wpAnyH_ready (rs := [6]) (by kernel_rfl) (by simp) ?_
      refine (AllReadyH.cons (o := { dst := some 23, op := Op.call { callee := Callee.value (Operand.func 128), args := #[Operand.tmp 17, Operand.tmp 22], argTypes := #[53, 3] }, type := 4, pos := "ref.go:78", after := #[{ on := 0, ground := Ground.data }, { on := 5, ground := Ground.data }], guard := none }) rfl (fun K hK => ?_) AllReadyH.nil)
      rw [if_pos (by rfl)]
      go_simp
      go_at_call 128
      refine (HHZ.out _ (hdr)).mono ?_
      rintro e wc1 ⟨rfl, gc1⟩
      have hgr1 := World.grownBy.trans hdr gc1
      go_wp2_with fail
      refine hK.out _ _ (HS.out _ hgr1) (fun hHeld => ?_)
      clear hK K
      try simp only [Act.put, List.setIfInBounds_toArray, List.set_cons_zero, List.set_cons_succ]
      refine wpAnyH_done (by kernel_rfl) ?_ _
      have hEND := hgr1
      clear hHeld
      have HE := Lib.hid hEND
      clear hEND c1
      cases Q with
      | false =>
        have HLS : Hid (shares (xs.take (i + 1)) ys = shares (xs.take i) ys) := Lib.hid (by rw [HLT.out, if_neg (of_decide_eq_false HQ.out)])
        have HBX2 := Lib.hid (HBX.out.grown (World.grownBy.trans (⟨rfl, rfl, rfl, Nat.le_refl _, fun _ _ _ => rfl⟩ : wr.grownBy wr.drew none) gc1))
        go_wp2_with fail
        go_roundg (n - (i + 1))
        case measure => rw [HI.out]; omega
        case rel => exact ⟨i + 1, _, rfl, rfl, by omega, by rw [HLS.out]; exact HBX2.out, HE.out⟩
      | true =>
        have HLS : Hid (shares (xs.take (i + 1)) ys = shares (xs.take i) ys ++ [z]) := Lib.hid (by rw [HLT.out, if_pos (of_decide_eq_true HQ.out)])
        have HBX2 := Lib.hid (HBX.out.grown (World.grownBy.trans (⟨rfl, rfl, rfl, Nat.le_refl _, fun _ _ _ => rfl⟩ : wr.grownBy wr.drew none) gc1))
        have HLEN : Hid ((shares (xs.take i) ys).length ≤ 1000000) := Lib.hid (by have h1 := shares_len (xs.take i) ys; rw [List.length_take] at h1; omega)
        have HB0' : Hid (W.heap.size ≤ W.heap.size) := Lib.hid (Nat.le_refl _)
        go_wp2_with fail
        have hdr : W.grownBy wc1.drew none := World.grownBy.trans HE.out (⟨rfl, rfl, rfl, Nat.le_refl _, fun _ _ _ => rfl⟩ : wc1.grownBy wc1.drew none)
        refine wp_region_held_drew (S := (fun Wh : World => W.grownBy Wh none ∧ Wh.cell? ⟨w.heap.size, 0, none⟩ = some (.int .i64 k) ∧ Wh.cell? ⟨w.heap.size, 1, none⟩ = some (.slice (some ⟨b, o, none⟩) n xc) ∧ Wh.cell? ⟨w.heap.size + 1, 0, none⟩ = some (.int .i64 k') ∧ Wh.cell? ⟨w.heap.size + 1, 1, none⟩ = some (.slice ya m yc) ∧ Wh.cell? ⟨b, o + i, none⟩ = some (.int .i64 z))) (by kernel_rfl) (HS.out _ hdr) (fun hHeld => ?_)
        refine wpAnyH_take (i := 0) (oi := { dst := some 24, op := Op.fieldAddr 53 (Operand.tmp 5) 1, type := 0, pos := "ref.go:79", after := #[], guard := none }) (v := ?_) rfl (by kernel_rfl) (by kernel_rfl) (by kernel_rfl) (fun _ _ _ h => h) (Or.inl ⟨by rfl, ?_⟩) (by assumption) ?_
        rotate_left 1
        · (intro W hSW; (try dsimp only at hSW); first | (go_simp; done) | (go_simp; with_reducible rfl))
        try simp only [Act.put, List.setIfInBounds_toArray, List.set_cons_zero, List.set_cons_succ]
        refine wpAnyH_take (i := 2) (oi := { dst := some 26, op := Op.fieldAddr 53 (Operand.tmp 2) 1, type := 0, pos := "ref.go:79", after := #[], guard := none }) (v := ?_) rfl (by kernel_rfl) (by kernel_rfl) (by kernel_rfl) (fun _ _ _ h => h) (Or.inl ⟨by rfl, ?_⟩) (by assumption) ?_
        rotate_left 1
        · (intro W hSW; (try dsimp only at hSW); first | (go_simp; done) | (go_simp; with_reducible rfl))
        try simp only [Act.put, List.setIfInBounds_toArray, List.set_cons_zero, List.set_cons_succ]
        refine wpAnyH_take (i := 3) (oi := { dst := some 27, op := Op.load 28 (Operand.tmp 26), type := 28, pos := "ref.go:79", after := #[{ on := 2, ground := Ground.data }], guard := none }) (v := ?_) rfl (by kernel_rfl) (by kernel_rfl) (by kernel_rfl) (fun _ _ _ h => h) (Or.inl ⟨by rfl, ?_⟩) (by assumption) ?_
        rotate_left 1
        · (intro W hSW; (try dsimp only at hSW); first | (go_simp; done) | (go_simp; with_reducible rfl))
        try simp only [Act.put, List.setIfInBounds_toArray, List.set_cons_zero, List.set_cons_succ]
        refine wpAnyH_take (i := 4) (oi := { dst := some 28, op := Op.move (Operand.tmp 6), type := 3, pos := "ref.go:79", after := #[], guard := none }) (v := ?_) rfl (by kernel_rfl) (by kernel_rfl) (by kernel_rfl) (fun _ _ _ h => h) (Or.inl ⟨by rfl, ?_⟩) (by assumption) ?_
        rotate_left 1
        · (intro W hSW; (try dsimp only at hSW); first | (go_simp; done) | (go_simp; with_reducible rfl))
        try simp only [Act.put, List.setIfInBounds_toArray, List.set_cons_zero, List.set_cons_succ]
        refine wpAnyH_take (i := 5) (oi := { dst := some 29, op := Op.indexAddr 28 (Operand.tmp 27) (Operand.tmp 28), type := 0, pos := "ref.go:79", after := #[{ on := 3, ground := Ground.data }, { on := 4, ground := Ground.data }], guard := none }) (v := ?_) rfl (by kernel_rfl) (by kernel_rfl) (by kernel_rfl) (fun _ _ _ h => h) (Or.inl ⟨by rfl, ?_⟩) (by assumption) ?_
        rotate_left 1
        · (intro W hSW; (try dsimp only at hSW); first | (go_simp; done) | (go_simp; with_reducible rfl))
        try simp only [Act.put, List.setIfInBounds_toArray, List.set_cons_zero, List.set_cons_succ]
        refine wpAnyH_take (i := 6) (oi := { dst := some 30, op := Op.load 3 (Operand.tmp 29), type := 3, pos := "ref.go:79", after := #[{ on := 5, ground := Ground.data }], guard := none }) (v := ?_) rfl (by kernel_rfl) (by kernel_rfl) (by kernel_rfl) (fun _ _ _ h => h) (Or.inl ⟨by rfl, ?_⟩) (by assumption) ?_
        rotate_left 1
        · (intro W hSW; (try dsimp only at hSW); first | (go_simp; done) | (go_simp; with_reducible rfl))
        try simp only [Act.put, List.setIfInBounds_toArray, List.set_cons_zero, List.set_cons_succ]
        refine wpAnyH_ready (rs := [1, 7]) (by kernel_rfl) (by simp) ?_
        refine (AllReadyH.cons (o := { dst := some 25, op := Op.load 28 (Operand.tmp 24), type := 28, pos := "ref.go:79", after := #[{ on := 0, ground := Ground.data }], guard := none }) rfl (fun K hK => ?_) (AllReadyH.cons (o := { dst := some 31, op := Op.buildSlice 28 1 #[(0, Operand.tmp 30)], type := 28, pos := "ref.go:79", after := #[{ on := 6, ground := Ground.data }], guard := none }) rfl (fun K hK => ?_) AllReadyH.nil))
        · rw [if_pos (by rfl)]
          have hrow := (HBX2.out).row
          go_simp
          clear hrow
          refine hK.out _ _ (HS.out _ hdr) (fun hHeld => ?_)
          clear hK K
          try simp only [Act.put, List.setIfInBounds_toArray, List.set_cons_zero, List.set_cons_succ]
          refine wpAnyH_ready (rs := [7]) (by kernel_rfl) (by simp) ?_
          refine (AllReadyH.cons (o := { dst := some 31, op := Op.buildSlice 28 1 #[(0, Operand.tmp 30)], type := 28, pos := "ref.go:79", after := #[{ on := 6, ground := Ground.data }], guard := none }) rfl (fun K hK => ?_) AllReadyH.nil)
          rw [if_pos (by rfl)]
          go_simp
          have haA : wc1.grownBy ((World.alloc wc1 (.cells #[.int .i64 z] 3)).drew) none := World.grownBy.trans (World.grownBy_alloc wc1 _ none) (⟨rfl, rfl, rfl, Nat.le_refl _, fun _ _ _ => rfl⟩ : (World.alloc wc1 (.cells #[.int .i64 z] 3)).grownBy ((World.alloc wc1 (.cells #[.int .i64 z] 3)).drew) none)
          have hnA : ∀ j u, [Value.int .i64 z][j]? = some u → ((World.alloc wc1 (.cells #[.int .i64 z] 3)).drew).cell? ((⟨wc1.heap.size, 0, none⟩ : Addr).add j) = some u := cell_one_new wc1 _ _
          obtain ⟨WA, hWA⟩ : ∃ WA, (World.alloc wc1 (.cells #[.int .i64 z] 3)).drew = WA := ⟨_, rfl⟩
          rw [hWA] at haA hnA ⊢
          clear hWA
          have HBA := HBX2.out.grown haA
          have hgA := World.grownBy.trans HE.out haA
          refine hK.out _ _ (HS.out _ hgA) (fun hHeld => ?_)
          clear hK K
          try simp only [Act.put, List.setIfInBounds_toArray, List.set_cons_zero, List.set_cons_succ]
          refine wpAnyH_ready (rs := [8]) (by kernel_rfl) (by simp) ?_
          refine (AllReadyH.cons (o := { dst := some 32, op := Op.call { callee := Callee.builtin Builtin.append, args := #[Operand.tmp 25, Operand.tmp 31], argTypes := #[28, 28] }, type := 28, pos := "ref.go:79", after := #[{ on := 1, ground := Ground.data }, { on := 7, ground := Ground.data }], guard := none }) rfl (fun K hK => ?_) AllReadyH.nil)
          refine ready_append_g 28 3 (.tmp 25) (.tmp 31) rfl rfl Try.underlying28 hi0 hz0 hz1 hz2 rfl (by decide) (by omega) (W.heap.size + 1) _ _ (intCells _) rfl HBA.own ⟨wc1.heap.size, 0, none⟩ [.int .i64 z] rfl rfl hnA (fun u hu => by simp at hu; subst hu; rfl) HLEN.out (HBA.low.2) (fun v' w6 hown' hgrow6 hat6 => ?_)
          have hg6 := grown_own hgA hgrow6 (fun j hj => by have h1 := (HBA.own.lt j hj).1; have h2 := HBA.low.1; have h3 := HB0'.out; omega)
          obtain ⟨hs1, hs2⟩ := HBX2.out.at_ haA hgrow6
          obtain ⟨rgA, rcA, rfl⟩ := own_shape hown'
          refine hK.out _ _ (HS.out _ hg6) (fun hHeld => ?_)
          clear hK K
          try simp only [Act.put, List.setIfInBounds_toArray, List.set_cons_zero, List.set_cons_succ]
          refine wpAnyH_take (i := 9) (oi := { dst := some 33, op := Op.fieldAddr 53 (Operand.tmp 5) 1, type := 0, pos := "ref.go:79", after := #[{ on := 0, ground := Ground.phase }, { on := 1, ground := Ground.phase }, { on := 2, ground := Ground.phase }, { on := 3, ground := Ground.phase }, { on := 4, ground := Ground.phase }, { on := 5, ground := Ground.phase }, { on := 6, ground := Ground.phase }, { on := 7, ground := Ground.phase }, { on := 8, ground := Ground.phase }], guard := none }) (v := ?_) rfl (by kernel_rfl) (by kernel_rfl) (by kernel_rfl) (fun _ _ _ h => h) (Or.inl ⟨by rfl, ?_⟩) (by assumption) ?_
          rotate_left 1
          · (intro W hSW; (try dsimp only at hSW); first | (go_simp; done) | (go_simp; with_reducible rfl))
          try simp only [Act.put, List.setIfInBounds_toArray, List.set_cons_zero, List.set_cons_succ]
          refine wpAnyH_ready (rs := [10]) (by kernel_rfl) (by simp) ?_
          refine (AllReadyH.cons (o := { dst := none, op := Op.store 28 (Operand.tmp 33) (Operand.tmp 32), type := 0, pos := "ref.go:79", after := #[{ on := 9, ground := Ground.data }, { on := 8, ground := Ground.data }, { on := 8, ground := Ground.chain }, { on := 0, ground := Ground.phase }, { on := 1, ground := Ground.phase }, { on := 2, ground := Ground.phase }, { on := 3, ground := Ground.phase }, { on := 4, ground := Ground.phase }, { on := 5, ground := Ground.phase }, { on := 6, ground := Ground.phase }, { on := 7, ground := Ground.phase }, { on := 8, ground := Ground.phase }], guard := none }) rfl (fun K hK => ?_) AllReadyH.nil)
          rw [if_pos (by rfl)]
          go_simp
          have hst := HBX2.out.step haA hgrow6 hown'
          have hgs := HBX2.out.grows2 hst HE.out HB0'.out haA hgrow6
          refine hK.out _ _ (HS.out _ hgs) (fun hHeld => ?_)
          clear hK K
          try simp only [Act.put, List.setIfInBounds_toArray, List.set_cons_zero, List.set_cons_succ]
          refine wpAnyH_done (by kernel_rfl) ?_ _
          have hEND := hgs
          clear hHeld
          have HE2 := Lib.hid (And.intro hst hgs)
          clear hst hgs hs1 hs2 hgrow6 hown' hat6 haA hnA HBA hgA hg6 hEND
          go_wp2_with fail
          go_roundg (n - (i + 1))
          case measure => rw [HI.out]; omega
          case rel => exact ⟨i + 1, _, rfl, rfl, by omega, by rw [HLS.out]; exact HE2.out.1, HE2.out.2⟩
        · rw [if_pos (by rfl)]
          go_simp
          have haA : wc1.grownBy ((World.alloc wc1 (.cells #[.int .i64 z] 3)).drew) none := World.grownBy.trans (World.grownBy_alloc wc1 _ none) (⟨rfl, rfl, rfl, Nat.le_refl _, fun _ _ _ => rfl⟩ : (World.alloc wc1 (.cells #[.int .i64 z] 3)).grownBy ((World.alloc wc1 (.cells #[.int .i64 z] 3)).drew) none)
          have hnA : ∀ j u, [Value.int .i64 z][j]? = some u → ((World.alloc wc1 (.cells #[.int .i64 z] 3)).drew).cell? ((⟨wc1.heap.size, 0, none⟩ : Addr).add j) = some u := cell_one_new wc1 _ _
          obtain ⟨WA, hWA⟩ : ∃ WA, (World.alloc wc1 (.cells #[.int .i64 z] 3)).drew = WA := ⟨_, rfl⟩
          rw [hWA] at haA hnA ⊢
          clear hWA
          have HBA := HBX2.out.grown haA
          have hgA := World.grownBy.trans HE.out haA
          refine hK.out _ _ (HS.out _ hgA) (fun hHeld => ?_)
          clear hK K
          try simp only [Act.put, List.setIfInBounds_toArray, List.set_cons_zero, List.set_cons_succ]
          refine wpAnyH_ready (rs := [1]) (by kernel_rfl) (by simp) ?_
          refine (AllReadyH.cons (o := { dst := some 25, op := Op.load 28 (Operand.tmp 24), type := 28, pos := "ref.go:79", after := #[{ on := 0, ground := Ground.data }], guard := none }) rfl (fun K hK => ?_) AllReadyH.nil)
          rw [if_pos (by rfl)]
          have hrow := (HBA).row
          go_simp
          clear hrow
          refine hK.out _ _ (HS.out _ hgA) (fun hHeld => ?_)
          clear hK K
          try simp only [Act.put, List.setIfInBounds_toArray, List.set_cons_zero, List.set_cons_succ]
          refine wpAnyH_ready (rs := [8]) (by kernel_rfl) (by simp) ?_
          refine (AllReadyH.cons (o := { dst := some 32, op := Op.call { callee := Callee.builtin Builtin.append, args := #[Operand.tmp 25, Operand.tmp 31], argTypes := #[28, 28] }, type := 28, pos := "ref.go:79", after := #[{ on := 1, ground := Ground.data }, { on := 7, ground := Ground.data }], guard := none }) rfl (fun K hK => ?_) AllReadyH.nil)
          refine ready_append_g 28 3 (.tmp 25) (.tmp 31) rfl rfl Try.underlying28 hi0 hz0 hz1 hz2 rfl (by decide) (by omega) (W.heap.size + 1) _ _ (intCells _) rfl HBA.own ⟨wc1.heap.size, 0, none⟩ [.int .i64 z] rfl rfl hnA (fun u hu => by simp at hu; subst hu; rfl) HLEN.out (HBA.low.2) (fun v' w6 hown' hgrow6 hat6 => ?_)
          have hg6 := grown_own hgA hgrow6 (fun j hj => by have h1 := (HBA.own.lt j hj).1; have h2 := HBA.low.1; have h3 := HB0'.out; omega)
          obtain ⟨hs1, hs2⟩ := HBX2.out.at_ haA hgrow6
          obtain ⟨rgA, rcA, rfl⟩ := own_shape hown'
          refine hK.out _ _ (HS.out _ hg6) (fun hHeld => ?_)
          clear hK K
          try simp only [Act.put, List.setIfInBounds_toArray, List.set_cons_zero, List.set_cons_succ]
          refine wpAnyH_take (i := 9) (oi := { dst := some 33, op := Op.fieldAddr 53 (Operand.tmp 5) 1, type := 0, pos := "ref.go:79", after := #[{ on := 0, ground := Ground.phase }, { on := 1, ground := Ground.phase }, { on := 2, ground := Ground.phase }, { on := 3, ground := Ground.phase }, { on := 4, ground := Ground.phase }, { on := 5, ground := Ground.phase }, { on := 6, ground := Ground.phase }, { on := 7, ground := Ground.phase }, { on := 8, ground := Ground.phase }], guard := none }) (v := ?_) rfl (by kernel_rfl) (by kernel_rfl) (by kernel_rfl) (fun _ _ _ h => h) (Or.inl ⟨by rfl, ?_⟩) (by assumption) ?_
          rotate_left 1
          · (intro W hSW; (try dsimp only at hSW); first | (go_simp; done) | (go_simp; with_reducible rfl))
          try simp only [Act.put, List.setIfInBounds_toArray, List.set_cons_zero, List.set_cons_succ]
          refine wpAnyH_ready (rs := [10]) (by kernel_rfl) (by simp) ?_
          refine (AllReadyH.cons (o := { dst := none, op := Op.store 28 (Operand.tmp 33) (Operand.tmp 32), type := 0, pos := "ref.go:79", after := #[{ on := 9, ground := Ground.data }, { on := 8, ground := Ground.data }, { on := 8, ground := Ground.chain }, { on := 0, ground := Ground.phase }, { on := 1, ground := Ground.phase }, { on := 2, ground := Ground.phase }, { on := 3, ground := Ground.phase }, { on := 4, ground := Ground.phase }, { on := 5, ground := Ground.phase }, { on := 6, ground := Ground.phase }, { on := 7, ground := Ground.phase }, { on := 8, ground := Ground.phase }], guard := none }) rfl (fun K hK => ?_) AllReadyH.nil)
          rw [if_pos (by rfl)]
          go_simp
          have hst := HBX2.out.step haA hgrow6 hown'
          have hgs := HBX2.out.grows2 hst HE.out HB0'.out haA hgrow6
          refine hK.out _ _ (HS.out _ hgs) (fun hHeld => ?_)
          clear hK K
          try simp only [Act.put, List.setIfInBounds_toArray, List.set_cons_zero, List.set_cons_succ]
          refine wpAnyH_done (by kernel_rfl) ?_ _
          have hEND := hgs
          clear hHeld
          have HE2 := Lib.hid (And.intro hst hgs)
          clear hst hgs hs1 hs2 hgrow6 hown' hat6 haA hnA HBA hgA hg6 hEND
          go_wp2_with fail
          go_roundg (n - (i + 1))
          case measure => rw [HI.out]; omega
          case rel => exact ⟨i + 1, _, rfl, rfl, by omega, by rw [HLS.out]; exact HE2.out.1, HE2.out.2⟩
    · have hie : i = n := by omega
      subst hie
      have hinB : decide (i < i) = false := by simp
      have HL : Hid (shares (xs.take i) ys = shares xs ys) := Lib.hid (by rw [List.take_of_length_le (by rw [HH.out.2.1]; exact Nat.le_refl _)])
      obtain ⟨a', c', he, hsp⟩ := ints_span HBX.out.own
      injection he with he1 _ he2
      subst he1 he2
      have HSP := Lib.hid hsp; clear hsp
      obtain ⟨p, hp⟩ : ∃ p, (shares (xs.take i) ys).length = p := ⟨_, rfl⟩
      have HP := Lib.hid hp
      have r0 := HBX.out.c0
      have r1 := HBX.out.row
      have m0 := HWR.out.cell hcs.2.2.2.2.2.1 (by simp)
      have m1 := HWR.out.cell hcs.2.2.2.2.2.2.1 (by simp)
      have f0 := (grown_frozen HWR.out (show w.heap.size + 2 < W.heap.size by have := HSZ.out; omega) 0).trans hcs.2.2.2.2.2.2.2.1
      have f1 := (grown_frozen HWR.out (show w.heap.size + 2 < W.heap.size by have := HSZ.out; omega) 1).trans hcs.2.2.2.2.2.2.2.2
      rw [hp] at r1
      clear hp hcs
      go_wp2_with fail
      refine bodyPost_ret (results105 _ _ (w.heap.size + 2) va p vc k rfl (by rw [World.cell?_setCell_other _ _ _ _ (by intro e; injection e with _ e; cases e)]; exact World.cell?_setCell_same _ _ _ m0) (World.cell?_setCell_same _ _ _ (by rw [World.cell?_setCell_other _ _ _ _ (by intro e; injection e with _ e; cases e)]; exact m1))) rfl ⟨va, vc, by rw [← HL.out, HP.out], ?_, ?_⟩
      · have hz2 : ((wr.setCell ⟨w.heap.size + 2, 0, none⟩ (.int .i64 k)).setCell ⟨w.heap.size + 2, 1, none⟩ (.slice va p vc)).heap.size = wr.heap.size := by simp [World.setCell]
        have h1 := (HSP.out.off (grown_set _ (w.heap.size + 2) 0 (.int .i64 k)) (fun x e => by cases e; have := HSZ.out; exact .inl (by omega))).off (grown_set _ (w.heap.size + 2) 1 (.slice va p vc)) (fun x e => by cases e; have := HSZ.out; exact .inl (by omega))
        rw [← HL.out]
        exact (h1.map (fun _ h => h.weak)).wide (by have := HSZ.out; omega) (by rw [hz2]; exact Nat.le_refl _) (Nat.le_refl _)
      · exact grown_own (grown_own (HG.out.trans HWR.out) (grown_set _ (w.heap.size + 2) 0 _) (fun k hk => by cases hk; omega)) (grown_set _ (w.heap.size + 2) 1 _) (fun k hk => by cases hk; omega)


theorem results104 (tmps : Array Value) (w : World) (b : Nat) (a : Option Addr) (n c : Nat) (x : Int) (ht : tmps.getD 4 undef = .pointer (some ⟨b, 0, none⟩)) (h0 : w.cell? ⟨b, 0, none⟩ = some (.int .i64 x)) (h1 : w.cell? ⟨b, 1, none⟩ = some (.slice a n c)) :
    (results Try.f104 tmps).run Try.prog w = .ok (.agg #[.int .i64 x, .slice a n c]) w := by
  have ht' : tmps[4]?.getD undef = .pointer (some ⟨b, 0, none⟩) := by simpa using ht
  simp [results, ht', go_sem, h0, h1, Result.andThen]

set_option maxRecDepth 100000 in
set_option maxHeartbeats 8000000 in
theorem rUnion_calls (k k' : Int) (xs ys : List Int) (xa ya : Option Addr) (xc yc : Nat) (w : World) (h : IntsW w xa xc xs) (h' : IntsW w ya yc ys) (hl : xs.length ≤ 4000) (hl' : ys.length ≤ 4000) (hx : Up xs) (hy : Up ys) :
    Calls Try.prog 104 #[.agg #[.int .i64 k, .slice xa xs.length xc], .agg #[.int .i64 k', .slice ya ys.length yc]] w fun e w' => ∃ a c, e = .returned (.agg #[.int .i64 k, .slice a (unionL xs ys).length c]) ∧ Span w.heap.size w'.heap.size w' (fun W => IntsW W a c (unionL xs ys)) ∧ w.grownBy w' none := by
  have HU := Lib.hid (ofTo_union hx hy); clear hx hy
  obtain ⟨n, hn⟩ : ∃ n, xs.length = n := ⟨_, rfl⟩
  obtain ⟨m, hm⟩ : ∃ m, ys.length = m := ⟨_, rfl⟩
  have hg1 := World.grownBy_alloc w (.cells #[.int .i64 k, .slice xa n xc] 53) none
  have hg2 := World.grownBy_alloc (w.alloc (.cells #[.int .i64 k, .slice xa n xc] 53)) (.cells #[.int .i64 k', .slice ya m yc] 53) none
  have hg3 := World.grownBy_alloc ((w.alloc (.cells #[.int .i64 k, .slice xa n xc] 53)).alloc (.cells #[.int .i64 k', .slice ya m yc] 53)) (.cells #[.int .i64 0, .slice none 0 0] 53) none
  have hg := (hg1.trans hg2).trans hg3
  have hc := six_cells w (.int .i64 k) (.slice xa n xc) (.int .i64 k') (.slice ya m yc) (.int .i64 0) (.slice none 0 0) 53 53 53
  obtain ⟨W, hW⟩ : ∃ W, ((w.alloc (.cells #[.int .i64 k, .slice xa n xc] 53)).alloc (.cells #[.int .i64 k', .slice ya m yc] 53)).alloc (.cells #[.int .i64 0, .slice none 0 0] 53) = W := ⟨_, rfl⟩
  have hsz : W.heap.size = w.heap.size + 3 := by rw [← hW]; simp
  rw [hW] at hg hc
  have HH := Lib.hid (And.intro (h.grown hg) (And.intro (h'.grown hg) (And.intro hn hm)))
  rw [hn] at hl
  rw [hm] at hl'
  rw [hn, hm]
  clear h h' hn hm hg1 hg2 hg3
  have HG := Lib.hid hg; clear hg
  have HC := Lib.hid hc
  have HSZ := Lib.hid hsz; clear hsz
  obtain ⟨hlt, c0, c1, d0, d1, e0, e1, ef0, ef1⟩ := hc
  have c1' := (World.grownBy_alloc W (.cells #[] 3) none).cell c1 (by simp)
  go_enter Try.func104, Try.ntmps104
  go_wp2_with (at_builtin; refine append_ints rfl _ _ rfl W.heap.size _ 0 [] rfl (World.ownsRow_made W #[] 0 (Nat.le_refl _) (Nat.zero_le _) rfl) xa n xc xs rfl HH.out.2.2.1 (HH.out.1.grown (World.grownBy_alloc W _ none)) (by omega) (World.grownBy.size (World.grownBy_alloc W (.cells #[] 3) none)) ?_)
  intro v1 x1 ho1 hg1
  replace ho1 : x1.ownsRow W.heap.size 3 1 v1 n (intCells xs) := by simpa [intCells] using ho1
  obtain ⟨va1, vc1, rfl⟩ := own_shape ho1
  have HO1 := Lib.hid ho1; clear ho1
  have HG1 : Hid (W.grownBy x1 none) := Lib.hid (grown_own (World.grownBy_alloc W _ none) hg1 (fun k hk => by simp [Value.ownBlock] at hk; omega))
  clear hg1 hW hlt c0 c1 c1' d0 d1 e0 e1 ef0 ef1
  have d1 := HG1.out.cell HC.out.2.2.2.2.1 (by simp)
  go_wp2_with (at_builtin; refine append_ints rfl _ _ rfl W.heap.size _ n xs rfl HO1.out ya m yc ys rfl HH.out.2.2.2 (HH.out.2.1.grown HG1.out) (by omega) HG1.out.size ?_)
  intro v2 x2 ho2 hg2
  replace ho2 : x2.ownsRow W.heap.size 3 1 v2 (xs ++ ys).length (intCells (xs ++ ys)) := by rw [List.length_append, HH.out.2.2.1, HH.out.2.2.2]; simpa [intCells] using ho2
  obtain ⟨a2, c2, rfl, hi2⟩ := ints_span ho2
  have HG2 : Hid (W.grownBy x2 none) := Lib.hid (grown_own HG1.out hg2 (fun k hk => (HO1.out.lt k hk).1))
  have HOF := Lib.hid (of_calls k (xs ++ ys) a2 c2 x2 hi2.here.weak (by rw [List.length_append, HH.out.2.2.1, HH.out.2.2.2]; omega))
  rw [HU.out] at HOF
  obtain ⟨q, hq⟩ : ∃ q, (xs ++ ys).length = q := ⟨_, rfl⟩
  rw [hq] at HOF
  have hqn : n + m = q := by rw [← hq, List.length_append, HH.out.2.2.1, HH.out.2.2.2]
  obtain ⟨p, hp⟩ : ∃ p, (unionL xs ys).length = p := ⟨_, rfl⟩
  rw [hp] at HOF
  have HP := Lib.hid hp
  rw [hq]
  clear hg2 ho2 hi2 d1 hq hqn hp
  have c0 := HG2.out.cell HC.out.2.1 (by simp)
  go_wp2_with fail
  clear c0
  refine HOF.out.mono ?_
  rintro e x3 ⟨a3, c3, rfl, hsp, g3⟩
  have HG3 := Lib.hid (HG2.out.trans g3)
  have HSP := Lib.hid hsp
  have HLE := Lib.hid (Nat.le_trans (Nat.le_of_eq HSZ.out.symm) HG2.out.size)
  clear g3 hsp
  have hcs := HC.out
  have m0 := HG3.out.cell hcs.2.2.2.2.2.1 (by simp)
  have m1 := HG3.out.cell hcs.2.2.2.2.2.2.1 (by simp)
  have f0 := (grown_frozen HG3.out (show w.heap.size + 2 < W.heap.size by have := HSZ.out; omega) 0).trans hcs.2.2.2.2.2.2.2.1
  have f1 := (grown_frozen HG3.out (show w.heap.size + 2 < W.heap.size by have := HSZ.out; omega) 1).trans hcs.2.2.2.2.2.2.2.2
  clear hcs
  go_wp2_with fail
  refine bodyPost_ret (results104 _ _ (w.heap.size + 2) a3 p c3 k rfl (by rw [World.cell?_setCell_other _ _ _ _ (by intro e; injection e with _ e; cases e)]; exact World.cell?_setCell_same _ _ _ m0) (World.cell?_setCell_same _ _ _ (by rw [World.cell?_setCell_other _ _ _ _ (by intro e; injection e with _ e; cases e)]; exact m1))) rfl ⟨a3, c3, by rw [HP.out], ?_, ?_⟩
  · have hz2 : ((x3.setCell ⟨w.heap.size + 2, 0, none⟩ (.int .i64 k)).setCell ⟨w.heap.size + 2, 1, none⟩ (.slice a3 p c3)).heap.size = x3.heap.size := by simp [World.setCell]
    have h1 := (HSP.out.off (grown_set _ (w.heap.size + 2) 0 (.int .i64 k)) (fun x e => by cases e; have := HLE.out; exact .inl (by omega))).off (grown_set _ (w.heap.size + 2) 1 (.slice a3 p c3)) (fun x e => by cases e; have := HLE.out; exact .inl (by omega))
    exact h1.wide (by have := HLE.out; omega) (by rw [hz2]; exact Nat.le_refl _) (Nat.le_refl _)
  · exact grown_own (grown_own (HG.out.trans HG3.out) (grown_set _ (w.heap.size + 2) 0 _) (fun k hk => by cases hk; omega)) (grown_set _ (w.heap.size + 2) 1 _) (fun k hk => by cases hk; omega)
end Go.Proofs.Ytbddpjofhddilaa

/- Ported from stages 7 and 9: the reference. -/
import Derived.Test.YtkoigonbncpbaaaA9
namespace Go.Proofs.Ytkoigonbncpbaaa
open Go.RowKit

/-- The tuples that another row lacks. -/
def lacks (xs ys : List Int) : List Int := xs.filter fun z => !decide (z ∈ ys)
theorem lacks_take {xs ys : List Int} {i : Nat} {z : Int} (h : xs[i]? = some z) : lacks (xs.take (i + 1)) ys = if z ∈ ys then lacks (xs.take i) ys else lacks (xs.take i) ys ++ [z] := by
  rw [lacks, List.take_add_one, h, Option.toList_some, List.filter_append]
  by_cases hz : z ∈ ys <;> simp [hz, lacks]
theorem lacks_len (xs ys : List Int) : (lacks xs ys).length ≤ xs.length := List.length_filter_le _ _
theorem results111 (tmps : Array Value) (w : World) (b : Nat) (a : Option Addr) (n c : Nat) (x : Int) (ht : tmps.getD 4 undef = .pointer (some ⟨b, 0, none⟩)) (h0 : w.cell? ⟨b, 0, none⟩ = some (.int .i64 x)) (h1 : w.cell? ⟨b, 1, none⟩ = some (.slice a n c)) :
    (results Try.f32 tmps).run Try.prog w = .ok (.agg #[.int .i64 x, .slice a n c]) w := by
  have ht' : tmps[4]?.getD undef = .pointer (some ⟨b, 0, none⟩) := by simpa using ht
  simp [results, ht', go_sem, h0, h1, Result.andThen]
set_option maxRecDepth 100000 in
set_option maxHeartbeats 8000000 in
theorem rDiff_calls (k k' : Int) (xs ys : List Int) (xa ya : Option Addr) (xc yc : Nat) (w : World) (h : IntsW w xa xc xs) (h' : IntsW w ya yc ys) (hl : xs.length ≤ 100000) (hl' : ys.length ≤ 100000) (hu : Up ys) :
    Calls Try.prog 32 #[.agg #[.int .i64 k, .slice xa xs.length xc], .agg #[.int .i64 k', .slice ya ys.length yc]] w fun e w' => ∃ a c, e = .returned (.agg #[.int .i64 k, .slice a (lacks xs ys).length c]) ∧ w.grownBy w' none := by
  have HHAS := Lib.hid (fun (W : World) (z : Int) (g : w.grownBy W none) => has_calls k' ys ya yc z W (h'.grown g) (by omega) hu)
  obtain ⟨i0, hi0, hz0, hz1, hz2⟩ := info_parts info3
  obtain ⟨n, hn⟩ : ∃ n, xs.length = n := ⟨_, rfl⟩
  obtain ⟨m, hm⟩ : ∃ m, ys.length = m := ⟨_, rfl⟩
  have hg1 := World.grownBy_alloc w (.cells #[.int .i64 k, .slice xa n xc] 27) none
  have hg2 := World.grownBy_alloc (w.alloc (.cells #[.int .i64 k, .slice xa n xc] 27)) (.cells #[.int .i64 k', .slice ya m yc] 27) none
  have hg3 := World.grownBy_alloc ((w.alloc (.cells #[.int .i64 k, .slice xa n xc] 27)).alloc (.cells #[.int .i64 k', .slice ya m yc] 27)) (.cells #[.int .i64 0, .slice none 0 0] 27) none
  have hg := (hg1.trans hg2).trans hg3
  have hc := six_cells w (.int .i64 k) (.slice xa n xc) (.int .i64 k') (.slice ya m yc) (.int .i64 0) (.slice none 0 0) 27 27 27
  obtain ⟨W, hW⟩ : ∃ W, ((w.alloc (.cells #[.int .i64 k, .slice xa n xc] 27)).alloc (.cells #[.int .i64 k', .slice ya m yc] 27)).alloc (.cells #[.int .i64 0, .slice none 0 0] 27) = W := ⟨_, rfl⟩
  have hsz : W.heap.size = w.heap.size + 3 := by rw [← hW]; simp
  rw [hW] at hg hc
  have HH := Lib.hid (And.intro (h.grown hg) (And.intro hn hm))
  rw [hm] at HHAS hl'
  rw [hn] at hl ⊢
  rw [hm]
  clear h h' hu hn hm hg1 hg2 hg3
  have HG := Lib.hid hg; clear hg
  have HC := Lib.hid hc
  obtain ⟨hlt, c0, c1, d0, d1, e0, e1, ef0, ef1⟩ := hc
  have HB0 := Lib.hid (RowBox.new W k (Bs := W.heap.size + 1) rfl)
  have HG0 := Lib.hid (World.grownBy_alloc W (.cells #[.int .i64 k, .slice none 0 0] 27) none)
  have HSZ := Lib.hid hsz
  clear hsz
  go_enter Try.func32, Try.ntmps32
  go_wp2_with fail
  clear hW hlt c0 c1 d0 d1 e0 e1 ef0 ef1
  obtain ⟨W1, hW1⟩ : ∃ W1, W.alloc (.cells #[.int .i64 k, .slice none 0 0] 27) = W1 := ⟨_, rfl⟩
  rw [hW1] at HB0 HG0 ⊢
  clear hW1
  go_loopg [6] n (fun g s6 wr => ∃ (i : Nat) (v : Value), s6 = .int .i64 (i : Int) ∧ g = n - i ∧ i ≤ n ∧ RowBox (W.heap.size + 1) wr W.heap.size k v (lacks (xs.take i) ys) ∧ W.grownBy wr none)
  case atStart => exact ⟨0, .slice none 0 0, rfl, rfl, Nat.zero_le _, HB0.out, HG0.out⟩
  case round =>
    obtain ⟨i, v, rfl, hgk, hi, hbx, hgr⟩ := hrel
    obtain ⟨va, vc, rfl⟩ := own_shape hbx.own
    have HBX := Lib.hid hbx; clear hbx
    have HWR := Lib.hid hgr; clear hgr
    have HI := Lib.hid hgk; clear hgk
    have hcs := HC.out
    have c1 := HWR.out.cell hcs.2.2.1 (by simp)
    by_cases hin : i < n
    · have hinB : decide (i < n) = true := by simpa using hin
      have hinI : (i : Int) < (n : Int) := by omega
      obtain ⟨z, hz⟩ : ∃ z, xs[i]? = some z := ⟨_, List.getElem?_eq_getElem (by rw [HH.out.2.1]; exact hin)⟩
      obtain ⟨b, o, rfl, hcell⟩ := HH.out.1.at hz
      have HZ := Lib.hid hz; clear hz
      have HHZ := Lib.hid (fun (U : World) (g : W.grownBy U none) => HHAS.out U z (HG.out.trans g))
      have HLT := Lib.hid (lacks_take (ys := ys) HZ.out)
      obtain ⟨Q, hQ⟩ : ∃ Q, decide (z ∈ ys) = Q := ⟨_, rfl⟩
      rw [hQ] at HHZ
      have HQ := Lib.hid hQ; clear hQ
      go_wp2_with fail
      have HS := Lib.hid (fun (Wh : World) (hWh : W.grownBy Wh none) => (⟨hWh, hWh.cell hcs.2.1 (by simp), hWh.cell hcs.2.2.1 (by simp), hWh.cell hcs.2.2.2.1 (by simp), hWh.cell hcs.2.2.2.2.1 (by simp), hWh.cell hcell (by simp)⟩ : (fun Wh : World => W.grownBy Wh none ∧ Wh.cell? ⟨w.heap.size, 0, none⟩ = some (.int .i64 k) ∧ Wh.cell? ⟨w.heap.size, 1, none⟩ = some (.slice (some ⟨b, o, none⟩) n xc) ∧ Wh.cell? ⟨w.heap.size + 1, 0, none⟩ = some (.int .i64 k') ∧ Wh.cell? ⟨w.heap.size + 1, 1, none⟩ = some (.slice ya m yc) ∧ Wh.cell? ⟨b, o + i, none⟩ = some (.int .i64 z)) Wh))
      have hdr : W.grownBy wr.drew none := World.grownBy.trans HWR.out (⟨rfl, rfl, rfl, Nat.le_refl _, fun _ _ _ => rfl⟩ : wr.grownBy wr.drew none)
      refine wp_region_held_drew (S := (fun Wh : World => W.grownBy Wh none ∧ Wh.cell? ⟨w.heap.size, 0, none⟩ = some (.int .i64 k) ∧ Wh.cell? ⟨w.heap.size, 1, none⟩ = some (.slice (some ⟨b, o, none⟩) n xc) ∧ Wh.cell? ⟨w.heap.size + 1, 0, none⟩ = some (.int .i64 k') ∧ Wh.cell? ⟨w.heap.size + 1, 1, none⟩ = some (.slice ya m yc) ∧ Wh.cell? ⟨b, o + i, none⟩ = some (.int .i64 z))) (by kernel_rfl) (HS.out _ hdr) (fun hHeld => ?_)
      refine wpAnyH_take (i := 0) (oi := { dst := some 17, op := Op.load 27 (Operand.tmp 3), type := 27, pos := "ref.go:89", after := #[], guard := none }) (v := ?_) rfl (by kernel_rfl) (by kernel_rfl) (by kernel_rfl) (fun _ _ _ h => h) (Or.inl ⟨by rfl, ?_⟩) (by assumption) ?_
      rotate_left 1
      · (intro W hSW; (try dsimp only at hSW); first | (go_simp; done) | (go_simp; with_reducible rfl))
      try simp only [Act.put, List.setIfInBounds_toArray, List.set_cons_zero, List.set_cons_succ]
      refine wpAnyH_take (i := 1) (oi := { dst := some 18, op := Op.fieldAddr 27 (Operand.tmp 2) 1, type := 0, pos := "ref.go:89", after := #[], guard := none }) (v := ?_) rfl (by kernel_rfl) (by kernel_rfl) (by kernel_rfl) (fun _ _ _ h => h) (Or.inl ⟨by rfl, ?_⟩) (by assumption) ?_
      rotate_left 1
      · (intro W hSW; (try dsimp only at hSW); first | (go_simp; done) | (go_simp; with_reducible rfl))
      try simp only [Act.put, List.setIfInBounds_toArray, List.set_cons_zero, List.set_cons_succ]
      refine wpAnyH_take (i := 2) (oi := { dst := some 19, op := Op.load 25 (Operand.tmp 18), type := 25, pos := "ref.go:89", after := #[{ on := 1, ground := Ground.data }], guard := none }) (v := ?_) rfl (by kernel_rfl) (by kernel_rfl) (by kernel_rfl) (fun _ _ _ h => h) (Or.inl ⟨by rfl, ?_⟩) (by assumption) ?_
      rotate_left 1
      · (intro W hSW; (try dsimp only at hSW); first | (go_simp; done) | (go_simp; with_reducible rfl))
      try simp only [Act.put, List.setIfInBounds_toArray, List.set_cons_zero, List.set_cons_succ]
      refine wpAnyH_take (i := 3) (oi := { dst := some 20, op := Op.move (Operand.tmp 6), type := 3, pos := "ref.go:89", after := #[], guard := none }) (v := ?_) rfl (by kernel_rfl) (by kernel_rfl) (by kernel_rfl) (fun _ _ _ h => h) (Or.inl ⟨by rfl, ?_⟩) (by assumption) ?_
      rotate_left 1
      · (intro W hSW; (try dsimp only at hSW); first | (go_simp; done) | (go_simp; with_reducible rfl))
      try simp only [Act.put, List.setIfInBounds_toArray, List.set_cons_zero, List.set_cons_succ]
      refine wpAnyH_take (i := 4) (oi := { dst := some 21, op := Op.indexAddr 25 (Operand.tmp 19) (Operand.tmp 20), type := 0, pos := "ref.go:89", after := #[{ on := 2, ground := Ground.data }, { on := 3, ground := Ground.data }], guard := none }) (v := ?_) rfl (by kernel_rfl) (by kernel_rfl) (by kernel_rfl) (fun _ _ _ h => h) (Or.inl ⟨by rfl, ?_⟩) (by assumption) ?_
      rotate_left 1
      · (intro W hSW; (try dsimp only at hSW); first | (go_simp; done) | (go_simp; with_reducible rfl))
      try simp only [Act.put, List.setIfInBounds_toArray, List.set_cons_zero, List.set_cons_succ]
      refine wpAnyH_take (i := 5) (oi := { dst := some 22, op := Op.load 3 (Operand.tmp 21), type := 3, pos := "ref.go:89", after := #[{ on := 4, ground := Ground.data }], guard := none }) (v := ?_) rfl (by kernel_rfl) (by kernel_rfl) (by kernel_rfl) (fun _ _ _ h => h) (Or.inl ⟨by rfl, ?_⟩) (by assumption) ?_
      rotate_left 1
      · (intro W hSW; (try dsimp only at hSW); first | (go_simp; done) | (go_simp; with_reducible rfl))
      try simp only [Act.put, List.setIfInBounds_toArray, List.set_cons_zero, List.set_cons_succ]
      refine wpAnyH_ready (rs := [6]) (by kernel_rfl) (by simp) ?_
      refine (AllReadyH.cons (o := { dst := some 23, op := Op.call { callee := Callee.value (Operand.func 47), args := #[Operand.tmp 17, Operand.tmp 22], argTypes := #[27, 3] }, type := 4, pos := "ref.go:89", after := #[{ on := 0, ground := Ground.data }, { on := 5, ground := Ground.data }], guard := none }) rfl (fun K hK => ?_) AllReadyH.nil)
      rw [if_pos (by rfl)]
      go_simp
      go_at_call 47
      refine (HHZ.out _ (hdr)).mono ?_
      rintro e wc1 ⟨rfl, gc1⟩
      have hgr1 := World.grownBy.trans hdr gc1
      go_wp2_with fail
      refine hK.out _ _ (HS.out _ hgr1) (fun hHeld => ?_)
      clear hK K
      try simp only [Act.put, List.setIfInBounds_toArray, List.set_cons_zero, List.set_cons_succ]
      refine wpAnyH_take (i := 7) (oi := { dst := some 24, op := Op.unOp UnOp.not 4 (Operand.tmp 23), type := 4, pos := "ref.go:89", after := #[{ on := 6, ground := Ground.data }], guard := none }) (v := ?_) rfl (by kernel_rfl) (by kernel_rfl) (by kernel_rfl) (fun _ _ _ h => h) (Or.inl ⟨by rfl, ?_⟩) (by assumption) ?_
      rotate_left 1
      · (intro W hSW; (try dsimp only at hSW); first | (go_simp; done) | (go_simp; with_reducible rfl))
      try simp only [Act.put, List.setIfInBounds_toArray, List.set_cons_zero, List.set_cons_succ]
      refine wpAnyH_done (by kernel_rfl) ?_ _
      have hEND := hgr1
      clear hHeld
      have HE := Lib.hid hEND
      clear hEND c1
      cases Q with
      | true =>
        have HLS : Hid (lacks (xs.take (i + 1)) ys = lacks (xs.take i) ys) := Lib.hid (by rw [HLT.out, if_pos (of_decide_eq_true HQ.out)])
        have HBX2 := Lib.hid (HBX.out.grown (World.grownBy.trans (⟨rfl, rfl, rfl, Nat.le_refl _, fun _ _ _ => rfl⟩ : wr.grownBy wr.drew none) gc1))
        go_wp2_with fail
        go_roundg (n - (i + 1))
        case measure => rw [HI.out]; omega
        case rel => exact ⟨i + 1, _, rfl, rfl, by omega, by rw [HLS.out]; exact HBX2.out, HE.out⟩
      | false =>
        have HLS : Hid (lacks (xs.take (i + 1)) ys = lacks (xs.take i) ys ++ [z]) := Lib.hid (by rw [HLT.out, if_neg (of_decide_eq_false HQ.out)])
        have HBX2 := Lib.hid (HBX.out.grown (World.grownBy.trans (⟨rfl, rfl, rfl, Nat.le_refl _, fun _ _ _ => rfl⟩ : wr.grownBy wr.drew none) gc1))
        have HLEN : Hid ((lacks (xs.take i) ys).length ≤ 1000000) := Lib.hid (by have h1 := lacks_len (xs.take i) ys; rw [List.length_take] at h1; omega)
        have HB0' : Hid (W.heap.size ≤ W.heap.size) := Lib.hid (Nat.le_refl _)
        go_wp2_with fail
        have hdr : W.grownBy wc1.drew none := World.grownBy.trans HE.out (⟨rfl, rfl, rfl, Nat.le_refl _, fun _ _ _ => rfl⟩ : wc1.grownBy wc1.drew none)
        refine wp_region_held_drew (S := (fun Wh : World => W.grownBy Wh none ∧ Wh.cell? ⟨w.heap.size, 0, none⟩ = some (.int .i64 k) ∧ Wh.cell? ⟨w.heap.size, 1, none⟩ = some (.slice (some ⟨b, o, none⟩) n xc) ∧ Wh.cell? ⟨w.heap.size + 1, 0, none⟩ = some (.int .i64 k') ∧ Wh.cell? ⟨w.heap.size + 1, 1, none⟩ = some (.slice ya m yc) ∧ Wh.cell? ⟨b, o + i, none⟩ = some (.int .i64 z))) (by kernel_rfl) (HS.out _ hdr) (fun hHeld => ?_)
        refine wpAnyH_take (i := 0) (oi := { dst := some 25, op := Op.fieldAddr 27 (Operand.tmp 5) 1, type := 0, pos := "ref.go:90", after := #[], guard := none }) (v := ?_) rfl (by kernel_rfl) (by kernel_rfl) (by kernel_rfl) (fun _ _ _ h => h) (Or.inl ⟨by rfl, ?_⟩) (by assumption) ?_
        rotate_left 1
        · (intro W hSW; (try dsimp only at hSW); first | (go_simp; done) | (go_simp; with_reducible rfl))
        try simp only [Act.put, List.setIfInBounds_toArray, List.set_cons_zero, List.set_cons_succ]
        refine wpAnyH_take (i := 2) (oi := { dst := some 27, op := Op.fieldAddr 27 (Operand.tmp 2) 1, type := 0, pos := "ref.go:90", after := #[], guard := none }) (v := ?_) rfl (by kernel_rfl) (by kernel_rfl) (by kernel_rfl) (fun _ _ _ h => h) (Or.inl ⟨by rfl, ?_⟩) (by assumption) ?_
        rotate_left 1
        · (intro W hSW; (try dsimp only at hSW); first | (go_simp; done) | (go_simp; with_reducible rfl))
        try simp only [Act.put, List.setIfInBounds_toArray, List.set_cons_zero, List.set_cons_succ]
        refine wpAnyH_take (i := 3) (oi := { dst := some 28, op := Op.load 25 (Operand.tmp 27), type := 25, pos := "ref.go:90", after := #[{ on := 2, ground := Ground.data }], guard := none }) (v := ?_) rfl (by kernel_rfl) (by kernel_rfl) (by kernel_rfl) (fun _ _ _ h => h) (Or.inl ⟨by rfl, ?_⟩) (by assumption) ?_
        rotate_left 1
        · (intro W hSW; (try dsimp only at hSW); first | (go_simp; done) | (go_simp; with_reducible rfl))
        try simp only [Act.put, List.setIfInBounds_toArray, List.set_cons_zero, List.set_cons_succ]
        refine wpAnyH_take (i := 4) (oi := { dst := some 29, op := Op.move (Operand.tmp 6), type := 3, pos := "ref.go:90", after := #[], guard := none }) (v := ?_) rfl (by kernel_rfl) (by kernel_rfl) (by kernel_rfl) (fun _ _ _ h => h) (Or.inl ⟨by rfl, ?_⟩) (by assumption) ?_
        rotate_left 1
        · (intro W hSW; (try dsimp only at hSW); first | (go_simp; done) | (go_simp; with_reducible rfl))
        try simp only [Act.put, List.setIfInBounds_toArray, List.set_cons_zero, List.set_cons_succ]
        refine wpAnyH_take (i := 5) (oi := { dst := some 30, op := Op.indexAddr 25 (Operand.tmp 28) (Operand.tmp 29), type := 0, pos := "ref.go:90", after := #[{ on := 3, ground := Ground.data }, { on := 4, ground := Ground.data }], guard := none }) (v := ?_) rfl (by kernel_rfl) (by kernel_rfl) (by kernel_rfl) (fun _ _ _ h => h) (Or.inl ⟨by rfl, ?_⟩) (by assumption) ?_
        rotate_left 1
        · (intro W hSW; (try dsimp only at hSW); first | (go_simp; done) | (go_simp; with_reducible rfl))
        try simp only [Act.put, List.setIfInBounds_toArray, List.set_cons_zero, List.set_cons_succ]
        refine wpAnyH_take (i := 6) (oi := { dst := some 31, op := Op.load 3 (Operand.tmp 30), type := 3, pos := "ref.go:90", after := #[{ on := 5, ground := Ground.data }], guard := none }) (v := ?_) rfl (by kernel_rfl) (by kernel_rfl) (by kernel_rfl) (fun _ _ _ h => h) (Or.inl ⟨by rfl, ?_⟩) (by assumption) ?_
        rotate_left 1
        · (intro W hSW; (try dsimp only at hSW); first | (go_simp; done) | (go_simp; with_reducible rfl))
        try simp only [Act.put, List.setIfInBounds_toArray, List.set_cons_zero, List.set_cons_succ]
        refine wpAnyH_ready (rs := [1, 7]) (by kernel_rfl) (by simp) ?_
        refine (AllReadyH.cons (o := { dst := some 26, op := Op.load 25 (Operand.tmp 25), type := 25, pos := "ref.go:90", after := #[{ on := 0, ground := Ground.data }], guard := none }) rfl (fun K hK => ?_) (AllReadyH.cons (o := { dst := some 32, op := Op.buildSlice 25 1 #[(0, Operand.tmp 31)], type := 25, pos := "ref.go:90", after := #[{ on := 6, ground := Ground.data }], guard := none }) rfl (fun K hK => ?_) AllReadyH.nil))
        · rw [if_pos (by rfl)]
          have hrow := (HBX2.out).row
          go_simp
          clear hrow
          refine hK.out _ _ (HS.out _ hdr) (fun hHeld => ?_)
          clear hK K
          try simp only [Act.put, List.setIfInBounds_toArray, List.set_cons_zero, List.set_cons_succ]
          refine wpAnyH_ready (rs := [7]) (by kernel_rfl) (by simp) ?_
          refine (AllReadyH.cons (o := { dst := some 32, op := Op.buildSlice 25 1 #[(0, Operand.tmp 31)], type := 25, pos := "ref.go:90", after := #[{ on := 6, ground := Ground.data }], guard := none }) rfl (fun K hK => ?_) AllReadyH.nil)
          rw [if_pos (by rfl)]
          go_simp
          have haA : wc1.grownBy ((World.alloc wc1 (.cells #[.int .i64 z] 3)).drew) none := World.grownBy.trans (World.grownBy_alloc wc1 _ none) (⟨rfl, rfl, rfl, Nat.le_refl _, fun _ _ _ => rfl⟩ : (World.alloc wc1 (.cells #[.int .i64 z] 3)).grownBy ((World.alloc wc1 (.cells #[.int .i64 z] 3)).drew) none)
          have hnA : ∀ j u, [Value.int .i64 z][j]? = some u → ((World.alloc wc1 (.cells #[.int .i64 z] 3)).drew).cell? ((⟨wc1.heap.size, 0, none⟩ : Addr).add j) = some u := cell_one_new wc1 _ _
          obtain ⟨WA, hWA⟩ : ∃ WA, (World.alloc wc1 (.cells #[.int .i64 z] 3)).drew = WA := ⟨_, rfl⟩
          rw [hWA] at haA hnA ⊢
          clear hWA
          have HBA := HBX2.out.grown haA
          have hgA := World.grownBy.trans HE.out haA
          refine hK.out _ _ (HS.out _ hgA) (fun hHeld => ?_)
          clear hK K
          try simp only [Act.put, List.setIfInBounds_toArray, List.set_cons_zero, List.set_cons_succ]
          refine wpAnyH_ready (rs := [8]) (by kernel_rfl) (by simp) ?_
          refine (AllReadyH.cons (o := { dst := some 33, op := Op.call { callee := Callee.builtin Builtin.append, args := #[Operand.tmp 26, Operand.tmp 32], argTypes := #[25, 25] }, type := 25, pos := "ref.go:90", after := #[{ on := 1, ground := Ground.data }, { on := 7, ground := Ground.data }], guard := none }) rfl (fun K hK => ?_) AllReadyH.nil)
          refine ready_append_g 25 3 (.tmp 26) (.tmp 32) rfl rfl Try.underlying25 hi0 hz0 hz1 hz2 rfl (by decide) (by omega) (W.heap.size + 1) _ _ (intCells _) rfl HBA.own ⟨wc1.heap.size, 0, none⟩ [.int .i64 z] rfl rfl hnA (fun u hu => by simp at hu; subst hu; rfl) HLEN.out (HBA.low.2) (fun v' w6 hown' hgrow6 hat6 => ?_)
          have hg6 := grown_own hgA hgrow6 (fun j hj => by have h1 := (HBA.own.lt j hj).1; have h2 := HBA.low.1; have h3 := HB0'.out; omega)
          obtain ⟨hs1, hs2⟩ := HBX2.out.at_ haA hgrow6
          obtain ⟨rgA, rcA, rfl⟩ := own_shape hown'
          refine hK.out _ _ (HS.out _ hg6) (fun hHeld => ?_)
          clear hK K
          try simp only [Act.put, List.setIfInBounds_toArray, List.set_cons_zero, List.set_cons_succ]
          refine wpAnyH_take (i := 9) (oi := { dst := some 34, op := Op.fieldAddr 27 (Operand.tmp 5) 1, type := 0, pos := "ref.go:90", after := #[{ on := 0, ground := Ground.phase }, { on := 1, ground := Ground.phase }, { on := 2, ground := Ground.phase }, { on := 3, ground := Ground.phase }, { on := 4, ground := Ground.phase }, { on := 5, ground := Ground.phase }, { on := 6, ground := Ground.phase }, { on := 7, ground := Ground.phase }, { on := 8, ground := Ground.phase }], guard := none }) (v := ?_) rfl (by kernel_rfl) (by kernel_rfl) (by kernel_rfl) (fun _ _ _ h => h) (Or.inl ⟨by rfl, ?_⟩) (by assumption) ?_
          rotate_left 1
          · (intro W hSW; (try dsimp only at hSW); first | (go_simp; done) | (go_simp; with_reducible rfl))
          try simp only [Act.put, List.setIfInBounds_toArray, List.set_cons_zero, List.set_cons_succ]
          refine wpAnyH_ready (rs := [10]) (by kernel_rfl) (by simp) ?_
          refine (AllReadyH.cons (o := { dst := none, op := Op.store 25 (Operand.tmp 34) (Operand.tmp 33), type := 0, pos := "ref.go:90", after := #[{ on := 9, ground := Ground.data }, { on := 8, ground := Ground.data }, { on := 8, ground := Ground.chain }, { on := 0, ground := Ground.phase }, { on := 1, ground := Ground.phase }, { on := 2, ground := Ground.phase }, { on := 3, ground := Ground.phase }, { on := 4, ground := Ground.phase }, { on := 5, ground := Ground.phase }, { on := 6, ground := Ground.phase }, { on := 7, ground := Ground.phase }, { on := 8, ground := Ground.phase }], guard := none }) rfl (fun K hK => ?_) AllReadyH.nil)
          rw [if_pos (by rfl)]
          go_simp
          have hst := HBX2.out.step haA hgrow6 hown'
          have hgs := HBX2.out.grows2 hst HE.out HB0'.out haA hgrow6
          refine hK.out _ _ (HS.out _ hgs) (fun hHeld => ?_)
          clear hK K
          try simp only [Act.put, List.setIfInBounds_toArray, List.set_cons_zero, List.set_cons_succ]
          refine wpAnyH_done (by kernel_rfl) ?_ _
          have hEND := hgs
          clear hHeld
          have HE2 := Lib.hid (And.intro hst hgs)
          clear hst hgs hs1 hs2 hgrow6 hown' hat6 haA hnA HBA hgA hg6 hEND
          go_wp2_with fail
          go_roundg (n - (i + 1))
          case measure => rw [HI.out]; omega
          case rel => exact ⟨i + 1, _, rfl, rfl, by omega, by rw [HLS.out]; exact HE2.out.1, HE2.out.2⟩
        · rw [if_pos (by rfl)]
          go_simp
          have haA : wc1.grownBy ((World.alloc wc1 (.cells #[.int .i64 z] 3)).drew) none := World.grownBy.trans (World.grownBy_alloc wc1 _ none) (⟨rfl, rfl, rfl, Nat.le_refl _, fun _ _ _ => rfl⟩ : (World.alloc wc1 (.cells #[.int .i64 z] 3)).grownBy ((World.alloc wc1 (.cells #[.int .i64 z] 3)).drew) none)
          have hnA : ∀ j u, [Value.int .i64 z][j]? = some u → ((World.alloc wc1 (.cells #[.int .i64 z] 3)).drew).cell? ((⟨wc1.heap.size, 0, none⟩ : Addr).add j) = some u := cell_one_new wc1 _ _
          obtain ⟨WA, hWA⟩ : ∃ WA, (World.alloc wc1 (.cells #[.int .i64 z] 3)).drew = WA := ⟨_, rfl⟩
          rw [hWA] at haA hnA ⊢
          clear hWA
          have HBA := HBX2.out.grown haA
          have hgA := World.grownBy.trans HE.out haA
          refine hK.out _ _ (HS.out _ hgA) (fun hHeld => ?_)
          clear hK K
          try simp only [Act.put, List.setIfInBounds_toArray, List.set_cons_zero, List.set_cons_succ]
          refine wpAnyH_ready (rs := [1]) (by kernel_rfl) (by simp) ?_
          refine (AllReadyH.cons (o := { dst := some 26, op := Op.load 25 (Operand.tmp 25), type := 25, pos := "ref.go:90", after := #[{ on := 0, ground := Ground.data }], guard := none }) rfl (fun K hK => ?_) AllReadyH.nil)
          rw [if_pos (by rfl)]
          have hrow := (HBA).row
          go_simp
          clear hrow
          refine hK.out _ _ (HS.out _ hgA) (fun hHeld => ?_)
          clear hK K
          try simp only [Act.put, List.setIfInBounds_toArray, List.set_cons_zero, List.set_cons_succ]
          refine wpAnyH_ready (rs := [8]) (by kernel_rfl) (by simp) ?_
          refine (AllReadyH.cons (o := { dst := some 33, op := Op.call { callee := Callee.builtin Builtin.append, args := #[Operand.tmp 26, Operand.tmp 32], argTypes := #[25, 25] }, type := 25, pos := "ref.go:90", after := #[{ on := 1, ground := Ground.data }, { on := 7, ground := Ground.data }], guard := none }) rfl (fun K hK => ?_) AllReadyH.nil)
          refine ready_append_g 25 3 (.tmp 26) (.tmp 32) rfl rfl Try.underlying25 hi0 hz0 hz1 hz2 rfl (by decide) (by omega) (W.heap.size + 1) _ _ (intCells _) rfl HBA.own ⟨wc1.heap.size, 0, none⟩ [.int .i64 z] rfl rfl hnA (fun u hu => by simp at hu; subst hu; rfl) HLEN.out (HBA.low.2) (fun v' w6 hown' hgrow6 hat6 => ?_)
          have hg6 := grown_own hgA hgrow6 (fun j hj => by have h1 := (HBA.own.lt j hj).1; have h2 := HBA.low.1; have h3 := HB0'.out; omega)
          obtain ⟨hs1, hs2⟩ := HBX2.out.at_ haA hgrow6
          obtain ⟨rgA, rcA, rfl⟩ := own_shape hown'
          refine hK.out _ _ (HS.out _ hg6) (fun hHeld => ?_)
          clear hK K
          try simp only [Act.put, List.setIfInBounds_toArray, List.set_cons_zero, List.set_cons_succ]
          refine wpAnyH_take (i := 9) (oi := { dst := some 34, op := Op.fieldAddr 27 (Operand.tmp 5) 1, type := 0, pos := "ref.go:90", after := #[{ on := 0, ground := Ground.phase }, { on := 1, ground := Ground.phase }, { on := 2, ground := Ground.phase }, { on := 3, ground := Ground.phase }, { on := 4, ground := Ground.phase }, { on := 5, ground := Ground.phase }, { on := 6, ground := Ground.phase }, { on := 7, ground := Ground.phase }, { on := 8, ground := Ground.phase }], guard := none }) (v := ?_) rfl (by kernel_rfl) (by kernel_rfl) (by kernel_rfl) (fun _ _ _ h => h) (Or.inl ⟨by rfl, ?_⟩) (by assumption) ?_
          rotate_left 1
          · (intro W hSW; (try dsimp only at hSW); first | (go_simp; done) | (go_simp; with_reducible rfl))
          try simp only [Act.put, List.setIfInBounds_toArray, List.set_cons_zero, List.set_cons_succ]
          refine wpAnyH_ready (rs := [10]) (by kernel_rfl) (by simp) ?_
          refine (AllReadyH.cons (o := { dst := none, op := Op.store 25 (Operand.tmp 34) (Operand.tmp 33), type := 0, pos := "ref.go:90", after := #[{ on := 9, ground := Ground.data }, { on := 8, ground := Ground.data }, { on := 8, ground := Ground.chain }, { on := 0, ground := Ground.phase }, { on := 1, ground := Ground.phase }, { on := 2, ground := Ground.phase }, { on := 3, ground := Ground.phase }, { on := 4, ground := Ground.phase }, { on := 5, ground := Ground.phase }, { on := 6, ground := Ground.phase }, { on := 7, ground := Ground.phase }, { on := 8, ground := Ground.phase }], guard := none }) rfl (fun K hK => ?_) AllReadyH.nil)
          rw [if_pos (by rfl)]
          go_simp
          have hst := HBX2.out.step haA hgrow6 hown'
          have hgs := HBX2.out.grows2 hst HE.out HB0'.out haA hgrow6
          refine hK.out _ _ (HS.out _ hgs) (fun hHeld => ?_)
          clear hK K
          try simp only [Act.put, List.setIfInBounds_toArray, List.set_cons_zero, List.set_cons_succ]
          refine wpAnyH_done (by kernel_rfl) ?_ _
          have hEND := hgs
          clear hHeld
          have HE2 := Lib.hid (And.intro hst hgs)
          clear hst hgs hs1 hs2 hgrow6 hown' hat6 haA hnA HBA hgA hg6 hEND
          go_wp2_with fail
          go_roundg (n - (i + 1))
          case measure => rw [HI.out]; omega
          case rel => exact ⟨i + 1, _, rfl, rfl, by omega, by rw [HLS.out]; exact HE2.out.1, HE2.out.2⟩
    · have hie : i = n := by omega
      subst hie
      have hinB : decide (i < i) = false := by simp
      have HL : Hid (lacks (xs.take i) ys = lacks xs ys) := Lib.hid (by rw [List.take_of_length_le (by rw [HH.out.2.1]; exact Nat.le_refl _)])
      obtain ⟨p, hp⟩ : ∃ p, (lacks (xs.take i) ys).length = p := ⟨_, rfl⟩
      have HP := Lib.hid hp
      have r0 := HBX.out.c0
      have r1 := HBX.out.row
      have m0 := HWR.out.cell hcs.2.2.2.2.2.1 (by simp)
      have m1 := HWR.out.cell hcs.2.2.2.2.2.2.1 (by simp)
      have f0 := (grown_frozen HWR.out (show w.heap.size + 2 < W.heap.size by have := HSZ.out; omega) 0).trans hcs.2.2.2.2.2.2.2.1
      have f1 := (grown_frozen HWR.out (show w.heap.size + 2 < W.heap.size by have := HSZ.out; omega) 1).trans hcs.2.2.2.2.2.2.2.2
      rw [hp] at r1
      clear hp hcs
      go_wp2_with fail
      refine bodyPost_ret (results111 _ _ (w.heap.size + 2) va p vc k rfl (by rw [World.cell?_setCell_other _ _ _ _ (by intro e; injection e with _ e; cases e)]; exact World.cell?_setCell_same _ _ _ m0) (World.cell?_setCell_same _ _ _ (by rw [World.cell?_setCell_other _ _ _ _ (by intro e; injection e with _ e; cases e)]; exact m1))) rfl ⟨va, vc, by rw [← HL.out, HP.out], ?_⟩
      exact grown_own (grown_own (HG.out.trans HWR.out) (grown_set _ (w.heap.size + 2) 0 _) (fun k hk => by cases hk; omega)) (grown_set _ (w.heap.size + 2) 1 _) (fun k hk => by cases hk; omega)
set_option maxRecDepth 100000 in
set_option maxHeartbeats 2000000 in
theorem rIn_calls (k k' : Int) (xs ys : List Int) (xa ya : Option Addr) (xc yc : Nat) (w : World) (h : IntsW w xa xc xs) (h' : IntsW w ya yc ys) (hl : xs.length ≤ 100000) (hl' : ys.length ≤ 100000) (hu : Up ys) :
    Calls Try.prog 36 #[.agg #[.int .i64 k, .slice xa xs.length xc], .agg #[.int .i64 k', .slice ya ys.length yc]] w fun e w' => e = .returned (.bool (decide (lacks xs ys = []))) ∧ w.grownBy w' none := by
  have hg1 := World.grownBy_alloc w (.cells #[.int .i64 k, .slice xa xs.length xc] 27) none
  have hg2 := World.grownBy_alloc (w.alloc (.cells #[.int .i64 k, .slice xa xs.length xc] 27)) (.cells #[.int .i64 k', .slice ya ys.length yc] 27) none
  have hg := hg1.trans hg2
  have HD := Lib.hid (And.intro (rDiff_calls k k' xs ys xa ya xc yc _ (h.grown hg) (h'.grown hg) hl hl' hu) hg)
  obtain ⟨n, hn⟩ : ∃ n, xs.length = n := ⟨_, rfl⟩
  obtain ⟨m, hm⟩ : ∃ m, ys.length = m := ⟨_, rfl⟩
  rw [hn, hm] at HD ⊢
  obtain ⟨p, hp⟩ : ∃ p, (lacks xs ys).length = p := ⟨_, rfl⟩
  rw [hp] at HD
  have HP : Hid (decide (lacks xs ys = []) = decide (p = 0)) := Lib.hid (by rw [← hp]; congr 1; simp [List.length_eq_zero_iff])
  clear hg hg1 hg2 hn hm h h' hl hl' hp hu
  go_enter Try.func36, Try.ntmps36
  go_wp2_with fail
  refine HD.out.1.mono ?_
  rintro e w1 ⟨a', c', rfl, g1⟩
  have HG := Lib.hid (HD.out.2.trans g1); clear g1
  have hf := field53 k a' p c'
  by_cases hp0 : p = 0
  · have f0 : ((p : Int) == 0) = true := by simp; omega
    have HPP : Hid (decide (lacks xs ys = []) = true) := Lib.hid (by rw [HP.out]; simpa using hp0)
    clear hp0
    go_wp2_with fail
    go_ret
    exact ⟨by rw [HPP.out]; rfl, HG.out⟩
  · have f0 : ((p : Int) == 0) = false := by simp; omega
    have HPP : Hid (decide (lacks xs ys = []) = false) := Lib.hid (by rw [HP.out]; simpa using hp0)
    clear hp0
    go_wp2_with fail
    go_ret
    exact ⟨by rw [HPP.out]; rfl, HG.out⟩

theorem up_next {zs : List Int} {i : Nat} {z : Int} (h : Up (zs.take i)) (hz : zs[i]? = some z) (hp : ∀ y, 0 < i → zs[i - 1]? = some y → y < z) : Up (zs.take (i + 1)) := by
  rw [List.take_add_one, hz, Option.toList_some]
  refine up_snoc h fun y hy => ?_
  obtain ⟨j, hj, hy⟩ := take_mem hy
  have hi : i < zs.length := (List.getElem?_eq_some_iff.1 hz).1
  obtain ⟨u, hu⟩ : ∃ u, zs[i - 1]? = some u := ⟨_, List.getElem?_eq_getElem (by omega)⟩
  have hl := hp u (by omega) hu
  by_cases hji : j = i - 1
  · subst hji
    rw [hy] at hu
    cases hu
    exact hl
  · have e1 : (zs.take i)[j]? = some y := by rw [List.getElem?_take, if_pos hj]; exact hy
    have e2 : (zs.take i)[i - 1]? = some u := by rw [List.getElem?_take, if_pos (by omega)]; exact hu
    have := up_get h (show j < i - 1 by omega) e1 e2
    omega
/-- The tuples that another row has too. -/
def shares (xs ys : List Int) : List Int := xs.filter fun z => decide (z ∈ ys)
theorem shares_take {xs ys : List Int} {i : Nat} {z : Int} (h : xs[i]? = some z) : shares (xs.take (i + 1)) ys = if z ∈ ys then shares (xs.take i) ys ++ [z] else shares (xs.take i) ys := by
  rw [shares, List.take_add_one, h, Option.toList_some, List.filter_append]
  by_cases hz : z ∈ ys <;> simp [hz, shares]
theorem shares_len (xs ys : List Int) : (shares xs ys).length ≤ xs.length := List.length_filter_le _ _
theorem ofTo_union {xs ys : List Int} (hx : Up xs) (hy : Up ys) : ofTo (xs ++ ys) (xs ++ ys).length = unionL xs ys :=
  up_ext ofTo_up (merge_up _ _ _ hx hy) fun z => by
    rw [mem_ofTo, mem_union hx hy, ← List.mem_append]
    exact ⟨fun ⟨j, _, h⟩ => List.mem_of_getElem? h, fun h => by
      obtain ⟨j, hj⟩ := List.getElem?_of_mem h
      exact ⟨j, (List.getElem?_eq_some_iff.1 hj).1, hj⟩⟩

theorem results105 (tmps : Array Value) (w : World) (b : Nat) (a : Option Addr) (n c : Nat) (x : Int) (ht : tmps.getD 4 undef = .pointer (some ⟨b, 0, none⟩)) (h0 : w.cell? ⟨b, 0, none⟩ = some (.int .i64 x)) (h1 : w.cell? ⟨b, 1, none⟩ = some (.slice a n c)) :
    (results Try.f30 tmps).run Try.prog w = .ok (.agg #[.int .i64 x, .slice a n c]) w := by
  have ht' : tmps[4]?.getD undef = .pointer (some ⟨b, 0, none⟩) := by simpa using ht
  simp [results, ht', go_sem, h0, h1, Result.andThen]
set_option maxRecDepth 100000 in
set_option maxHeartbeats 8000000 in
theorem rInter_calls (k k' : Int) (xs ys : List Int) (xa ya : Option Addr) (xc yc : Nat) (w : World) (h : IntsW w xa xc xs) (h' : IntsW w ya yc ys) (hl : xs.length ≤ 100000) (hl' : ys.length ≤ 100000) (hu : Up ys) :
    Calls Try.prog 30 #[.agg #[.int .i64 k, .slice xa xs.length xc], .agg #[.int .i64 k', .slice ya ys.length yc]] w fun e w' => ∃ a c, e = .returned (.agg #[.int .i64 k, .slice a (shares xs ys).length c]) ∧ Span w.heap.size w'.heap.size w' (fun W => IntsW W a c (shares xs ys)) ∧ w.grownBy w' none := by
  have HHAS := Lib.hid (fun (W : World) (z : Int) (g : w.grownBy W none) => has_calls k' ys ya yc z W (h'.grown g) (by omega) hu)
  obtain ⟨i0, hi0, hz0, hz1, hz2⟩ := info_parts info3
  obtain ⟨n, hn⟩ : ∃ n, xs.length = n := ⟨_, rfl⟩
  obtain ⟨m, hm⟩ : ∃ m, ys.length = m := ⟨_, rfl⟩
  have hg1 := World.grownBy_alloc w (.cells #[.int .i64 k, .slice xa n xc] 27) none
  have hg2 := World.grownBy_alloc (w.alloc (.cells #[.int .i64 k, .slice xa n xc] 27)) (.cells #[.int .i64 k', .slice ya m yc] 27) none
  have hg3 := World.grownBy_alloc ((w.alloc (.cells #[.int .i64 k, .slice xa n xc] 27)).alloc (.cells #[.int .i64 k', .slice ya m yc] 27)) (.cells #[.int .i64 0, .slice none 0 0] 27) none
  have hg := (hg1.trans hg2).trans hg3
  have hc := six_cells w (.int .i64 k) (.slice xa n xc) (.int .i64 k') (.slice ya m yc) (.int .i64 0) (.slice none 0 0) 27 27 27
  obtain ⟨W, hW⟩ : ∃ W, ((w.alloc (.cells #[.int .i64 k, .slice xa n xc] 27)).alloc (.cells #[.int .i64 k', .slice ya m yc] 27)).alloc (.cells #[.int .i64 0, .slice none 0 0] 27) = W := ⟨_, rfl⟩
  have hsz : W.heap.size = w.heap.size + 3 := by rw [← hW]; simp
  rw [hW] at hg hc
  have HH := Lib.hid (And.intro (h.grown hg) (And.intro hn hm))
  rw [hm] at HHAS hl'
  rw [hn] at hl ⊢
  rw [hm]
  clear h h' hu hn hm hg1 hg2 hg3
  have HG := Lib.hid hg; clear hg
  have HC := Lib.hid hc
  obtain ⟨hlt, c0, c1, d0, d1, e0, e1, ef0, ef1⟩ := hc
  have HB0 := Lib.hid (RowBox.new W k (Bs := W.heap.size + 1) rfl)
  have HG0 := Lib.hid (World.grownBy_alloc W (.cells #[.int .i64 k, .slice none 0 0] 27) none)
  have HSZ := Lib.hid hsz
  clear hsz
  go_enter Try.func30, Try.ntmps30
  go_wp2_with fail
  clear hW hlt c0 c1 d0 d1 e0 e1 ef0 ef1
  obtain ⟨W1, hW1⟩ : ∃ W1, W.alloc (.cells #[.int .i64 k, .slice none 0 0] 27) = W1 := ⟨_, rfl⟩
  rw [hW1] at HB0 HG0 ⊢
  clear hW1
  go_loopg [6] n (fun g s6 wr => ∃ (i : Nat) (v : Value), s6 = .int .i64 (i : Int) ∧ g = n - i ∧ i ≤ n ∧ RowBox (W.heap.size + 1) wr W.heap.size k v (shares (xs.take i) ys) ∧ W.grownBy wr none)
  case atStart => exact ⟨0, .slice none 0 0, rfl, rfl, Nat.zero_le _, HB0.out, HG0.out⟩
  case round =>
    obtain ⟨i, v, rfl, hgk, hi, hbx, hgr⟩ := hrel
    obtain ⟨va, vc, rfl⟩ := own_shape hbx.own
    have HBX := Lib.hid hbx; clear hbx
    have HWR := Lib.hid hgr; clear hgr
    have HI := Lib.hid hgk; clear hgk
    have hcs := HC.out
    have c1 := HWR.out.cell hcs.2.2.1 (by simp)
    by_cases hin : i < n
    · have hinB : decide (i < n) = true := by simpa using hin
      have hinI : (i : Int) < (n : Int) := by omega
      obtain ⟨z, hz⟩ : ∃ z, xs[i]? = some z := ⟨_, List.getElem?_eq_getElem (by rw [HH.out.2.1]; exact hin)⟩
      obtain ⟨b, o, rfl, hcell⟩ := HH.out.1.at hz
      have HZ := Lib.hid hz; clear hz
      have HHZ := Lib.hid (fun (U : World) (g : W.grownBy U none) => HHAS.out U z (HG.out.trans g))
      have HLT := Lib.hid (shares_take (ys := ys) HZ.out)
      obtain ⟨Q, hQ⟩ : ∃ Q, decide (z ∈ ys) = Q := ⟨_, rfl⟩
      rw [hQ] at HHZ
      have HQ := Lib.hid hQ; clear hQ
      go_wp2_with fail
      have HS := Lib.hid (fun (Wh : World) (hWh : W.grownBy Wh none) => (⟨hWh, hWh.cell hcs.2.1 (by simp), hWh.cell hcs.2.2.1 (by simp), hWh.cell hcs.2.2.2.1 (by simp), hWh.cell hcs.2.2.2.2.1 (by simp), hWh.cell hcell (by simp)⟩ : (fun Wh : World => W.grownBy Wh none ∧ Wh.cell? ⟨w.heap.size, 0, none⟩ = some (.int .i64 k) ∧ Wh.cell? ⟨w.heap.size, 1, none⟩ = some (.slice (some ⟨b, o, none⟩) n xc) ∧ Wh.cell? ⟨w.heap.size + 1, 0, none⟩ = some (.int .i64 k') ∧ Wh.cell? ⟨w.heap.size + 1, 1, none⟩ = some (.slice ya m yc) ∧ Wh.cell? ⟨b, o + i, none⟩ = some (.int .i64 z)) Wh))
      have hdr : W.grownBy wr.drew none := World.grownBy.trans HWR.out (⟨rfl, rfl, rfl, Nat.le_refl _, fun _ _ _ => rfl⟩ : wr.grownBy wr.drew none)
      refine wp_region_held_drew (S := (fun Wh : World => W.grownBy Wh none ∧ Wh.cell? ⟨w.heap.size, 0, none⟩ = some (.int .i64 k) ∧ Wh.cell? ⟨w.heap.size, 1, none⟩ = some (.slice (some ⟨b, o, none⟩) n xc) ∧ Wh.cell? ⟨w.heap.size + 1, 0, none⟩ = some (.int .i64 k') ∧ Wh.cell? ⟨w.heap.size + 1, 1, none⟩ = some (.slice ya m yc) ∧ Wh.cell? ⟨b, o + i, none⟩ = some (.int .i64 z))) (by kernel_rfl) (HS.out _ hdr) (fun hHeld => ?_)
      refine wpAnyH_take (i := 0) (oi := { dst := some 17, op := Op.load 27 (Operand.tmp 3), type := 27, pos := "ref.go:78", after := #[], guard := none }) (v := ?_) rfl (by kernel_rfl) (by kernel_rfl) (by kernel_rfl) (fun _ _ _ h => h) (Or.inl ⟨by rfl, ?_⟩) (by assumption) ?_
      rotate_left 1
      · (intro W hSW; (try dsimp only at hSW); first | (go_simp; done) | (go_simp; with_reducible rfl))
      try simp only [Act.put, List.setIfInBounds_toArray, List.set_cons_zero, List.set_cons_succ]
      refine wpAnyH_take (i := 1) (oi := { dst := some 18, op := Op.fieldAddr 27 (Operand.tmp 2) 1, type := 0, pos := "ref.go:78", after := #[], guard := none }) (v := ?_) rfl (by kernel_rfl) (by kernel_rfl) (by kernel_rfl) (fun _ _ _ h => h) (Or.inl ⟨by rfl, ?_⟩) (by assumption) ?_
      rotate_left 1
      · (intro W hSW; (try dsimp only at hSW); first | (go_simp; done) | (go_simp; with_reducible rfl))
      try simp only [Act.put, List.setIfInBounds_toArray, List.set_cons_zero, List.set_cons_succ]
      refine wpAnyH_take (i := 2) (oi := { dst := some 19, op := Op.load 25 (Operand.tmp 18), type := 25, pos := "ref.go:78", after := #[{ on := 1, ground := Ground.data }], guard := none }) (v := ?_) rfl (by kernel_rfl) (by kernel_rfl) (by kernel_rfl) (fun _ _ _ h => h) (Or.inl ⟨by rfl, ?_⟩) (by assumption) ?_
      rotate_left 1
      · (intro W hSW; (try dsimp only at hSW); first | (go_simp; done) | (go_simp; with_reducible rfl))
      try simp only [Act.put, List.setIfInBounds_toArray, List.set_cons_zero, List.set_cons_succ]
      refine wpAnyH_take (i := 3) (oi := { dst := some 20, op := Op.move (Operand.tmp 6), type := 3, pos := "ref.go:78", after := #[], guard := none }) (v := ?_) rfl (by kernel_rfl) (by kernel_rfl) (by kernel_rfl) (fun _ _ _ h => h) (Or.inl ⟨by rfl, ?_⟩) (by assumption) ?_
      rotate_left 1
      · (intro W hSW; (try dsimp only at hSW); first | (go_simp; done) | (go_simp; with_reducible rfl))
      try simp only [Act.put, List.setIfInBounds_toArray, List.set_cons_zero, List.set_cons_succ]
      refine wpAnyH_take (i := 4) (oi := { dst := some 21, op := Op.indexAddr 25 (Operand.tmp 19) (Operand.tmp 20), type := 0, pos := "ref.go:78", after := #[{ on := 2, ground := Ground.data }, { on := 3, ground := Ground.data }], guard := none }) (v := ?_) rfl (by kernel_rfl) (by kernel_rfl) (by kernel_rfl) (fun _ _ _ h => h) (Or.inl ⟨by rfl, ?_⟩) (by assumption) ?_
      rotate_left 1
      · (intro W hSW; (try dsimp only at hSW); first | (go_simp; done) | (go_simp; with_reducible rfl))
      try simp only [Act.put, List.setIfInBounds_toArray, List.set_cons_zero, List.set_cons_succ]
      refine wpAnyH_take (i := 5) (oi := { dst := some 22, op := Op.load 3 (Operand.tmp 21), type := 3, pos := "ref.go:78", after := #[{ on := 4, ground := Ground.data }], guard := none }) (v := ?_) rfl (by kernel_rfl) (by kernel_rfl) (by kernel_rfl) (fun _ _ _ h => h) (Or.inl ⟨by rfl, ?_⟩) (by assumption) ?_
      rotate_left 1
      · (intro W hSW; (try dsimp only at hSW); first | (go_simp; done) | (go_simp; with_reducible rfl))
      try simp only [Act.put, List.setIfInBounds_toArray, List.set_cons_zero, List.set_cons_succ]
      refine wpAnyH_ready (rs := [6]) (by kernel_rfl) (by simp) ?_
      refine (AllReadyH.cons (o := { dst := some 23, op := Op.call { callee := Callee.value (Operand.func 47), args := #[Operand.tmp 17, Operand.tmp 22], argTypes := #[27, 3] }, type := 4, pos := "ref.go:78", after := #[{ on := 0, ground := Ground.data }, { on := 5, ground := Ground.data }], guard := none }) rfl (fun K hK => ?_) AllReadyH.nil)
      rw [if_pos (by rfl)]
      go_simp
      go_at_call 47
      refine (HHZ.out _ (hdr)).mono ?_
      rintro e wc1 ⟨rfl, gc1⟩
      have hgr1 := World.grownBy.trans hdr gc1
      go_wp2_with fail
      refine hK.out _ _ (HS.out _ hgr1) (fun hHeld => ?_)
      clear hK K
      try simp only [Act.put, List.setIfInBounds_toArray, List.set_cons_zero, List.set_cons_succ]
      refine wpAnyH_done (by kernel_rfl) ?_ _
      have hEND := hgr1
      clear hHeld
      have HE := Lib.hid hEND
      clear hEND c1
      cases Q with
      | false =>
        have HLS : Hid (shares (xs.take (i + 1)) ys = shares (xs.take i) ys) := Lib.hid (by rw [HLT.out, if_neg (of_decide_eq_false HQ.out)])
        have HBX2 := Lib.hid (HBX.out.grown (World.grownBy.trans (⟨rfl, rfl, rfl, Nat.le_refl _, fun _ _ _ => rfl⟩ : wr.grownBy wr.drew none) gc1))
        go_wp2_with fail
        go_roundg (n - (i + 1))
        case measure => rw [HI.out]; omega
        case rel => exact ⟨i + 1, _, rfl, rfl, by omega, by rw [HLS.out]; exact HBX2.out, HE.out⟩
      | true =>
        have HLS : Hid (shares (xs.take (i + 1)) ys = shares (xs.take i) ys ++ [z]) := Lib.hid (by rw [HLT.out, if_pos (of_decide_eq_true HQ.out)])
        have HBX2 := Lib.hid (HBX.out.grown (World.grownBy.trans (⟨rfl, rfl, rfl, Nat.le_refl _, fun _ _ _ => rfl⟩ : wr.grownBy wr.drew none) gc1))
        have HLEN : Hid ((shares (xs.take i) ys).length ≤ 1000000) := Lib.hid (by have h1 := shares_len (xs.take i) ys; rw [List.length_take] at h1; omega)
        have HB0' : Hid (W.heap.size ≤ W.heap.size) := Lib.hid (Nat.le_refl _)
        go_wp2_with fail
        have hdr : W.grownBy wc1.drew none := World.grownBy.trans HE.out (⟨rfl, rfl, rfl, Nat.le_refl _, fun _ _ _ => rfl⟩ : wc1.grownBy wc1.drew none)
        refine wp_region_held_drew (S := (fun Wh : World => W.grownBy Wh none ∧ Wh.cell? ⟨w.heap.size, 0, none⟩ = some (.int .i64 k) ∧ Wh.cell? ⟨w.heap.size, 1, none⟩ = some (.slice (some ⟨b, o, none⟩) n xc) ∧ Wh.cell? ⟨w.heap.size + 1, 0, none⟩ = some (.int .i64 k') ∧ Wh.cell? ⟨w.heap.size + 1, 1, none⟩ = some (.slice ya m yc) ∧ Wh.cell? ⟨b, o + i, none⟩ = some (.int .i64 z))) (by kernel_rfl) (HS.out _ hdr) (fun hHeld => ?_)
        refine wpAnyH_take (i := 0) (oi := { dst := some 24, op := Op.fieldAddr 27 (Operand.tmp 5) 1, type := 0, pos := "ref.go:79", after := #[], guard := none }) (v := ?_) rfl (by kernel_rfl) (by kernel_rfl) (by kernel_rfl) (fun _ _ _ h => h) (Or.inl ⟨by rfl, ?_⟩) (by assumption) ?_
        rotate_left 1
        · (intro W hSW; (try dsimp only at hSW); first | (go_simp; done) | (go_simp; with_reducible rfl))
        try simp only [Act.put, List.setIfInBounds_toArray, List.set_cons_zero, List.set_cons_succ]
        refine wpAnyH_take (i := 2) (oi := { dst := some 26, op := Op.fieldAddr 27 (Operand.tmp 2) 1, type := 0, pos := "ref.go:79", after := #[], guard := none }) (v := ?_) rfl (by kernel_rfl) (by kernel_rfl) (by kernel_rfl) (fun _ _ _ h => h) (Or.inl ⟨by rfl, ?_⟩) (by assumption) ?_
        rotate_left 1
        · (intro W hSW; (try dsimp only at hSW); first | (go_simp; done) | (go_simp; with_reducible rfl))
        try simp only [Act.put, List.setIfInBounds_toArray, List.set_cons_zero, List.set_cons_succ]
        refine wpAnyH_take (i := 3) (oi := { dst := some 27, op := Op.load 25 (Operand.tmp 26), type := 25, pos := "ref.go:79", after := #[{ on := 2, ground := Ground.data }], guard := none }) (v := ?_) rfl (by kernel_rfl) (by kernel_rfl) (by kernel_rfl) (fun _ _ _ h => h) (Or.inl ⟨by rfl, ?_⟩) (by assumption) ?_
        rotate_left 1
        · (intro W hSW; (try dsimp only at hSW); first | (go_simp; done) | (go_simp; with_reducible rfl))
        try simp only [Act.put, List.setIfInBounds_toArray, List.set_cons_zero, List.set_cons_succ]
        refine wpAnyH_take (i := 4) (oi := { dst := some 28, op := Op.move (Operand.tmp 6), type := 3, pos := "ref.go:79", after := #[], guard := none }) (v := ?_) rfl (by kernel_rfl) (by kernel_rfl) (by kernel_rfl) (fun _ _ _ h => h) (Or.inl ⟨by rfl, ?_⟩) (by assumption) ?_
        rotate_left 1
        · (intro W hSW; (try dsimp only at hSW); first | (go_simp; done) | (go_simp; with_reducible rfl))
        try simp only [Act.put, List.setIfInBounds_toArray, List.set_cons_zero, List.set_cons_succ]
        refine wpAnyH_take (i := 5) (oi := { dst := some 29, op := Op.indexAddr 25 (Operand.tmp 27) (Operand.tmp 28), type := 0, pos := "ref.go:79", after := #[{ on := 3, ground := Ground.data }, { on := 4, ground := Ground.data }], guard := none }) (v := ?_) rfl (by kernel_rfl) (by kernel_rfl) (by kernel_rfl) (fun _ _ _ h => h) (Or.inl ⟨by rfl, ?_⟩) (by assumption) ?_
        rotate_left 1
        · (intro W hSW; (try dsimp only at hSW); first | (go_simp; done) | (go_simp; with_reducible rfl))
        try simp only [Act.put, List.setIfInBounds_toArray, List.set_cons_zero, List.set_cons_succ]
        refine wpAnyH_take (i := 6) (oi := { dst := some 30, op := Op.load 3 (Operand.tmp 29), type := 3, pos := "ref.go:79", after := #[{ on := 5, ground := Ground.data }], guard := none }) (v := ?_) rfl (by kernel_rfl) (by kernel_rfl) (by kernel_rfl) (fun _ _ _ h => h) (Or.inl ⟨by rfl, ?_⟩) (by assumption) ?_
        rotate_left 1
        · (intro W hSW; (try dsimp only at hSW); first | (go_simp; done) | (go_simp; with_reducible rfl))
        try simp only [Act.put, List.setIfInBounds_toArray, List.set_cons_zero, List.set_cons_succ]
        refine wpAnyH_ready (rs := [1, 7]) (by kernel_rfl) (by simp) ?_
        refine (AllReadyH.cons (o := { dst := some 25, op := Op.load 25 (Operand.tmp 24), type := 25, pos := "ref.go:79", after := #[{ on := 0, ground := Ground.data }], guard := none }) rfl (fun K hK => ?_) (AllReadyH.cons (o := { dst := some 31, op := Op.buildSlice 25 1 #[(0, Operand.tmp 30)], type := 25, pos := "ref.go:79", after := #[{ on := 6, ground := Ground.data }], guard := none }) rfl (fun K hK => ?_) AllReadyH.nil))
        · rw [if_pos (by rfl)]
          have hrow := (HBX2.out).row
          go_simp
          clear hrow
          refine hK.out _ _ (HS.out _ hdr) (fun hHeld => ?_)
          clear hK K
          try simp only [Act.put, List.setIfInBounds_toArray, List.set_cons_zero, List.set_cons_succ]
          refine wpAnyH_ready (rs := [7]) (by kernel_rfl) (by simp) ?_
          refine (AllReadyH.cons (o := { dst := some 31, op := Op.buildSlice 25 1 #[(0, Operand.tmp 30)], type := 25, pos := "ref.go:79", after := #[{ on := 6, ground := Ground.data }], guard := none }) rfl (fun K hK => ?_) AllReadyH.nil)
          rw [if_pos (by rfl)]
          go_simp
          have haA : wc1.grownBy ((World.alloc wc1 (.cells #[.int .i64 z] 3)).drew) none := World.grownBy.trans (World.grownBy_alloc wc1 _ none) (⟨rfl, rfl, rfl, Nat.le_refl _, fun _ _ _ => rfl⟩ : (World.alloc wc1 (.cells #[.int .i64 z] 3)).grownBy ((World.alloc wc1 (.cells #[.int .i64 z] 3)).drew) none)
          have hnA : ∀ j u, [Value.int .i64 z][j]? = some u → ((World.alloc wc1 (.cells #[.int .i64 z] 3)).drew).cell? ((⟨wc1.heap.size, 0, none⟩ : Addr).add j) = some u := cell_one_new wc1 _ _
          obtain ⟨WA, hWA⟩ : ∃ WA, (World.alloc wc1 (.cells #[.int .i64 z] 3)).drew = WA := ⟨_, rfl⟩
          rw [hWA] at haA hnA ⊢
          clear hWA
          have HBA := HBX2.out.grown haA
          have hgA := World.grownBy.trans HE.out haA
          refine hK.out _ _ (HS.out _ hgA) (fun hHeld => ?_)
          clear hK K
          try simp only [Act.put, List.setIfInBounds_toArray, List.set_cons_zero, List.set_cons_succ]
          refine wpAnyH_ready (rs := [8]) (by kernel_rfl) (by simp) ?_
          refine (AllReadyH.cons (o := { dst := some 32, op := Op.call { callee := Callee.builtin Builtin.append, args := #[Operand.tmp 25, Operand.tmp 31], argTypes := #[25, 25] }, type := 25, pos := "ref.go:79", after := #[{ on := 1, ground := Ground.data }, { on := 7, ground := Ground.data }], guard := none }) rfl (fun K hK => ?_) AllReadyH.nil)
          refine ready_append_g 25 3 (.tmp 25) (.tmp 31) rfl rfl Try.underlying25 hi0 hz0 hz1 hz2 rfl (by decide) (by omega) (W.heap.size + 1) _ _ (intCells _) rfl HBA.own ⟨wc1.heap.size, 0, none⟩ [.int .i64 z] rfl rfl hnA (fun u hu => by simp at hu; subst hu; rfl) HLEN.out (HBA.low.2) (fun v' w6 hown' hgrow6 hat6 => ?_)
          have hg6 := grown_own hgA hgrow6 (fun j hj => by have h1 := (HBA.own.lt j hj).1; have h2 := HBA.low.1; have h3 := HB0'.out; omega)
          obtain ⟨hs1, hs2⟩ := HBX2.out.at_ haA hgrow6
          obtain ⟨rgA, rcA, rfl⟩ := own_shape hown'
          refine hK.out _ _ (HS.out _ hg6) (fun hHeld => ?_)
          clear hK K
          try simp only [Act.put, List.setIfInBounds_toArray, List.set_cons_zero, List.set_cons_succ]
          refine wpAnyH_take (i := 9) (oi := { dst := some 33, op := Op.fieldAddr 27 (Operand.tmp 5) 1, type := 0, pos := "ref.go:79", after := #[{ on := 0, ground := Ground.phase }, { on := 1, ground := Ground.phase }, { on := 2, ground := Ground.phase }, { on := 3, ground := Ground.phase }, { on := 4, ground := Ground.phase }, { on := 5, ground := Ground.phase }, { on := 6, ground := Ground.phase }, { on := 7, ground := Ground.phase }, { on := 8, ground := Ground.phase }], guard := none }) (v := ?_) rfl (by kernel_rfl) (by kernel_rfl) (by kernel_rfl) (fun _ _ _ h => h) (Or.inl ⟨by rfl, ?_⟩) (by assumption) ?_
          rotate_left 1
          · (intro W hSW; (try dsimp only at hSW); first | (go_simp; done) | (go_simp; with_reducible rfl))
          try simp only [Act.put, List.setIfInBounds_toArray, List.set_cons_zero, List.set_cons_succ]
          refine wpAnyH_ready (rs := [10]) (by kernel_rfl) (by simp) ?_
          refine (AllReadyH.cons (o := { dst := none, op := Op.store 25 (Operand.tmp 33) (Operand.tmp 32), type := 0, pos := "ref.go:79", after := #[{ on := 9, ground := Ground.data }, { on := 8, ground := Ground.data }, { on := 8, ground := Ground.chain }, { on := 0, ground := Ground.phase }, { on := 1, ground := Ground.phase }, { on := 2, ground := Ground.phase }, { on := 3, ground := Ground.phase }, { on := 4, ground := Ground.phase }, { on := 5, ground := Ground.phase }, { on := 6, ground := Ground.phase }, { on := 7, ground := Ground.phase }, { on := 8, ground := Ground.phase }], guard := none }) rfl (fun K hK => ?_) AllReadyH.nil)
          rw [if_pos (by rfl)]
          go_simp
          have hst := HBX2.out.step haA hgrow6 hown'
          have hgs := HBX2.out.grows2 hst HE.out HB0'.out haA hgrow6
          refine hK.out _ _ (HS.out _ hgs) (fun hHeld => ?_)
          clear hK K
          try simp only [Act.put, List.setIfInBounds_toArray, List.set_cons_zero, List.set_cons_succ]
          refine wpAnyH_done (by kernel_rfl) ?_ _
          have hEND := hgs
          clear hHeld
          have HE2 := Lib.hid (And.intro hst hgs)
          clear hst hgs hs1 hs2 hgrow6 hown' hat6 haA hnA HBA hgA hg6 hEND
          go_wp2_with fail
          go_roundg (n - (i + 1))
          case measure => rw [HI.out]; omega
          case rel => exact ⟨i + 1, _, rfl, rfl, by omega, by rw [HLS.out]; exact HE2.out.1, HE2.out.2⟩
        · rw [if_pos (by rfl)]
          go_simp
          have haA : wc1.grownBy ((World.alloc wc1 (.cells #[.int .i64 z] 3)).drew) none := World.grownBy.trans (World.grownBy_alloc wc1 _ none) (⟨rfl, rfl, rfl, Nat.le_refl _, fun _ _ _ => rfl⟩ : (World.alloc wc1 (.cells #[.int .i64 z] 3)).grownBy ((World.alloc wc1 (.cells #[.int .i64 z] 3)).drew) none)
          have hnA : ∀ j u, [Value.int .i64 z][j]? = some u → ((World.alloc wc1 (.cells #[.int .i64 z] 3)).drew).cell? ((⟨wc1.heap.size, 0, none⟩ : Addr).add j) = some u := cell_one_new wc1 _ _
          obtain ⟨WA, hWA⟩ : ∃ WA, (World.alloc wc1 (.cells #[.int .i64 z] 3)).drew = WA := ⟨_, rfl⟩
          rw [hWA] at haA hnA ⊢
          clear hWA
          have HBA := HBX2.out.grown haA
          have hgA := World.grownBy.trans HE.out haA
          refine hK.out _ _ (HS.out _ hgA) (fun hHeld => ?_)
          clear hK K
          try simp only [Act.put, List.setIfInBounds_toArray, List.set_cons_zero, List.set_cons_succ]
          refine wpAnyH_ready (rs := [1]) (by kernel_rfl) (by simp) ?_
          refine (AllReadyH.cons (o := { dst := some 25, op := Op.load 25 (Operand.tmp 24), type := 25, pos := "ref.go:79", after := #[{ on := 0, ground := Ground.data }], guard := none }) rfl (fun K hK => ?_) AllReadyH.nil)
          rw [if_pos (by rfl)]
          have hrow := (HBA).row
          go_simp
          clear hrow
          refine hK.out _ _ (HS.out _ hgA) (fun hHeld => ?_)
          clear hK K
          try simp only [Act.put, List.setIfInBounds_toArray, List.set_cons_zero, List.set_cons_succ]
          refine wpAnyH_ready (rs := [8]) (by kernel_rfl) (by simp) ?_
          refine (AllReadyH.cons (o := { dst := some 32, op := Op.call { callee := Callee.builtin Builtin.append, args := #[Operand.tmp 25, Operand.tmp 31], argTypes := #[25, 25] }, type := 25, pos := "ref.go:79", after := #[{ on := 1, ground := Ground.data }, { on := 7, ground := Ground.data }], guard := none }) rfl (fun K hK => ?_) AllReadyH.nil)
          refine ready_append_g 25 3 (.tmp 25) (.tmp 31) rfl rfl Try.underlying25 hi0 hz0 hz1 hz2 rfl (by decide) (by omega) (W.heap.size + 1) _ _ (intCells _) rfl HBA.own ⟨wc1.heap.size, 0, none⟩ [.int .i64 z] rfl rfl hnA (fun u hu => by simp at hu; subst hu; rfl) HLEN.out (HBA.low.2) (fun v' w6 hown' hgrow6 hat6 => ?_)
          have hg6 := grown_own hgA hgrow6 (fun j hj => by have h1 := (HBA.own.lt j hj).1; have h2 := HBA.low.1; have h3 := HB0'.out; omega)
          obtain ⟨hs1, hs2⟩ := HBX2.out.at_ haA hgrow6
          obtain ⟨rgA, rcA, rfl⟩ := own_shape hown'
          refine hK.out _ _ (HS.out _ hg6) (fun hHeld => ?_)
          clear hK K
          try simp only [Act.put, List.setIfInBounds_toArray, List.set_cons_zero, List.set_cons_succ]
          refine wpAnyH_take (i := 9) (oi := { dst := some 33, op := Op.fieldAddr 27 (Operand.tmp 5) 1, type := 0, pos := "ref.go:79", after := #[{ on := 0, ground := Ground.phase }, { on := 1, ground := Ground.phase }, { on := 2, ground := Ground.phase }, { on := 3, ground := Ground.phase }, { on := 4, ground := Ground.phase }, { on := 5, ground := Ground.phase }, { on := 6, ground := Ground.phase }, { on := 7, ground := Ground.phase }, { on := 8, ground := Ground.phase }], guard := none }) (v := ?_) rfl (by kernel_rfl) (by kernel_rfl) (by kernel_rfl) (fun _ _ _ h => h) (Or.inl ⟨by rfl, ?_⟩) (by assumption) ?_
          rotate_left 1
          · (intro W hSW; (try dsimp only at hSW); first | (go_simp; done) | (go_simp; with_reducible rfl))
          try simp only [Act.put, List.setIfInBounds_toArray, List.set_cons_zero, List.set_cons_succ]
          refine wpAnyH_ready (rs := [10]) (by kernel_rfl) (by simp) ?_
          refine (AllReadyH.cons (o := { dst := none, op := Op.store 25 (Operand.tmp 33) (Operand.tmp 32), type := 0, pos := "ref.go:79", after := #[{ on := 9, ground := Ground.data }, { on := 8, ground := Ground.data }, { on := 8, ground := Ground.chain }, { on := 0, ground := Ground.phase }, { on := 1, ground := Ground.phase }, { on := 2, ground := Ground.phase }, { on := 3, ground := Ground.phase }, { on := 4, ground := Ground.phase }, { on := 5, ground := Ground.phase }, { on := 6, ground := Ground.phase }, { on := 7, ground := Ground.phase }, { on := 8, ground := Ground.phase }], guard := none }) rfl (fun K hK => ?_) AllReadyH.nil)
          rw [if_pos (by rfl)]
          go_simp
          have hst := HBX2.out.step haA hgrow6 hown'
          have hgs := HBX2.out.grows2 hst HE.out HB0'.out haA hgrow6
          refine hK.out _ _ (HS.out _ hgs) (fun hHeld => ?_)
          clear hK K
          try simp only [Act.put, List.setIfInBounds_toArray, List.set_cons_zero, List.set_cons_succ]
          refine wpAnyH_done (by kernel_rfl) ?_ _
          have hEND := hgs
          clear hHeld
          have HE2 := Lib.hid (And.intro hst hgs)
          clear hst hgs hs1 hs2 hgrow6 hown' hat6 haA hnA HBA hgA hg6 hEND
          go_wp2_with fail
          go_roundg (n - (i + 1))
          case measure => rw [HI.out]; omega
          case rel => exact ⟨i + 1, _, rfl, rfl, by omega, by rw [HLS.out]; exact HE2.out.1, HE2.out.2⟩
    · have hie : i = n := by omega
      subst hie
      have hinB : decide (i < i) = false := by simp
      have HL : Hid (shares (xs.take i) ys = shares xs ys) := Lib.hid (by rw [List.take_of_length_le (by rw [HH.out.2.1]; exact Nat.le_refl _)])
      obtain ⟨a', c', he, hsp⟩ := ints_span HBX.out.own
      injection he with he1 _ he2
      subst he1 he2
      have HSP := Lib.hid hsp; clear hsp
      obtain ⟨p, hp⟩ : ∃ p, (shares (xs.take i) ys).length = p := ⟨_, rfl⟩
      have HP := Lib.hid hp
      have r0 := HBX.out.c0
      have r1 := HBX.out.row
      have m0 := HWR.out.cell hcs.2.2.2.2.2.1 (by simp)
      have m1 := HWR.out.cell hcs.2.2.2.2.2.2.1 (by simp)
      have f0 := (grown_frozen HWR.out (show w.heap.size + 2 < W.heap.size by have := HSZ.out; omega) 0).trans hcs.2.2.2.2.2.2.2.1
      have f1 := (grown_frozen HWR.out (show w.heap.size + 2 < W.heap.size by have := HSZ.out; omega) 1).trans hcs.2.2.2.2.2.2.2.2
      rw [hp] at r1
      clear hp hcs
      go_wp2_with fail
      refine bodyPost_ret (results105 _ _ (w.heap.size + 2) va p vc k rfl (by rw [World.cell?_setCell_other _ _ _ _ (by intro e; injection e with _ e; cases e)]; exact World.cell?_setCell_same _ _ _ m0) (World.cell?_setCell_same _ _ _ (by rw [World.cell?_setCell_other _ _ _ _ (by intro e; injection e with _ e; cases e)]; exact m1))) rfl ⟨va, vc, by rw [← HL.out, HP.out], ?_, ?_⟩
      · have hz2 : ((wr.setCell ⟨w.heap.size + 2, 0, none⟩ (.int .i64 k)).setCell ⟨w.heap.size + 2, 1, none⟩ (.slice va p vc)).heap.size = wr.heap.size := by simp [World.setCell]
        have h1 := (HSP.out.off (grown_set _ (w.heap.size + 2) 0 (.int .i64 k)) (fun x e => by cases e; have := HSZ.out; exact .inl (by omega))).off (grown_set _ (w.heap.size + 2) 1 (.slice va p vc)) (fun x e => by cases e; have := HSZ.out; exact .inl (by omega))
        rw [← HL.out]
        exact (h1.map (fun _ h => h.weak)).wide (by have := HSZ.out; omega) (by rw [hz2]; exact Nat.le_refl _) (Nat.le_refl _)
      · exact grown_own (grown_own (HG.out.trans HWR.out) (grown_set _ (w.heap.size + 2) 0 _) (fun k hk => by cases hk; omega)) (grown_set _ (w.heap.size + 2) 1 _) (fun k hk => by cases hk; omega)
theorem results104 (tmps : Array Value) (w : World) (b : Nat) (a : Option Addr) (n c : Nat) (x : Int) (ht : tmps.getD 4 undef = .pointer (some ⟨b, 0, none⟩)) (h0 : w.cell? ⟨b, 0, none⟩ = some (.int .i64 x)) (h1 : w.cell? ⟨b, 1, none⟩ = some (.slice a n c)) :
    (results Try.f28 tmps).run Try.prog w = .ok (.agg #[.int .i64 x, .slice a n c]) w := by
  have ht' : tmps[4]?.getD undef = .pointer (some ⟨b, 0, none⟩) := by simpa using ht
  simp [results, ht', go_sem, h0, h1, Result.andThen]
set_option maxRecDepth 100000 in
set_option maxHeartbeats 8000000 in
theorem rUnion_calls (k k' : Int) (xs ys : List Int) (xa ya : Option Addr) (xc yc : Nat) (w : World) (h : IntsW w xa xc xs) (h' : IntsW w ya yc ys) (hl : xs.length ≤ 4000) (hl' : ys.length ≤ 4000) (hx : Up xs) (hy : Up ys) :
    Calls Try.prog 28 #[.agg #[.int .i64 k, .slice xa xs.length xc], .agg #[.int .i64 k', .slice ya ys.length yc]] w fun e w' => ∃ a c, e = .returned (.agg #[.int .i64 k, .slice a (unionL xs ys).length c]) ∧ Span w.heap.size w'.heap.size w' (fun W => IntsW W a c (unionL xs ys)) ∧ w.grownBy w' none := by
  have HU := Lib.hid (ofTo_union hx hy); clear hx hy
  obtain ⟨n, hn⟩ : ∃ n, xs.length = n := ⟨_, rfl⟩
  obtain ⟨m, hm⟩ : ∃ m, ys.length = m := ⟨_, rfl⟩
  have hg1 := World.grownBy_alloc w (.cells #[.int .i64 k, .slice xa n xc] 27) none
  have hg2 := World.grownBy_alloc (w.alloc (.cells #[.int .i64 k, .slice xa n xc] 27)) (.cells #[.int .i64 k', .slice ya m yc] 27) none
  have hg3 := World.grownBy_alloc ((w.alloc (.cells #[.int .i64 k, .slice xa n xc] 27)).alloc (.cells #[.int .i64 k', .slice ya m yc] 27)) (.cells #[.int .i64 0, .slice none 0 0] 27) none
  have hg := (hg1.trans hg2).trans hg3
  have hc := six_cells w (.int .i64 k) (.slice xa n xc) (.int .i64 k') (.slice ya m yc) (.int .i64 0) (.slice none 0 0) 27 27 27
  obtain ⟨W, hW⟩ : ∃ W, ((w.alloc (.cells #[.int .i64 k, .slice xa n xc] 27)).alloc (.cells #[.int .i64 k', .slice ya m yc] 27)).alloc (.cells #[.int .i64 0, .slice none 0 0] 27) = W := ⟨_, rfl⟩
  have hsz : W.heap.size = w.heap.size + 3 := by rw [← hW]; simp
  rw [hW] at hg hc
  have HH := Lib.hid (And.intro (h.grown hg) (And.intro (h'.grown hg) (And.intro hn hm)))
  rw [hn] at hl
  rw [hm] at hl'
  rw [hn, hm]
  clear h h' hn hm hg1 hg2 hg3
  have HG := Lib.hid hg; clear hg
  have HC := Lib.hid hc
  have HSZ := Lib.hid hsz; clear hsz
  obtain ⟨hlt, c0, c1, d0, d1, e0, e1, ef0, ef1⟩ := hc
  have c1' := (World.grownBy_alloc W (.cells #[] 3) none).cell c1 (by simp)
  go_enter Try.func28, Try.ntmps28
  go_wp2_with (at_builtin; refine append_ints rfl _ _ rfl W.heap.size _ 0 [] rfl (World.ownsRow_made W #[] 0 (Nat.le_refl _) (Nat.zero_le _) rfl) xa n xc xs rfl HH.out.2.2.1 (HH.out.1.grown (World.grownBy_alloc W _ none)) (by omega) (World.grownBy.size (World.grownBy_alloc W (.cells #[] 3) none)) ?_)
  intro v1 x1 ho1 hg1
  replace ho1 : x1.ownsRow W.heap.size 3 1 v1 n (intCells xs) := by simpa [intCells] using ho1
  obtain ⟨va1, vc1, rfl⟩ := own_shape ho1
  have HO1 := Lib.hid ho1; clear ho1
  have HG1 : Hid (W.grownBy x1 none) := Lib.hid (grown_own (World.grownBy_alloc W _ none) hg1 (fun k hk => by simp [Value.ownBlock] at hk; omega))
  clear hg1 hW hlt c0 c1 c1' d0 d1 e0 e1 ef0 ef1
  have d1 := HG1.out.cell HC.out.2.2.2.2.1 (by simp)
  go_wp2_with (at_builtin; refine append_ints rfl _ _ rfl W.heap.size _ n xs rfl HO1.out ya m yc ys rfl HH.out.2.2.2 (HH.out.2.1.grown HG1.out) (by omega) HG1.out.size ?_)
  intro v2 x2 ho2 hg2
  replace ho2 : x2.ownsRow W.heap.size 3 1 v2 (xs ++ ys).length (intCells (xs ++ ys)) := by rw [List.length_append, HH.out.2.2.1, HH.out.2.2.2]; simpa [intCells] using ho2
  obtain ⟨a2, c2, rfl, hi2⟩ := ints_span ho2
  have HG2 : Hid (W.grownBy x2 none) := Lib.hid (grown_own HG1.out hg2 (fun k hk => (HO1.out.lt k hk).1))
  have HOF := Lib.hid (of_calls k (xs ++ ys) a2 c2 x2 hi2.here.weak (by rw [List.length_append, HH.out.2.2.1, HH.out.2.2.2]; omega))
  rw [HU.out] at HOF
  obtain ⟨q, hq⟩ : ∃ q, (xs ++ ys).length = q := ⟨_, rfl⟩
  rw [hq] at HOF
  have hqn : n + m = q := by rw [← hq, List.length_append, HH.out.2.2.1, HH.out.2.2.2]
  obtain ⟨p, hp⟩ : ∃ p, (unionL xs ys).length = p := ⟨_, rfl⟩
  rw [hp] at HOF
  have HP := Lib.hid hp
  rw [hq]
  clear hg2 ho2 hi2 d1 hq hqn hp
  have c0 := HG2.out.cell HC.out.2.1 (by simp)
  go_wp2_with fail
  clear c0
  refine HOF.out.mono ?_
  rintro e x3 ⟨a3, c3, rfl, hsp, g3⟩
  have HG3 := Lib.hid (HG2.out.trans g3)
  have HSP := Lib.hid hsp
  have HLE := Lib.hid (Nat.le_trans (Nat.le_of_eq HSZ.out.symm) HG2.out.size)
  clear g3 hsp
  have hcs := HC.out
  have m0 := HG3.out.cell hcs.2.2.2.2.2.1 (by simp)
  have m1 := HG3.out.cell hcs.2.2.2.2.2.2.1 (by simp)
  have f0 := (grown_frozen HG3.out (show w.heap.size + 2 < W.heap.size by have := HSZ.out; omega) 0).trans hcs.2.2.2.2.2.2.2.1
  have f1 := (grown_frozen HG3.out (show w.heap.size + 2 < W.heap.size by have := HSZ.out; omega) 1).trans hcs.2.2.2.2.2.2.2.2
  clear hcs
  go_wp2_with fail
  refine bodyPost_ret (results104 _ _ (w.heap.size + 2) a3 p c3 k rfl (by rw [World.cell?_setCell_other _ _ _ _ (by intro e; injection e with _ e; cases e)]; exact World.cell?_setCell_same _ _ _ m0) (World.cell?_setCell_same _ _ _ (by rw [World.cell?_setCell_other _ _ _ _ (by intro e; injection e with _ e; cases e)]; exact m1))) rfl ⟨a3, c3, by rw [HP.out], ?_, ?_⟩
  · have hz2 : ((x3.setCell ⟨w.heap.size + 2, 0, none⟩ (.int .i64 k)).setCell ⟨w.heap.size + 2, 1, none⟩ (.slice a3 p c3)).heap.size = x3.heap.size := by simp [World.setCell]
    have h1 := (HSP.out.off (grown_set _ (w.heap.size + 2) 0 (.int .i64 k)) (fun x e => by cases e; have := HLE.out; exact .inl (by omega))).off (grown_set _ (w.heap.size + 2) 1 (.slice a3 p c3)) (fun x e => by cases e; have := HLE.out; exact .inl (by omega))
    exact h1.wide (by have := HLE.out; omega) (by rw [hz2]; exact Nat.le_refl _) (Nat.le_refl _)
  · exact grown_own (grown_own (HG.out.trans HG3.out) (grown_set _ (w.heap.size + 2) 0 _) (fun k hk => by cases hk; omega)) (grown_set _ (w.heap.size + 2) 1 _) (fun k hk => by cases hk; omega)

theorem rising_next {P : Int} {zs : List Int} {i : Nat} {z : Int} (h : rising P (-1) (zs.take i) = true) (hz : zs[i]? = some z) (h0 : 0 ≤ z) (h1 : z < P) (hp : ∀ y, 0 < i → zs[i - 1]? = some y → y < z) : rising P (-1) (zs.take (i + 1)) = true := by
  obtain ⟨h2, h3⟩ := rising_iff.1 h
  refine rising_iff.2 ⟨up_next h2 hz hp, fun y hy => ?_⟩
  rw [List.take_add_one, hz, Option.toList_some, List.mem_append, List.mem_singleton] at hy
  rcases hy with hy | rfl
  · exact h3 y hy
  · exact ⟨by omega, h1⟩
theorem rising_out {P : Int} {zs : List Int} {i : Nat} {z : Int} (hz : zs[i]? = some z) (h : z < 0 ∨ P ≤ z) : rising P (-1) zs = false := by
  cases hu : rising P (-1) zs with
  | false => rfl
  | true => have := (rising_iff.1 hu).2 z (List.mem_of_getElem? hz); omega
theorem rising_fall {P : Int} {zs : List Int} {i : Nat} {y z : Int} (hi : 0 < i) (hy : zs[i - 1]? = some y) (hz : zs[i]? = some z) (h : z ≤ y) : rising P (-1) zs = false := by
  cases hu : rising P (-1) zs with
  | false => rfl
  | true => have := up_get (rising_iff.1 hu).1 (show i - 1 < i by omega) hy hz; omega
set_option maxRecDepth 100000 in
set_option maxHeartbeats 8000000 in
theorem tValid_calls (n x : Int) (zs : List Int) (a : Option Addr) (c : Nat) (w : World) (h : IntsW w a c zs) (hl : zs.length ≤ 100000) :
    Calls Try.prog 18 #[.int .i64 n, .agg #[.int .i64 x, .slice a zs.length c]] w fun e w' => e = .returned (.bool (relValid n x zs)) ∧ w.grownBy w' none := by
  obtain ⟨k, hk⟩ : ∃ k, zs.length = k := ⟨_, rfl⟩
  rw [hk] at hl ⊢
  have hg := World.grownBy_alloc w (.cells #[.int .i64 x, .slice a k c] 27) none
  have HN := Lib.hid (And.intro hk (h.grown hg)); clear hk h
  have k0 : (w.alloc (.cells #[.int .i64 x, .slice a k c] 27)).cell? ⟨w.heap.size, 0, none⟩ = some (.int .i64 x) := by go_simp
  have k1 : (w.alloc (.cells #[.int .i64 x, .slice a k c] 27)).cell? ⟨w.heap.size, 1, none⟩ = some (.slice a k c) := by go_simp
  obtain ⟨W, hW⟩ : ∃ W, w.alloc (.cells #[.int .i64 x, .slice a k c] 27) = W := ⟨_, rfl⟩
  rw [hW] at hg HN k0 k1
  have HG := Lib.hid hg; clear hg
  have HR : Hid (∀ b, b = relValid n x zs → relValid n x zs = b) := Lib.hid (fun b h => h.symm)
  have HNO : Hid (¬ (0 ≤ n ∧ n ≤ 12 ∧ 1 ≤ x ∧ x ≤ 3) → relValid n x zs = false) := Lib.hid (fun hc => by
    cases hr : relValid n x zs with
    | false => rfl
    | true => exact absurd (relValid_iff.1 hr).1 hc)
  by_cases c0 : n < 0
  · have f0 : decide (n < 0) = true := decide_eq_true c0
    have HF := Lib.hid (HNO.out (by omega))
    clear c0 HR HNO
    go_enter Try.func18, Try.ntmps18
    go_wp2_with fail
    go_ret
    exact ⟨by rw [HF.out]; rfl, HG.out⟩
  have f0 : decide (n < 0) = false := decide_eq_false c0
  by_cases c1 : 12 < n
  · have f1 : decide (12 < n) = true := decide_eq_true c1
    have HF := Lib.hid (HNO.out (by omega))
    clear c0 c1 HR HNO
    go_enter Try.func18, Try.ntmps18
    go_wp2_with fail
    go_ret
    exact ⟨by rw [HF.out]; rfl, HG.out⟩
  have f1 : decide (12 < n) = false := decide_eq_false c1
  by_cases c2 : x < 1
  · have f2 : decide (x < 1) = true := decide_eq_true c2
    have HF := Lib.hid (HNO.out (by omega))
    clear c0 c1 c2 HR HNO
    go_enter Try.func18, Try.ntmps18
    go_wp2_with fail
    go_ret
    exact ⟨by rw [HF.out]; rfl, HG.out⟩
  have f2 : decide (x < 1) = false := decide_eq_false c2
  by_cases c3 : 3 < x
  · have f3 : decide (3 < x) = true := decide_eq_true c3
    have HF := Lib.hid (HNO.out (by omega))
    clear c0 c1 c2 c3 HR HNO
    go_enter Try.func18, Try.ntmps18
    go_wp2_with fail
    go_ret
    exact ⟨by rw [HF.out]; rfl, HG.out⟩
  have f3 : decide (3 < x) = false := decide_eq_false c3
  obtain ⟨P, hP⟩ : ∃ P, n.toNat ^ x.toNat = P := ⟨_, rfl⟩
  have HPW := Lib.hid (fun (U : World) => by
    have h := power9_calls n.toNat x.toNat U (by omega) (by omega)
    rw [Int.toNat_of_nonneg (by omega), Int.toNat_of_nonneg (by omega), hP] at h
    exact h)
  have HV : Hid (relValid n x zs = rising (P : Int) (-1) zs) := Lib.hid (by
    rw [relValid, hP, decide_eq_true (show 0 ≤ n by omega), decide_eq_true (show n ≤ 12 by omega), decide_eq_true (show 1 ≤ x by omega), decide_eq_true (show x ≤ 3 by omega)]; rfl)
  clear c0 c1 c2 c3 HR HNO hP
  go_enter Try.func18, Try.ntmps18
  go_wp2_with fail
  clear hW f0 f1 f2 f3
  have HK := Lib.hid (And.intro k0 k1); clear k0 k1
  go_loopg [5] k (fun g s5 wr => ∃ i : Nat, s5 = .int .i64 (i : Int) ∧ g = k - i ∧ i ≤ k ∧ rising (P : Int) (-1) (zs.take i) = true ∧ ∃ q, wr = W.drewN q)
  case atStart => exact ⟨0, rfl, rfl, Nat.zero_le _, rfl, 0, rfl⟩
  case round =>
    obtain ⟨i, rfl, hgi, hi, hok, q, rfl⟩ := hrel
    have HI := Lib.hid (And.intro hgi (And.intro hok trivial)); clear hgi hok
    have k0 := HK.out.1
    have k1 := HK.out.2
    by_cases hin : i < k
    · have hinB : decide (i < k) = true := by simpa using hin
      have hinI : (i : Int) < (k : Int) := by omega
      obtain ⟨z, hz⟩ : ∃ z, zs[i]? = some z := ⟨_, List.getElem?_eq_getElem (by rw [HN.out.1]; exact hin)⟩
      obtain ⟨b, o, rfl, hcell⟩ := HN.out.2.at hz
      by_cases hneg : z < 0
      · have f0 : decide (z < 0) = true := decide_eq_true hneg
        have HF : Hid (relValid n x zs = false) := Lib.hid (by rw [HV.out]; exact rising_out hz (.inl hneg))
        clear hz hneg
        go_wp2
        go_quiet (exact (HPW.out _).mono (fun _ _ h => ⟨h.1, _, h.2⟩))
        go_wp2
        go_ret
        exact ⟨by rw [HF.out]; rfl, HG.out.trans ((grown_drewN _ _ _).trans (grown_drewN _ _ _))⟩
      have f0 : decide (z < 0) = false := decide_eq_false hneg
      by_cases hbig : (P : Int) ≤ z
      · have f1 : decide ((P : Int) ≤ z) = true := decide_eq_true hbig
        have HF : Hid (relValid n x zs = false) := Lib.hid (by rw [HV.out]; exact rising_out hz (.inr hbig))
        clear hz hneg hbig
        go_wp2
        go_quiet (exact (HPW.out _).mono (fun _ _ h => ⟨h.1, _, h.2⟩))
        go_wp2
        go_ret
        exact ⟨by rw [HF.out]; rfl, HG.out.trans ((grown_drewN _ _ _).trans (grown_drewN _ _ _))⟩
      have f1 : decide ((P : Int) ≤ z) = false := decide_eq_false hbig
      cases i with
      | zero =>
        have HSN : Hid (rising (P : Int) (-1) (zs.take 1) = true) := Lib.hid (rising_next HI.out.2.1 hz (by omega) (by omega) (fun y h0 => absurd h0 (Nat.lt_irrefl 0)))
        rw [Nat.add_zero] at hcell
        clear hz hneg hbig
        go_wp2
        go_quiet (exact (HPW.out _).mono (fun _ _ h => ⟨h.1, _, h.2⟩))
        go_wp2
        go_roundg (k - (1))
        case measure => rw [HI.out.1]; omega
        case rel => exact ⟨1, rfl, rfl, by omega, HSN.out, _, rfl⟩
      | succ j =>
        obtain ⟨y, hy⟩ : ∃ y, zs[j]? = some y := ⟨_, List.getElem?_eq_getElem (by rw [HN.out.1]; omega)⟩
        obtain ⟨b', o', e', hcell'⟩ := HN.out.2.at hy
        injection e' with e'
        injection e' with e1 e2 _
        subst e1 e2
        have hj0 : (0 : Int) ≤ (j : Int) := by omega
        have hj1 : (0 : Int) ≤ (j : Int) + 1 := by omega
        have hj2 : (j : Int) + 1 < (k : Int) := by omega
        have hj3 : (j : Int) < (k : Int) := by omega
        have hwj : IntKind.i64.wrap (j : Int) = (j : Int) := IntWalk.i64_in _ (by omega)
        have f2 : decide (0 < (j : Int) + 1) = true := decide_eq_true (by omega)
        by_cases hfall : z ≤ y
        · have f3 : decide (z ≤ y) = true := decide_eq_true hfall
          have HF : Hid (relValid n x zs = false) := Lib.hid (by rw [HV.out]; exact rising_fall (i := j + 1) (by omega) hy hz hfall)
          clear hz hy hneg hfall hbig
          go_wp2
          go_quiet (exact (HPW.out _).mono (fun _ _ h => ⟨h.1, _, h.2⟩))
          go_wp2
          go_ret
          exact ⟨by rw [HF.out]; rfl, HG.out.trans ((grown_drewN _ _ _).trans (grown_drewN _ _ _))⟩
        · have f3 : decide (z ≤ y) = false := decide_eq_false hfall
          have HSN : Hid (rising (P : Int) (-1) (zs.take (j + 1 + 1)) = true) := Lib.hid (rising_next HI.out.2.1 hz (by omega) (by omega) (fun y' _ hy' => by
            rw [Nat.add_sub_cancel, hy] at hy'
            cases hy'
            omega))
          clear hz hy hneg hfall hbig
          go_wp2
          go_quiet (exact (HPW.out _).mono (fun _ _ h => ⟨h.1, _, h.2⟩))
          go_wp2
          go_roundg (k - (j + 1 + 1))
          case measure => rw [HI.out.1]; omega
          case rel => exact ⟨j + 1 + 1, rfl, rfl, by omega, HSN.out, _, rfl⟩
    · have hie : i = k := by omega
      subst hie
      have hinB : decide (i < i) = false := by simp
      have HF : Hid (relValid n x zs = true) := Lib.hid (by rw [HV.out]; have := HI.out.2.1; rwa [List.take_of_length_le (by rw [HN.out.1]; exact Nat.le_refl _)] at this)
      go_wp2_with fail
      go_ret
      exact ⟨by rw [HF.out]; rfl, HG.out.trans (grown_drewN _ _ _)⟩

end Go.Proofs.Ytkoigonbncpbaaa

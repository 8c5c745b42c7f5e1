/- Override, whole. -/
import Derived.Test.YtkoigonbncpbaaaB8
namespace Go.Proofs.Ytkoigonbncpbaaa
open Go.RowKit Go.Shelf Go.Sort

theorem keep_sm (r : Nat) (zs : List Sm) (ys : List Int) : smL (zs.filter fun x => !decide (((x.val : Nat) : Int) / (r : Int) ∈ divL r ys)) = keepL r (smL zs) ys := by
  unfold keepL smL
  rw [List.filter_map]
  rfl
theorem keepL_len (r : Nat) (xs ys : List Int) : (keepL r xs ys).length ≤ xs.length := List.length_filter_le _ _

theorem results33 (tmps : Array Value) (w : World) (b : Nat) (a : Option Addr) (n c : Nat) (x : Int) (ht : tmps.getD 6 undef = .pointer (some ⟨b, 0, none⟩)) (h0 : w.cell? ⟨b, 0, none⟩ = some (.int .i64 x)) (h1 : w.cell? ⟨b, 1, none⟩ = some (.slice a n c)) :
    (results Try.f33 tmps).run Try.prog w = .ok (.agg #[.int .i64 x, .slice a n c]) w := by
  have ht' : tmps[6]?.getD undef = .pointer (some ⟨b, 0, none⟩) := by simpa using ht
  simp [results, ht', go_sem, h0, h1, Result.andThen]

set_option maxRecDepth 100000 in
set_option maxHeartbeats 8000000 in
theorem override_calls (n k j : Nat) (xs ys : List Int) (xa ya : Option Addr) (xc yc : Nat) (w : World) (h : IntsW w xa xc xs) (h' : IntsW w ya yc ys) (hl : xs.length ≤ 90000) (hl' : ys.length ≤ 90000) (hn1 : 1 ≤ n) (hn2 : n ≤ 12) (hj : 1 ≤ j) (hj3 : j ≤ 3)
    (hx : ∀ x ∈ xs, 0 ≤ x ∧ x ≤ 2000) (hy : ∀ y ∈ ys, 0 ≤ y ∧ y ≤ 2000) :
    Calls Try.prog 33 #[.int .i64 (n : Int), .agg #[.int .i64 (k : Int), .slice xa xs.length xc], .agg #[.int .i64 (j : Int), .slice ya ys.length yc]] w fun e w' => ∃ a c, e = .returned (.agg #[.int .i64 (k : Int), .slice a (overL (n ^ (j - 1)) xs ys).length c]) ∧ Span w.heap.size w'.heap.size w' (fun W => IntsW W a c (overL (n ^ (j - 1)) xs ys)) ∧ w.grownBy w' none := by
  obtain ⟨lx, hnx⟩ : ∃ l, xs.length = l := ⟨_, rfl⟩
  obtain ⟨ly, hny⟩ : ∃ l, ys.length = l := ⟨_, rfl⟩
  rw [hnx, hny]
  have hg1 := World.grownBy_alloc w (.cells #[.int .i64 (k : Int), .slice xa lx xc] 27) none
  have hg2 := World.grownBy_alloc (w.alloc (.cells #[.int .i64 (k : Int), .slice xa lx xc] 27)) (.cells #[.int .i64 (j : Int), .slice ya ly yc] 27) none
  have hg3 := World.grownBy_alloc ((w.alloc (.cells #[.int .i64 (k : Int), .slice xa lx xc] 27)).alloc (.cells #[.int .i64 (j : Int), .slice ya ly yc] 27)) (.cells #[.int .i64 0, .slice none 0 0] 27) none
  have hg := (hg1.trans hg2).trans hg3
  have hc := six_cells w (.int .i64 (k : Int)) (.slice xa lx xc) (.int .i64 (j : Int)) (.slice ya ly yc) (.int .i64 0) (.slice none 0 0) 27 27 27
  have hsz : (((w.alloc (.cells #[.int .i64 (k : Int), .slice xa lx xc] 27)).alloc (.cells #[.int .i64 (j : Int), .slice ya ly yc] 27)).alloc (.cells #[.int .i64 0, .slice none 0 0] 27)).heap.size = w.heap.size + 3 := by simp
  obtain ⟨W, hW⟩ : ∃ W, ((w.alloc (.cells #[.int .i64 (k : Int), .slice xa lx xc] 27)).alloc (.cells #[.int .i64 (j : Int), .slice ya ly yc] 27)).alloc (.cells #[.int .i64 0, .slice none 0 0] 27) = W := ⟨_, rfl⟩
  rw [hW] at hg hc hsz
  have HG := Lib.hid (And.intro hg hsz)
  have HC := Lib.hid hc
  clear hg hg1 hg2 hg3 hsz
  obtain ⟨hlt, c0, c1, d0, d1, e0, e1, ef0, ef1⟩ := hc
  obtain ⟨r, hr⟩ : ∃ r, n ^ (j - 1) = r := ⟨_, rfl⟩
  have hrB : r ≤ 144 := by
    rw [← hr]
    have h1 : n ^ (j - 1) ≤ 12 ^ (j - 1) := Nat.pow_le_pow_left hn2 _
    have h2 : 12 ^ (j - 1) ≤ 12 ^ 2 := Nat.pow_le_pow_right (by omega) (by omega)
    omega
  have hr1 : 1 ≤ r := by rw [← hr]; exact Nat.pow_pos (by omega)
  have HPW := Lib.hid (fun (U : World) => power_calls n (j - 1) U hn2 (by omega))
  rw [hr] at HPW ⊢
  clear hr
  have hwj : IntKind.i64.wrap ((j : Int) - 1) = ((j - 1 : Nat) : Int) := by rw [IntWalk.i64_in _ (by omega)]; omega
  obtain ⟨j1, hj1⟩ : ∃ z, j - 1 = z := ⟨_, rfl⟩
  rw [hj1] at HPW hwj
  clear hj1
  have hmx : max (1 : Int) (r : Int) = (r : Int) := by omega
  have hmy : (1 : Int) ≤ (r : Int) := by omega
  obtain ⟨p, hp⟩ : ∃ p, (overL r xs ys).length = p := ⟨_, rfl⟩
  rw [hp]
  obtain ⟨zs, hzs⟩ := sm_of hx
  have HXY := Lib.hid (And.intro (h.grown HG.out.1) (And.intro (h'.grown HG.out.1) (And.intro hnx (And.intro hny (And.intro hzs (And.intro hy hp))))))
  have hlx : lx ≤ 90000 := by omega
  have hly : ly ≤ 90000 := by omega
  clear h h' hx hy hnx hny hl hl' hp hzs
  have hg0 := World.grownBy_alloc W (.cells #[.int .i64 (r : Int)] 3) none
  have hbr : (W.alloc (.cells #[.int .i64 (r : Int)] 3)).cell? ⟨W.heap.size, 0, none⟩ = some (.int .i64 (r : Int)) := by go_simp
  obtain ⟨W2, hW2⟩ : ∃ W2, W.alloc (.cells #[.int .i64 (r : Int)] 3) = W2 := ⟨_, rfl⟩
  have hs2 : W2.heap.size = W.heap.size + 1 := by rw [← hW2]; simp
  rw [hW2] at hg0 hbr
  have hga := World.grownBy_alloc W2 (.map #[] 0) none
  have hnew := SetM.new W2
  have hmm := @run_makeMap Try.prog
  obtain ⟨W3, hW3⟩ : ∃ W3, W2.alloc (.map #[] 0) = W3 := ⟨_, rfl⟩
  have hs3 : W3.heap.size = W.heap.size + 2 := by rw [← hW3]; simp; omega
  rw [hW3] at hga hnew
  rw [hs2] at hnew
  have hgb := World.grownBy_alloc W3 (.cells #[.map (some (W.heap.size + 1))] 52) none
  have hbox : (W3.alloc (.cells #[.map (some (W.heap.size + 1))] 52)).cell? ⟨W3.heap.size, 0, none⟩ = some (.map (some (W.heap.size + 1))) := by go_simp
  rw [hs3] at hbox
  have HN := Lib.hid (show SetM (W3.alloc (.cells #[.map (some (W.heap.size + 1))] 52)) (W.heap.size + 1) (divL r (ys.take 0)) ∧ (W3.alloc (.cells #[.map (some (W.heap.size + 1))] 52)).cell? ⟨W.heap.size + 2, 0, none⟩ = some (.map (some (W.heap.size + 1))) ∧ (W3.alloc (.cells #[.map (some (W.heap.size + 1))] 52)).cell? ⟨W.heap.size, 0, none⟩ = some (.int .i64 (r : Int)) ∧ W.grownBy (W3.alloc (.cells #[.map (some (W.heap.size + 1))] 52)) none from
    ⟨hnew.grown hgb (by simp), hbox, (hga.trans hgb).cell hbr (by simp), (hg0.trans hga).trans hgb⟩)
  obtain ⟨W4, hW4⟩ : ∃ W4, W3.alloc (.cells #[.map (some (W.heap.size + 1))] 52) = W4 := ⟨_, rfl⟩
  rw [hW4] at HN
  have k1 := HN.out.2.2.2.cell d1 (by simp)
  clear hga hgb hg0 hnew hbox hbr
  go_enter Try.func33, Try.ntmps33
  go_wp2_with (go_at_call 43; refine (HPW.out _).mono ?_; rintro e w2 ⟨rfl, hw2⟩; rw [hw2]; clear hw2 w2)
  clear hW hW2 hW3 hW4 hs2 hs3 hmm hwj hmx c0 c1 d0 d1 e0 e1 ef0 ef1 k1
  go_loopg [22] ly (fun g s22 wr => ∃ (i : Nat), s22 = .int .i64 (i : Int) ∧ g = ly - i ∧ i ≤ ly ∧ SetM wr (W.heap.size + 1) (divL r (ys.take i)) ∧ wr.cell? ⟨W.heap.size + 2, 0, none⟩ = some (.map (some (W.heap.size + 1))) ∧ wr.cell? ⟨W.heap.size, 0, none⟩ = some (.int .i64 (r : Int)) ∧ W.grownBy wr none)
  case atStart => exact ⟨0, rfl, rfl, Nat.zero_le _, HN.out.1, HN.out.2.1, HN.out.2.2.1, HN.out.2.2.2⟩
  case round =>
    obtain ⟨i, rfl, hgk, hi, hb1, hb2, hb3, hb4⟩ := hrel
    have HB := Lib.hid (And.intro hb1 (And.intro hb2 (And.intro hb3 hb4))); clear hb1 hb2 hb3 hb4
    have HI := Lib.hid hgk; clear hgk
    by_cases hin : i < ly
    · have hinB : decide (i < ly) = true := by simpa using hin
      have hinI : (i : Int) < (ly : Int) := by omega
      obtain ⟨z, hz⟩ : ∃ z, ys[i]? = some z := ⟨_, List.getElem?_eq_getElem (by rw [HXY.out.2.2.2.1]; exact hin)⟩
      obtain ⟨b, o, rfl, hcell0⟩ := HXY.out.2.1.at hz
      have hzb := HXY.out.2.2.2.2.2.1 z (List.mem_of_getElem? hz)
      obtain ⟨y, rfl⟩ : ∃ y : Nat, z = (y : Int) := ⟨z.toNat, by omega⟩
      obtain ⟨q, hq⟩ : ∃ q, y / r = q := ⟨_, rfl⟩
      have hqi : (y : Int) / (r : Int) = (q : Int) := by rw [← hq]; rfl
      have hq2 : q ≤ 2000 := by rw [← hq]; exact Nat.le_trans (Nat.div_le_self _ _) (by omega)
      have HQ := Lib.hid hq2
      have hwq : IntKind.i64.wrap (q : Int) = (q : Int) := IntWalk.i64_in _ (by omega)
      have hr0 : r ≠ 0 := by omega
      have hT := div_take (r := r) hz
      rw [hqi] at hT
      have HT := Lib.hid hT
      have HLT := Lib.hid (show (divL r (ys.take i)).length ≤ 100000 by unfold divL; rw [List.length_map, List.length_take]; omega)
      have e2 := HB.out.2.2.2.cell hcell0 (by simp)
      clear hz hT hq
      go_wp2_with fail
      clear e2
      have hdr : W.grownBy wr.drew none := World.grownBy.trans HB.out.2.2.2 (⟨rfl, rfl, rfl, Nat.le_refl _, fun _ _ _ => rfl⟩ : wr.grownBy wr.drew none)
      refine wp_region_held_drew (S := (fun Wh : World => W.grownBy Wh none ∧ Wh.cell? ⟨W.heap.size + 2, 0, none⟩ = some (.map (some (W.heap.size + 1))) ∧ Wh.cell? ⟨W.heap.size, 0, none⟩ = some (.int .i64 (r : Int)))) (by kernel_rfl) ⟨hdr, World.grownBy.cell (⟨rfl, rfl, rfl, Nat.le_refl _, fun _ _ _ => rfl⟩ : wr.grownBy wr.drew none) HB.out.2.1 (by simp), World.grownBy.cell (⟨rfl, rfl, rfl, Nat.le_refl _, fun _ _ _ => rfl⟩ : wr.grownBy wr.drew none) HB.out.2.2.1 (by simp)⟩ (fun hHeld => ?_)
      refine wpAnyH_take (i := 0) (oi := { dst := some 26, op := Op.load 52 (Operand.tmp 8), type := 52, pos := "relation.go:166", after := #[], guard := none }) (v := ?_) rfl (by kernel_rfl) (by kernel_rfl) (by kernel_rfl) (fun _ _ _ h => h) (Or.inl ⟨by rfl, ?_⟩) (by assumption) ?_
      rotate_left 1
      · (intro W hSW; (try dsimp only at hSW); first | (go_simp; done) | (go_simp; with_reducible rfl))
      try simp only [Act.put, List.setIfInBounds_toArray, List.set_cons_zero, List.set_cons_succ]
      refine wpAnyH_take (i := 1) (oi := { dst := some 27, op := Op.move (Operand.tmp 10), type := 3, pos := "relation.go:166", after := #[], guard := none }) (v := ?_) rfl (by kernel_rfl) (by kernel_rfl) (by kernel_rfl) (fun _ _ _ h => h) (Or.inl ⟨by rfl, ?_⟩) (by assumption) ?_
      rotate_left 1
      · (intro W hSW; (try dsimp only at hSW); first | (go_simp; done) | (go_simp; with_reducible rfl))
      try simp only [Act.put, List.setIfInBounds_toArray, List.set_cons_zero, List.set_cons_succ]
      refine wpAnyH_take (i := 2) (oi := { dst := some 28, op := Op.load 3 (Operand.tmp 7), type := 3, pos := "relation.go:166", after := #[], guard := none }) (v := ?_) rfl (by kernel_rfl) (by kernel_rfl) (by kernel_rfl) (fun _ _ _ h => h) (Or.inl ⟨by rfl, ?_⟩) (by assumption) ?_
      rotate_left 1
      · (intro W hSW; (try dsimp only at hSW); first | (go_simp; done) | (go_simp; with_reducible rfl))
      try simp only [Act.put, List.setIfInBounds_toArray, List.set_cons_zero, List.set_cons_succ]
      refine wpAnyH_take (i := 3) (oi := { dst := some 29, op := Op.binOp BinOp.quo 3 (Operand.tmp 27) (Operand.tmp 28) 3, type := 3, pos := "relation.go:166", after := #[{ on := 1, ground := Ground.data }, { on := 2, ground := Ground.data }], guard := none }) (v := ?_) rfl (by kernel_rfl) (by kernel_rfl) (by kernel_rfl) (fun _ _ _ h => h) (Or.inl ⟨by rfl, ?_⟩) (by assumption) ?_
      rotate_left 1
      · (intro W hSW; (try dsimp only at hSW); first | (go_simp; done) | (go_simp; with_reducible rfl))
      try simp only [Act.put, List.setIfInBounds_toArray, List.set_cons_zero, List.set_cons_succ]
      refine wpAnyH_ready (rs := [4]) (by kernel_rfl) (by simp) ?_
      refine (AllReadyH.cons (o := { dst := none, op := Op.mapUpdate 52 (Operand.tmp 26) (Operand.tmp 29) (Operand.const (Value.bool true)), type := 0, pos := "relation.go:166", after := #[{ on := 0, ground := Ground.data }, { on := 3, ground := Ground.data }, { on := 0, ground := Ground.phase }, { on := 1, ground := Ground.phase }, { on := 2, ground := Ground.phase }, { on := 3, ground := Ground.phase }], guard := none }) rfl (fun K hK => ?_) AllReadyH.nil)
      refine ready_setM (.tmp 26) (.tmp 29) rfl rfl (W.heap.size + 1) (divL r (ys.take i)) rfl HB.out.1 (by have := HLT.out; omega) (q : Int) rfl (wf64 (by omega) (by have := HQ.out; omega)) (fun w6 hset hgr6 => ?_)
      have hgs := grown_own (World.grownBy.trans HB.out.2.2.2 (⟨rfl, rfl, rfl, Nat.le_refl _, fun _ _ _ => rfl⟩ : wr.grownBy wr.drew none)) hgr6 (fun k hk => by cases hk; omega)
      have hc1 := cell_kept (World.grownBy.cell (⟨rfl, rfl, rfl, Nat.le_refl _, fun _ _ _ => rfl⟩ : wr.grownBy wr.drew none) HB.out.2.1 (by simp)) hgr6 (fun r e => by cases e; obtain ⟨es, ck, hh, _⟩ := HB.out.1.1; exact ⟨_, hh, rfl⟩)
      have hc2 := cell_kept (World.grownBy.cell (⟨rfl, rfl, rfl, Nat.le_refl _, fun _ _ _ => rfl⟩ : wr.grownBy wr.drew none) HB.out.2.2.1 (by simp)) hgr6 (fun r e => by cases e; obtain ⟨es, ck, hh, _⟩ := HB.out.1.1; exact ⟨_, hh, rfl⟩)
      refine hK.out _ _ ⟨hgs, hc1, hc2⟩ (fun hHeld => ?_)
      clear hK K
      try simp only [Act.put]
      refine wpAnyH_done (by kernel_rfl) ?_ _
      have hEND := hgs
      clear hHeld
      have HE := Lib.hid (And.intro hset (And.intro hc1 (And.intro hc2 hEND)))
      clear hset hEND hgr6 hgs hdr hc1 hc2
      go_wp2_with fail
      go_roundg (ly - (i + 1))
      case measure => rw [HI.out]; omega
      case rel => exact ⟨i + 1, rfl, rfl, by omega, by rw [HT.out]; exact HE.out.1, HE.out.2.1, HE.out.2.2.1, HE.out.2.2.2⟩
    · obtain rfl : i = ly := by omega
      have hinB : decide (i < i) = false := by simp
      have hall : ys.take i = ys := List.take_of_length_le (by rw [HXY.out.2.2.2.1]; exact Nat.le_refl _)
      have hset := HB.out.1
      rw [hall] at hset
      have HSET := Lib.hid hset; clear hset hall
      have q1 := HB.out.2.2.2.cell HC.out.2.2.1 (by simp)
      have q0 := HB.out.2.2.2.cell HC.out.2.1 (by simp)
      have HCL := Lib.hid (cloneOwn_calls (smL zs) xa xc wr (by rw [← HXY.out.2.2.2.2.1]; exact HXY.out.1.grown HB.out.2.2.2) (by rw [← HXY.out.2.2.2.2.1, HXY.out.2.2.1]; omega))
      have hzl : (smL zs).length = lx := by rw [← HXY.out.2.2.2.2.1]; exact HXY.out.2.2.1
      have hzl2 : zs.length = lx := by rw [← hzl]; simp [smL]
      rw [hzl] at HCL
      have HZ := Lib.hid hzl2; clear hzl hzl2
      go_wp2_with fail
      clear q1 q0
      refine HCL.out.mono ?_
      rintro e w5 ⟨v', rfl, hown, g5⟩
      have HOWN := Lib.hid (And.intro hown g5); clear hown g5
      have HDL := Lib.hid (delete_calls zs v' wr.heap.size (W.heap.size + 2) W.heap.size (W.heap.size + 1) r (divL r ys) w5 (by rw [HZ.out]; exact HOWN.out.1) ⟨HSET.out.lt, lies_lt HB.out.2.1, lies_lt HB.out.2.2.1⟩ hr1 (by omega) (HSET.out.grown HOWN.out.2 (by simp)) (HOWN.out.2.cell HB.out.2.1 (by simp)) (HOWN.out.2.cell HB.out.2.2.1 (by simp)) (by rw [HZ.out]; omega))
      rw [keep_sm, ← HXY.out.2.2.2.2.1] at HDL
      obtain ⟨K, hK⟩ : ∃ K, keepL r xs ys = K := ⟨_, rfl⟩
      rw [hK] at HDL
      obtain ⟨lk, hlk⟩ : ∃ l, K.length = l := ⟨_, rfl⟩
      rw [hlk] at HDL
      have hklen : lk ≤ 90000 := by rw [← hlk, ← hK]; exact Nat.le_trans (keepL_len r xs ys) (by rw [HXY.out.2.2.1]; omega)
      have HK := Lib.hid (And.intro hK hlk); clear hK hlk
      go_wp2_with fail
      refine HDL.out.mono ?_
      rintro e w6 ⟨ka, kc, rfl, hki, kk, hgk, hkk⟩
      have hg6 : wr.grownBy w6 none := grown_own HOWN.out.2 hgk hkk
      have HKI := Lib.hid (And.intro hki (And.intro hg6 (HB.out.2.2.2.trans hg6)))
      clear hki hgk hkk hg6
      have q0 := HKI.out.2.2.cell HC.out.2.1 (by simp)
      have q1 := HKI.out.2.2.cell HC.out.2.2.2.1 (by simp)
      have q2 := HKI.out.2.2.cell HC.out.2.2.2.2.1 (by simp)
      have HU := Lib.hid (union_calls (k : Int) (j : Int) K ys ka ya kc yc w6 HKI.out.1 (HXY.out.2.1.grown HKI.out.2.2) (by rw [HK.out.2]; omega) (by rw [HXY.out.2.2.2.1]; omega))
      have hov : (unionL K ys).length = p := by rw [← HK.out.1]; exact HXY.out.2.2.2.2.2.2
      rw [HK.out.2, HXY.out.2.2.2.1, hov] at HU
      clear hov
      go_wp2_with fail
      clear q0 q1 q2
      refine (HU.out).mono ?_
      rintro e w3 ⟨a', c', rfl, hi, g3⟩
      have g := World.grownBy.trans HKI.out.2.2 g3
      have m0 := g.cell HC.out.2.2.2.2.2.1 (by simp)
      have m1 := g.cell HC.out.2.2.2.2.2.2.1 (by simp)
      have f0 := (grown_frozen g HC.out.1 0).trans HC.out.2.2.2.2.2.2.2.1
      have f1 := (grown_frozen g HC.out.1 1).trans HC.out.2.2.2.2.2.2.2.2
      have HI3 := Lib.hid hi
      have HG3 := Lib.hid g
      clear hi g
      go_wp2_with fail
      have hret := ret_rel (p := p) (k := (k : Int)) (B := w.heap.size + 2) (HI3.out.wide (by have := HG.out.2; have := HKI.out.2.2.size; omega) (Nat.le_refl _) (Nat.le_refl _)) (by omega) (HG.out.1.trans HG3.out)
      refine bodyPost_ret (results33 _ _ (w.heap.size + 2) a' p c' (k : Int) rfl (by rw [World.cell?_setCell_other _ _ _ _ (by intro e; injection e with _ e; cases e)]; exact World.cell?_setCell_same _ _ _ m0) (World.cell?_setCell_same _ _ _ (by rw [World.cell?_setCell_other _ _ _ _ (by intro e; injection e with _ e; cases e)]; exact m1))) rfl ⟨a', c', rfl, by rw [← HK.out.1] at hret; exact hret⟩
end Go.Proofs.Ytkoigonbncpbaaa

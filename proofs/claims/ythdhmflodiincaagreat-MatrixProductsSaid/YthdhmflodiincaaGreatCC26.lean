/- Texts of the proof: WC WD WE. -/
import Derived.Test.YthdhmflodiincaaGreatCC25
import Derived.Test.YthdhmflodiincaaGreatCC09
set_option maxRecDepth 100000
set_option maxHeartbeats 8000000
namespace Go.Proofs.YthdhmflodiincaaGreat
open Go.RowKit Go.Shelf


attribute [local go_sem] Oper.semAt_some

def meetRow (n r : Nat) (x : Int) (ys : List Int) : List Int := ys.filterMap fun y => if x % (n : Int) = y / (r : Int) then some (x / (n : Int) * (r : Int) + y % (r : Int)) else none
def joinP (n r : Nat) (xs ys : List Int) : List Int := xs.flatMap fun x => meetRow n r x ys
theorem meet_take_yes {n r : Nat} {x y : Int} {ys : List Int} {j : Nat} (h : ys[j]? = some y) (hm : x % (n : Int) = y / (r : Int)) : meetRow n r x (ys.take (j + 1)) = meetRow n r x (ys.take j) ++ [x / (n : Int) * (r : Int) + y % (r : Int)] := by
 unfold meetRow
 rw [List.take_add_one, h, List.filterMap_append]
 simp [hm]
theorem meet_take_no {n r : Nat} {x y : Int} {ys : List Int} {j : Nat} (h : ys[j]? = some y) (hm : ¬ x % (n : Int) = y / (r : Int)) : meetRow n r x (ys.take (j + 1)) = meetRow n r x (ys.take j) := by
 unfold meetRow
 rw [List.take_add_one, h, List.filterMap_append]
 simp [hm]
theorem join_take {n r : Nat} {x : Int} {xs ys : List Int} {i : Nat} (h : xs[i]? = some x) : joinP n r (xs.take (i + 1)) ys = joinP n r (xs.take i) ys ++ meetRow n r x ys := by
 unfold joinP
 rw [List.take_add_one, h]
 simp
theorem meet_prefix {n r : Nat} {x : Int} {ys : List Int} (j : Nat) : meetRow n r x (ys.take j) <+: meetRow n r x ys := by
 refine ⟨meetRow n r x (ys.drop j), ?_⟩
 unfold meetRow
 rw [← List.filterMap_append, List.take_append_drop]
theorem join_prefix {n r : Nat} {xs ys : List Int} (i : Nat) : joinP n r (xs.take i) ys <+: joinP n r xs ys := by
 refine ⟨joinP n r (xs.drop i) ys, ?_⟩
 unfold joinP
 rw [← List.flatMap_append, List.take_append_drop]
theorem meetRow_len (n r : Nat) (x : Int) (ys : List Int) : (meetRow n r x ys).length ≤ ys.length := List.length_filterMap_le _ _
theorem joinP_len (n r : Nat) (ys : List Int) : ∀ xs : List Int, (joinP n r xs ys).length ≤ xs.length * ys.length
 | [] => by simp [joinP]
 | x :: xs => by
  have h := joinP_len n r ys xs
  have h2 := meetRow_len n r x ys
  unfold joinP at h ⊢
  rw [List.flatMap_cons, List.length_append, List.length_cons, Nat.succ_mul]
  omega

def LowM (B0 M : Nat) (Safe : World → Nat → Prop) (w W : World) : Prop := ∀ b, b < B0 ∧ b ≠ M → W.heap[b]? = w.heap[b]? ∧ Safe W b
theorem LowM.saved {B0 M : Nat} {Safe : World → Nat → Prop} {w W W' : World} (h : LowM B0 M Safe w W) (hs : Saved Safe W W') : LowM B0 M Safe w W' := fun b hb => by
 obtain ⟨h1, h2⟩ := h b hb
 obtain ⟨h3, h4⟩ := hs b h2
 exact ⟨h3.trans h1, h4⟩
theorem LowM.grown {α : Type} {B0 M Bq : Nat} {J : List α → World → Prop} {Safe : World → Nat → Prop} {w W W' : World} {s : List α} (h : LowM B0 M Safe w W) (hJ : AbideG Bq J Safe) (hj : J s W) (hg : W.grownBy W' none) (hB : B0 ≤ w.heap.size) : LowM B0 M Safe w W' := fun b hb => by
 obtain ⟨h1, h2⟩ := h b hb
 have hlt : b < W.heap.size := by
  rw [Array.getElem?_eq_getElem (show b < w.heap.size by omega)] at h1
  exact (Array.getElem?_eq_some_iff.1 h1).1
 exact ⟨(hg.block b hlt (by simp)).trans h1, hJ.safe _ _ _ b hj (.of_none hg) h2⟩
theorem LowM.cell {B0 M : Nat} {Safe : World → Nat → Prop} {w W : World} {a : Addr} {v : Value} (h : LowM B0 M Safe w W) (ha : a.block < B0 ∧ a.block ≠ M) (hc : w.cell? a = some v) : W.cell? a = some v :=
 (World.cell?_of_block (h a.block ha).1).trans hc
theorem intsW_span {w : World} {a : Option Addr} {c : Nat} {l : List Int} (h : IntsW w a c l) : Span 0 w.heap.size w (fun W => IntsW W a c l) := ⟨Nat.le_refl _, fun W hW => by
 obtain ⟨hc, h | ⟨b, o, ha, hz⟩⟩ := h
 · exact ⟨hc, .inl h⟩
 · exact ⟨hc, .inr ⟨b, o, ha, fun j z hj => (World.cell?_of_block (hW b (Nat.zero_le _) (lies_lt (hz j z hj)))).trans (hz j z hj)⟩⟩⟩

abbrev oneV (x : Int) : Array Value := #[.int .i64 x]

theorem joined_gives (n j r : Nat) (xs ys : List Int) (xa ya : Option Addr) (xc yc nb bb ab sz M B0 : Nat) (w : World) (hn1 : 1 ≤ n) (hn2 : n ≤ 12) (hj : 1 ≤ j) (hj3 : j ≤ 3) (hr : r = n ^ (j - 1))
  (hsz : sz ≤ B0 ∧ sz ≤ M ∧ B0 ≤ w.heap.size) (hsx : Span 0 sz w (fun W => IntsW W xa xc xs)) (hsy : Span 0 sz w (fun W => IntsW W ya yc ys)) (hbl : (nb < B0 ∧ nb ≠ M) ∧ (bb < B0 ∧ bb ≠ M) ∧ (ab < B0 ∧ ab ≠ M))
  (c0 : w.cell? ⟨nb, 0, none⟩ = some (.int .i64 (n : Int))) (c1 : w.cell? ⟨bb, 0, none⟩ = some (.int .i64 (j : Int))) (c2 : w.cell? ⟨bb, 1, none⟩ = some (.slice ya ys.length yc)) (c3 : w.cell? ⟨ab, 1, none⟩ = some (.slice xa xs.length xc))
  (hl : xs.length ≤ 90000) (hl' : ys.length ≤ 90000) (hx : ∀ x ∈ xs, 0 ≤ x ∧ x ≤ 2000) (hy : ∀ y ∈ ys, 0 ≤ y ∧ y ≤ 2000) :
  GivesG oneV Fence.wide Tryz.prog 89 #[.pointer (some ⟨nb, 0, none⟩), .pointer (some ⟨bb, 0, none⟩), .pointer (some ⟨ab, 0, none⟩)] (fun b => b < B0 ∧ b ≠ M) (joinP n r xs ys) w := by
 intro nn l J Safe hcap hJ hY h0
 obtain ⟨lx, hlx⟩ : ∃ m, xs.length = m := ⟨_, rfl⟩
 obtain ⟨ly, hly⟩ : ∃ m, ys.length = m := ⟨_, rfl⟩
 rw [hlx] at hl c3
 rw [hly] at hl' c2
 have hrB : r ≤ 144 := by
  rw [hr]
  have h1 : n ^ (j - 1) ≤ 12 ^ (j - 1) := Nat.pow_le_pow_left hn2 _
  have h2 : 12 ^ (j - 1) ≤ 12 ^ 2 := Nat.pow_le_pow_right (by omega) (by omega)
  omega
 have hr1 : 1 ≤ r := by rw [hr]; exact Nat.pow_pos (by omega)
 have HPW := Lib.hid (fun (U : World) => relpower_calls n (j - 1) U hn2 (by omega))
 rw [← hr] at HPW
 have HB := Lib.hid hbl
 have HSZ := Lib.hid hsz; clear hsz
 have HXY := Lib.hid (And.intro hsx (And.intro hsy (And.intro hlx (And.intro hly (And.intro hx hy)))))
 have HH := Lib.hid (And.intro hJ (And.intro hY HSZ.out.2.2))
 have hlow : LowM B0 M Safe w w := fun b hb => ⟨rfl, hcap b hb⟩
 have HL := Lib.hid (And.intro hlow h0)
 have HC := Lib.hid (And.intro c0 (And.intro c2 c3))
 clear hsx hsy hlx hly hx hy hJ hY h0 hcap hlow hbl hr
 have hnB : decide ((n : Int) < 1) = false := by simp; omega
 have hnB' : decide (n < 1) = false := by simp; omega
 have hwj : IntKind.i64.wrap ((j : Int) - 1) = ((j - 1 : Nat) : Int) := by rw [IntWalk.i64_in _ (by omega)]; omega
 obtain ⟨j1, hj1⟩ : ∃ z, j - 1 = z := ⟨_, rfl⟩
 rw [hj1] at HPW hwj
 clear hj1
 refine callsIn_of_wp Tryz.func89 rfl trivial ?_ rfl
 simp only [Tryz.ntmps89, List.size_toArray, List.length_cons, List.length_nil, Nat.reduceAdd, Nat.reduceSub, Array.replicate_succ, Array.replicate_zero, List.push_toArray, List.append_toArray, List.nil_append, List.cons_append]
 gi_wp2_with fail
 refine ⟨trivial, fun h => (by cases h), (callsIn_wide.2 (HPW.out _)).mono ?_⟩
 rintro e w2 ⟨rfl, hw2⟩
 rw [hw2]
 clear hw2 w2
 gi_wp2_with fail
 clear c0 c1 c2 c3 hnB hnB' hwj
 gi_loopg [20] lx (fun g s20 wr => ∃ i : Nat, s20 = .int .i64 (i : Int) ∧ g = lx - i ∧ i ≤ lx ∧ J (joinP n r (xs.take i) ys) wr ∧ LowM B0 M Safe w wr)
 case atStart => exact ⟨0, rfl, rfl, Nat.zero_le _, HL.out.2, HL.out.1⟩
 case round =>
  obtain ⟨i, rfl, hgi, hi, hj, hlow⟩ := hrel
  have HI := Lib.hid (And.intro hgi (And.intro hj hlow)); clear hgi hj hlow
  by_cases hin : i < lx
  ·
   have hinB : decide (i < lx) = true := by simpa using hin
   have hinI : (i : Int) < (lx : Int) := by omega
   obtain ⟨z, hz⟩ : ∃ z, xs[i]? = some z := ⟨_, List.getElem?_eq_getElem (by rw [HXY.out.2.2.1]; exact hin)⟩
   have hxi : IntsW wr xa xc xs := HXY.out.1.2 wr (fun b _ hb => (HI.out.2.2 b ⟨by have := HSZ.out; omega, by have := HSZ.out; omega⟩).1)
   obtain ⟨b, o, rfl, hcell0⟩ := hxi.at hz
   have hzb := HXY.out.2.2.2.2.1 z (List.mem_of_getElem? hz)
   obtain ⟨x, rfl⟩ : ∃ x : Nat, z = (x : Int) := ⟨z.toNat, by omega⟩
   have HJT := Lib.hid (join_take (n := n) (r := r) (ys := ys) hz)
   have q2 := HI.out.2.2.cell (a := ⟨bb, 1, none⟩) HB.out.2.1 HC.out.2.1
   clear hxi hz
   gi_wp2_with fail
   clear q2 hcell0
   obtain ⟨wo, rfl⟩ : ∃ wo, wo = wr := ⟨_, rfl⟩
   gi_loopg [27] ly (fun g s27 wr => ∃ t : Nat, s27 = .int .i64 (t : Int) ∧ g = ly - t ∧ t ≤ ly ∧ J (joinP n r (xs.take i) ys ++ meetRow n r (x : Int) (ys.take t)) wr ∧ LowM B0 M Safe w wr)
   case atStart => exact ⟨0, rfl, rfl, Nat.zero_le _, by simpa [meetRow] using HI.out.2.1, HI.out.2.2⟩
   case round =>
    obtain ⟨t, rfl, hgt, ht, hj, hlow⟩ := hrel
    have HT := Lib.hid (And.intro hgt (And.intro hj hlow)); clear hgt hj hlow
    by_cases htn : t < ly
    ·
     have htB : decide (t < ly) = true := by simpa using htn
     have htI : (t : Int) < (ly : Int) := by omega
     obtain ⟨z, hz⟩ : ∃ z, ys[t]? = some z := ⟨_, List.getElem?_eq_getElem (by rw [HXY.out.2.2.2.1]; exact htn)⟩
     have hyi : IntsW wr ya yc ys := HXY.out.2.1.2 wr (fun b _ hb => (HT.out.2.2 b ⟨by have := HSZ.out; omega, by have := HSZ.out; omega⟩).1)
     obtain ⟨b', o', rfl, hcell1⟩ := hyi.at hz
     have hzb' := HXY.out.2.2.2.2.2 z (List.mem_of_getElem? hz)
     obtain ⟨y, rfl⟩ : ∃ y : Nat, z = (y : Int) := ⟨z.toNat, by omega⟩
     have q0 := HT.out.2.2.cell (a := ⟨nb, 0, none⟩) HB.out.1 HC.out.1
     obtain ⟨a1, ha1⟩ : ∃ z, x % n = z := ⟨_, rfl⟩
     obtain ⟨a2, ha2⟩ : ∃ z, y / r = z := ⟨_, rfl⟩
     have e1 : (x : Int) % (n : Int) = (a1 : Int) := by omega
     have e2 : (y : Int) / (r : Int) = (a2 : Int) := by rw [← ha2]; rfl
     have hm1 : (x : Int).tmod (n : Int) = (a1 : Int) := by rw [Int.tmod_eq_emod_of_nonneg (by omega)]; exact e1
     have ha2' : a2 ≤ 2000 := by rw [← ha2]; exact Nat.le_trans (Nat.div_le_self _ _) (by omega)
     have hw2 : IntKind.i64.wrap (a2 : Int) = (a2 : Int) := IntWalk.i64_in _ (by omega)
     have hn0 : n ≠ 0 := by omega
     have hr0 : r ≠ 0 := by omega
     have HZ := Lib.hid hz; clear hz hyi
     by_cases hmt : a1 = a2
     ·
      have hM : (x : Int) % (n : Int) = (y : Int) / (r : Int) := by rw [e1, e2, hmt]
      have hstep := meet_take_yes HZ.out hM
      obtain ⟨q1, hq1⟩ : ∃ z, x / n = z := ⟨_, rfl⟩
      obtain ⟨q2, hq2⟩ : ∃ z, y % r = z := ⟨_, rfl⟩
      obtain ⟨P1, hP1⟩ : ∃ z, q1 * r = z := ⟨_, rfl⟩
      obtain ⟨V, hV⟩ : ∃ z, P1 + q2 = z := ⟨_, rfl⟩
      have f1 : (x : Int) / (n : Int) = (q1 : Int) := by rw [← hq1]; rfl
      have f2 : (y : Int) % (r : Int) = (q2 : Int) := by omega
      have hq1' : q1 ≤ 2000 := by rw [← hq1]; exact Nat.le_trans (Nat.div_le_self _ _) (by omega)
      have hq2' : q2 ≤ 2000 := by rw [← hq2]; exact Nat.le_trans (Nat.mod_le _ _) (by omega)
      have hP1' : P1 ≤ 2000 * 144 := by rw [← hP1]; exact Nat.mul_le_mul hq1' hrB
      have hm2 : (y : Int).tmod (r : Int) = (q2 : Int) := by rw [Int.tmod_eq_emod_of_nonneg (by omega)]; exact f2
      have hw3 : IntKind.i64.wrap (q1 : Int) = (q1 : Int) := IntWalk.i64_in _ (by omega)
      have hw4 : IntKind.i64.wrap ((q1 : Int) * (r : Int)) = (P1 : Int) := by rw [show (q1 : Int) * (r : Int) = (P1 : Int) by rw [← hP1]; simp]; exact IntWalk.i64_in _ (by omega)
      have hw5 : IntKind.i64.wrap ((P1 : Int) + (q2 : Int)) = (V : Int) := by rw [IntWalk.i64_in _ (by omega)]; omega
      rw [f1, f2, show (q1 : Int) * (r : Int) + (q2 : Int) = (V : Int) by rw [← hV, ← hP1]; simp] at hstep
      have HSTEP := Lib.hid hstep
      have hbeq : (decide (a1 = a2)) = true := by simpa using hmt
      have hb2 : ((a1 : Int) == (a2 : Int)) = true := by rw [hmt]; simp
      have hb3 : decide ((a1 : Int) = (a2 : Int)) = true := by rw [hmt]; simp
      have HJD : Hid (J (joinP n r (xs.take i) ys ++ meetRow n r (x : Int) (ys.take t)) wr.drew) := Lib.hid (HH.out.1.keep _ _ _ HT.out.2.1 (.of_none ⟨rfl, rfl, rfl, Nat.le_refl _, fun _ _ _ => rfl⟩))
      obtain ⟨fn, tmps, assign, body, hy, hRI⟩ := HH.out.2.1 _ (V : Int) wr.drew HJD.out (by
       rw [List.append_assoc, ← HSTEP.out]
       refine List.IsPrefix.trans ?_ (join_prefix (i + 1))
       rw [HJT.out]
       exact (List.prefix_append_right_inj _).2 (meet_prefix _))
      simp only [oneV] at hy
      have HRI := Lib.hid hRI; clear hRI hM hstep ha1 ha2 hq1 hq2 hP1 hV e1 f2
      gi_wp2_with fail
      refine wpIn_region_any (by kernel_rfl) ?_
      (try (change wpAnyIn _ _ _ _ _ _ _ _ _ (World.drew _)))
      refine wpAnyIn_take (i := 0) (oi := { dst := some 31, op := Op.move (Operand.tmp 7), type := 3, pos := "relation.go:123", after := #[], guard := none }) (v := ?_) rfl rfl (by kernel_rfl) (by kernel_rfl) (by kernel_rfl) (fun _ _ _ h => h) ⟨Or.inl ⟨by rfl, ?_⟩, fun _ => rfl⟩ ?_
      rotate_left 1
      · (intro W; first | (go_simp; done) | (go_simp; with_reducible rfl))
      try simp only [Act.put, sA, sB, sC]
      refine wpAnyIn_take (i := 3) (oi := { dst := some 34, op := Op.move (Operand.tmp 9), type := 3, pos := "relation.go:123", after := #[], guard := none }) (v := ?_) rfl rfl (by kernel_rfl) (by kernel_rfl) (by kernel_rfl) (fun _ _ _ h => h) ⟨Or.inl ⟨by rfl, ?_⟩, fun _ => rfl⟩ ?_
      rotate_left 1
      · (intro W; first | (go_simp; done) | (go_simp; with_reducible rfl))
      try simp only [Act.put, sA, sB, sC]
      refine wpAnyIn_take (i := 4) (oi := { dst := some 35, op := Op.move (Operand.tmp 5), type := 3, pos := "relation.go:123", after := #[], guard := none }) (v := ?_) rfl rfl (by kernel_rfl) (by kernel_rfl) (by kernel_rfl) (fun _ _ _ h => h) ⟨Or.inl ⟨by rfl, ?_⟩, fun _ => rfl⟩ ?_
      rotate_left 1
      · (intro W; first | (go_simp; done) | (go_simp; with_reducible rfl))
      try simp only [Act.put, sA, sB, sC]
      refine wpAnyIn_take (i := 5) (oi := { dst := some 36, op := Op.binOp BinOp.quo 3 (Operand.tmp 34) (Operand.tmp 35) 3, type := 3, pos := "relation.go:123", after := #[{ on := 3, ground := Ground.data }, { on := 4, ground := Ground.data }], guard := none }) (v := ?_) rfl rfl (by kernel_rfl) (by kernel_rfl) (by kernel_rfl) (fun _ _ _ h => h) ⟨Or.inl ⟨by rfl, ?_⟩, fun _ => rfl⟩ ?_
      rotate_left 1
      · (intro W; first | (go_simp; done) | (go_simp; with_reducible rfl))
      try simp only [Act.put, sA, sB, sC]
      refine wpAnyIn_ready (rs := [1]) (by kernel_rfl) (by simp) ?_
      refine AllReadyIn.cons rfl (fun K hK => ?_) AllReadyIn.nil
      go_simp
      refine hK _ _ ?_
      clear hK K
      try simp only [Act.put, sA, sB, sC]
      refine wpAnyIn_take (i := 2) (oi := { dst := some 33, op := Op.binOp BinOp.rem 3 (Operand.tmp 31) (Operand.tmp 32) 3, type := 3, pos := "relation.go:123", after := #[{ on := 0, ground := Ground.data }, { on := 1, ground := Ground.data }], guard := none }) (v := ?_) rfl rfl (by kernel_rfl) (by kernel_rfl) (by kernel_rfl) (fun _ _ _ h => h) ⟨Or.inl ⟨by rfl, ?_⟩, fun _ => rfl⟩ ?_
      rotate_left 1
      · (intro W; first | (go_simp; done) | (go_simp; with_reducible rfl))
      try simp only [Act.put, sA, sB, sC]
      refine wpAnyIn_take (i := 6) (oi := { dst := some 37, op := Op.binOp BinOp.eql 3 (Operand.tmp 33) (Operand.tmp 36) 3, type := 4, pos := "relation.go:123", after := #[{ on := 2, ground := Ground.data }, { on := 5, ground := Ground.data }], guard := none }) (v := ?_) rfl rfl (by kernel_rfl) (by kernel_rfl) (by kernel_rfl) (fun _ _ _ h => h) ⟨Or.inl ⟨by rfl, ?_⟩, fun _ => rfl⟩ ?_
      rotate_left 1
      · (intro W; first | (go_simp; done) | (go_simp; with_reducible rfl))
      try simp only [Act.put, sA, sB, sC]
      refine wpAnyIn_take (i := 7) (oi := { dst := some 38, op := Op.move (Operand.tmp 37), type := 4, pos := "relation.go:123", after := #[{ on := 6, ground := Ground.data }], guard := none }) (v := ?_) rfl rfl (by kernel_rfl) (by kernel_rfl) (by kernel_rfl) (fun _ _ _ h => h) ⟨Or.inl ⟨by rfl, ?_⟩, fun _ => rfl⟩ ?_
      rotate_left 1
      · (intro W; first | (go_simp; done) | (go_simp; with_reducible rfl))
      try simp only [Act.put, sA, sB, sC]
      refine wpAnyIn_take (i := 8) (oi := { dst := some 39, op := Op.move (Operand.tmp 0), type := 109, pos := "relation.go:123", after := #[{ on := 7, ground := Ground.guard }], guard := some (7, true) }) (v := ?_) rfl rfl (by kernel_rfl) (by kernel_rfl) (by kernel_rfl) (fun _ _ _ h => h) ⟨Or.inl ⟨by rfl, ?_⟩, fun _ => rfl⟩ ?_
      rotate_left 1
      · (intro W; first | (go_simp; done) | (go_simp; with_reducible rfl))
      try simp only [Act.put, sA, sB, sC]
      refine wpAnyIn_take (i := 9) (oi := { dst := some 40, op := Op.move (Operand.tmp 7), type := 3, pos := "relation.go:123", after := #[{ on := 7, ground := Ground.guard }], guard := some (7, true) }) (v := ?_) rfl rfl (by kernel_rfl) (by kernel_rfl) (by kernel_rfl) (fun _ _ _ h => h) ⟨Or.inl ⟨by rfl, ?_⟩, fun _ => rfl⟩ ?_
      rotate_left 1
      · (intro W; first | (go_simp; done) | (go_simp; with_reducible rfl))
      try simp only [Act.put, sA, sB, sC]
      refine wpAnyIn_take (i := 12) (oi := { dst := some 43, op := Op.move (Operand.tmp 5), type := 3, pos := "relation.go:123", after := #[{ on := 7, ground := Ground.guard }], guard := some (7, true) }) (v := ?_) rfl rfl (by kernel_rfl) (by kernel_rfl) (by kernel_rfl) (fun _ _ _ h => h) ⟨Or.inl ⟨by rfl, ?_⟩, fun _ => rfl⟩ ?_
      rotate_left 1
      · (intro W; first | (go_simp; done) | (go_simp; with_reducible rfl))
      try simp only [Act.put, sA, sB, sC]
      refine wpAnyIn_take (i := 14) (oi := { dst := some 45, op := Op.move (Operand.tmp 9), type := 3, pos := "relation.go:123", after := #[{ on := 7, ground := Ground.guard }], guard := some (7, true) }) (v := ?_) rfl rfl (by kernel_rfl) (by kernel_rfl) (by kernel_rfl) (fun _ _ _ h => h) ⟨Or.inl ⟨by rfl, ?_⟩, fun _ => rfl⟩ ?_
      rotate_left 1
      · (intro W; first | (go_simp; done) | (go_simp; with_reducible rfl))
      try simp only [Act.put, sA, sB, sC]
      refine wpAnyIn_take (i := 15) (oi := { dst := some 46, op := Op.move (Operand.tmp 5), type := 3, pos := "relation.go:123", after := #[{ on := 7, ground := Ground.guard }], guard := some (7, true) }) (v := ?_) rfl rfl (by kernel_rfl) (by kernel_rfl) (by kernel_rfl) (fun _ _ _ h => h) ⟨Or.inl ⟨by rfl, ?_⟩, fun _ => rfl⟩ ?_
      rotate_left 1
      · (intro W; first | (go_simp; done) | (go_simp; with_reducible rfl))
      try simp only [Act.put, sA, sB, sC]
      refine wpAnyIn_take (i := 16) (oi := { dst := some 47, op := Op.binOp BinOp.rem 3 (Operand.tmp 45) (Operand.tmp 46) 3, type := 3, pos := "relation.go:123", after := #[{ on := 14, ground := Ground.data }, { on := 15, ground := Ground.data }, { on := 7, ground := Ground.guard }], guard := some (7, true) }) (v := ?_) rfl rfl (by kernel_rfl) (by kernel_rfl) (by kernel_rfl) (fun _ _ _ h => h) ⟨Or.inl ⟨by rfl, ?_⟩, fun _ => rfl⟩ ?_
      rotate_left 1
      · (intro W; first | (go_simp; done) | (go_simp; with_reducible rfl))
      try simp only [Act.put, sA, sB, sC]
      refine wpAnyIn_ready (rs := [10]) (by kernel_rfl) (by simp) ?_
      refine AllReadyIn.cons rfl (fun K hK => ?_) AllReadyIn.nil
      go_simp
      refine hK _ _ ?_
      clear hK K
      try simp only [Act.put, sA, sB, sC]
      refine wpAnyIn_take (i := 11) (oi := { dst := some 42, op := Op.binOp BinOp.quo 3 (Operand.tmp 40) (Operand.tmp 41) 3, type := 3, pos := "relation.go:123", after := #[{ on := 9, ground := Ground.data }, { on := 10, ground := Ground.data }, { on := 7, ground := Ground.guard }], guard := some (7, true) }) (v := ?_) rfl rfl (by kernel_rfl) (by kernel_rfl) (by kernel_rfl) (fun _ _ _ h => h) ⟨Or.inl ⟨by rfl, ?_⟩, fun _ => rfl⟩ ?_
      rotate_left 1
      · (intro W; first | (go_simp; done) | (go_simp; with_reducible rfl))
      try simp only [Act.put, sA, sB, sC]
      refine wpAnyIn_take (i := 13) (oi := { dst := some 44, op := Op.binOp BinOp.mul 3 (Operand.tmp 42) (Operand.tmp 43) 3, type := 3, pos := "relation.go:123", after := #[{ on := 11, ground := Ground.data }, { on := 12, ground := Ground.data }, { on := 7, ground := Ground.guard }], guard := some (7, true) }) (v := ?_) rfl rfl (by kernel_rfl) (by kernel_rfl) (by kernel_rfl) (fun _ _ _ h => h) ⟨Or.inl ⟨by rfl, ?_⟩, fun _ => rfl⟩ ?_
      rotate_left 1
      · (intro W; first | (go_simp; done) | (go_simp; with_reducible rfl))
      try simp only [Act.put, sA, sB, sC]
      refine wpAnyIn_take (i := 17) (oi := { dst := some 48, op := Op.binOp BinOp.add 3 (Operand.tmp 44) (Operand.tmp 47) 3, type := 3, pos := "relation.go:123", after := #[{ on := 13, ground := Ground.data }, { on := 16, ground := Ground.data }, { on := 7, ground := Ground.guard }], guard := some (7, true) }) (v := ?_) rfl rfl (by kernel_rfl) (by kernel_rfl) (by kernel_rfl) (fun _ _ _ h => h) ⟨Or.inl ⟨by rfl, ?_⟩, fun _ => rfl⟩ ?_
      rotate_left 1
      · (intro W; first | (go_simp; done) | (go_simp; with_reducible rfl))
      try simp only [Act.put, sA, sB, sC]
      refine wpAnyIn_ready (rs := [18]) (by kernel_rfl) (by simp) ?_
      refine AllReadyIn.cons rfl (fun K hK => ?_) AllReadyIn.nil
      go_simp
      refine ⟨fun h => (by cases h), ?_⟩
      refine HRI.out.mono ?_
      rintro e W3 ⟨rfl, hJ3, hs3⟩
      have H3 := Lib.hid (And.intro hJ3 (show LowM B0 M Safe w W3 from LowM.saved (HT.out.2.2.grown HH.out.1 HT.out.2.1 (⟨rfl, rfl, rfl, Nat.le_refl _, fun _ _ _ => rfl⟩ : wr.grownBy wr.drew none) HH.out.2.2) hs3))
      clear hJ3 hs3
      refine hK _ _ ?_
      clear hK K
      try simp only [Act.put, sA, sB, sC]
      refine wpAnyIn_take (i := 19) (oi := { dst := some 50, op := Op.unOp UnOp.not 4 (Operand.tmp 49), type := 4, pos := "relation.go:123", after := #[{ on := 18, ground := Ground.data }, { on := 7, ground := Ground.guard }], guard := some (7, true) }) (v := ?_) rfl rfl (by kernel_rfl) (by kernel_rfl) (by kernel_rfl) (fun _ _ _ h => h) ⟨Or.inl ⟨by rfl, ?_⟩, fun _ => rfl⟩ ?_
      rotate_left 1
      · (intro W; first | (go_simp; done) | (go_simp; with_reducible rfl))
      try simp only [Act.put, sA, sB, sC]
      refine wpAnyIn_take (i := 20) (oi := { dst := some 51, op := Op.pick (Operand.tmp 38) (Operand.tmp 50) (Operand.const (Value.bool false)), type := 4, pos := "relation.go:123", after := #[{ on := 7, ground := Ground.data }, { on := 19, ground := Ground.data }], guard := none }) (v := ?_) rfl rfl (by kernel_rfl) (by kernel_rfl) (by kernel_rfl) (fun _ _ _ h => h) ⟨Or.inl ⟨by rfl, ?_⟩, fun _ => rfl⟩ ?_
      rotate_left 1
      · (intro W; first | (go_simp; done) | (go_simp; with_reducible rfl))
      try simp only [Act.put, sA, sB, sC]
      refine wpAnyIn_done (by kernel_rfl) ?_ _
      clear q0 hcell1 hy
      gi_wp2_with fail
      gi_roundg (ly - (t + 1))
      case measure => rw [HT.out.1]; omega
      case rel => exact ⟨t + 1, rfl, rfl, by omega, by rw [HSTEP.out, ← List.append_assoc]; exact H3.out.1, H3.out.2⟩
     ·
      have hM : ¬ (x : Int) % (n : Int) = (y : Int) / (r : Int) := by rw [e1, e2]; omega
      have HSTEP := Lib.hid (meet_take_no HZ.out hM)
      have hbeq : (decide (a1 = a2)) = false := by simpa using hmt
      have hb2 : ((a1 : Int) == (a2 : Int)) = false := by simp; omega
      have hb3 : decide ((a1 : Int) = (a2 : Int)) = false := by simp; omega
      have H3 := Lib.hid (And.intro (HH.out.1.keep _ _ _ HT.out.2.1 (.of_none (⟨rfl, rfl, rfl, Nat.le_refl _, fun _ _ _ => rfl⟩ : wr.grownBy wr.drew none))) (show LowM B0 M Safe w wr.drew from HT.out.2.2.grown HH.out.1 HT.out.2.1 (⟨rfl, rfl, rfl, Nat.le_refl _, fun _ _ _ => rfl⟩ : wr.grownBy wr.drew none) HH.out.2.2))
      clear hM ha1 ha2 e1
      gi_wp2_with fail
      refine wpIn_region_any (by kernel_rfl) ?_
      (try (change wpAnyIn _ _ _ _ _ _ _ _ _ (World.drew _)))
      refine wpAnyIn_take (i := 0) (oi := { dst := some 31, op := Op.move (Operand.tmp 7), type := 3, pos := "relation.go:123", after := #[], guard := none }) (v := ?_) rfl rfl (by kernel_rfl) (by kernel_rfl) (by kernel_rfl) (fun _ _ _ h => h) ⟨Or.inl ⟨by rfl, ?_⟩, fun _ => rfl⟩ ?_
      rotate_left 1
      · (intro W; first | (go_simp; done) | (go_simp; with_reducible rfl))
      try simp only [Act.put, sA, sB, sC]
      refine wpAnyIn_take (i := 3) (oi := { dst := some 34, op := Op.move (Operand.tmp 9), type := 3, pos := "relation.go:123", after := #[], guard := none }) (v := ?_) rfl rfl (by kernel_rfl) (by kernel_rfl) (by kernel_rfl) (fun _ _ _ h => h) ⟨Or.inl ⟨by rfl, ?_⟩, fun _ => rfl⟩ ?_
      rotate_left 1
      · (intro W; first | (go_simp; done) | (go_simp; with_reducible rfl))
      try simp only [Act.put, sA, sB, sC]
      refine wpAnyIn_take (i := 4) (oi := { dst := some 35, op := Op.move (Operand.tmp 5), type := 3, pos := "relation.go:123", after := #[], guard := none }) (v := ?_) rfl rfl (by kernel_rfl) (by kernel_rfl) (by kernel_rfl) (fun _ _ _ h => h) ⟨Or.inl ⟨by rfl, ?_⟩, fun _ => rfl⟩ ?_
      rotate_left 1
      · (intro W; first | (go_simp; done) | (go_simp; with_reducible rfl))
      try simp only [Act.put, sA, sB, sC]
      refine wpAnyIn_take (i := 5) (oi := { dst := some 36, op := Op.binOp BinOp.quo 3 (Operand.tmp 34) (Operand.tmp 35) 3, type := 3, pos := "relation.go:123", after := #[{ on := 3, ground := Ground.data }, { on := 4, ground := Ground.data }], guard := none }) (v := ?_) rfl rfl (by kernel_rfl) (by kernel_rfl) (by kernel_rfl) (fun _ _ _ h => h) ⟨Or.inl ⟨by rfl, ?_⟩, fun _ => rfl⟩ ?_
      rotate_left 1
      · (intro W; first | (go_simp; done) | (go_simp; with_reducible rfl))
      try simp only [Act.put, sA, sB, sC]
      refine wpAnyIn_ready (rs := [1]) (by kernel_rfl) (by simp) ?_
      refine AllReadyIn.cons rfl (fun K hK => ?_) AllReadyIn.nil
      go_simp
      refine hK _ _ ?_
      clear hK K
      try simp only [Act.put, sA, sB, sC]
      refine wpAnyIn_take (i := 2) (oi := { dst := some 33, op := Op.binOp BinOp.rem 3 (Operand.tmp 31) (Operand.tmp 32) 3, type := 3, pos := "relation.go:123", after := #[{ on := 0, ground := Ground.data }, { on := 1, ground := Ground.data }], guard := none }) (v := ?_) rfl rfl (by kernel_rfl) (by kernel_rfl) (by kernel_rfl) (fun _ _ _ h => h) ⟨Or.inl ⟨by rfl, ?_⟩, fun _ => rfl⟩ ?_
      rotate_left 1
      · (intro W; first | (go_simp; done) | (go_simp; with_reducible rfl))
      try simp only [Act.put, sA, sB, sC]
      refine wpAnyIn_take (i := 6) (oi := { dst := some 37, op := Op.binOp BinOp.eql 3 (Operand.tmp 33) (Operand.tmp 36) 3, type := 4, pos := "relation.go:123", after := #[{ on := 2, ground := Ground.data }, { on := 5, ground := Ground.data }], guard := none }) (v := ?_) rfl rfl (by kernel_rfl) (by kernel_rfl) (by kernel_rfl) (fun _ _ _ h => h) ⟨Or.inl ⟨by rfl, ?_⟩, fun _ => rfl⟩ ?_
      rotate_left 1
      · (intro W; first | (go_simp; done) | (go_simp; with_reducible rfl))
      try simp only [Act.put, sA, sB, sC]
      refine wpAnyIn_take (i := 7) (oi := { dst := some 38, op := Op.move (Operand.tmp 37), type := 4, pos := "relation.go:123", after := #[{ on := 6, ground := Ground.data }], guard := none }) (v := ?_) rfl rfl (by kernel_rfl) (by kernel_rfl) (by kernel_rfl) (fun _ _ _ h => h) ⟨Or.inl ⟨by rfl, ?_⟩, fun _ => rfl⟩ ?_
      rotate_left 1
      · (intro W; first | (go_simp; done) | (go_simp; with_reducible rfl))
      try simp only [Act.put, sA, sB, sC]
      refine wpAnyIn_take (i := 8) (oi := { dst := some 39, op := Op.move (Operand.tmp 0), type := 109, pos := "relation.go:123", after := #[{ on := 7, ground := Ground.guard }], guard := some (7, true) }) (v := undef) rfl rfl (by kernel_rfl) (by kernel_rfl) (by kernel_rfl) (fun _ _ _ h => h) ⟨Or.inr ⟨by rfl, rfl⟩, fun _ => rfl⟩ ?_
      try simp only [Act.put, sA, sB, sC]
      refine wpAnyIn_take (i := 9) (oi := { dst := some 40, op := Op.move (Operand.tmp 7), type := 3, pos := "relation.go:123", after := #[{ on := 7, ground := Ground.guard }], guard := some (7, true) }) (v := undef) rfl rfl (by kernel_rfl) (by kernel_rfl) (by kernel_rfl) (fun _ _ _ h => h) ⟨Or.inr ⟨by rfl, rfl⟩, fun _ => rfl⟩ ?_
      try simp only [Act.put, sA, sB, sC]
      refine wpAnyIn_take (i := 10) (oi := { dst := some 41, op := Op.load 3 (Operand.tmp 1), type := 3, pos := "relation.go:123", after := #[{ on := 7, ground := Ground.guard }], guard := some (7, true) }) (v := undef) rfl rfl (by kernel_rfl) (by kernel_rfl) (by kernel_rfl) (fun _ _ _ h => h) ⟨Or.inr ⟨by rfl, rfl⟩, fun _ => rfl⟩ ?_
      try simp only [Act.put, sA, sB, sC]
      refine wpAnyIn_take (i := 11) (oi := { dst := some 42, op := Op.binOp BinOp.quo 3 (Operand.tmp 40) (Operand.tmp 41) 3, type := 3, pos := "relation.go:123", after := #[{ on := 9, ground := Ground.data }, { on := 10, ground := Ground.data }, { on := 7, ground := Ground.guard }], guard := some (7, true) }) (v := undef) rfl rfl (by kernel_rfl) (by kernel_rfl) (by kernel_rfl) (fun _ _ _ h => h) ⟨Or.inr ⟨by rfl, rfl⟩, fun _ => rfl⟩ ?_
      try simp only [Act.put, sA, sB, sC]
      refine wpAnyIn_take (i := 12) (oi := { dst := some 43, op := Op.move (Operand.tmp 5), type := 3, pos := "relation.go:123", after := #[{ on := 7, ground := Ground.guard }], guard := some (7, true) }) (v := undef) rfl rfl (by kernel_rfl) (by kernel_rfl) (by kernel_rfl) (fun _ _ _ h => h) ⟨Or.inr ⟨by rfl, rfl⟩, fun _ => rfl⟩ ?_
      try simp only [Act.put, sA, sB, sC]
      refine wpAnyIn_take (i := 13) (oi := { dst := some 44, op := Op.binOp BinOp.mul 3 (Operand.tmp 42) (Operand.tmp 43) 3, type := 3, pos := "relation.go:123", after := #[{ on := 11, ground := Ground.data }, { on := 12, ground := Ground.data }, { on := 7, ground := Ground.guard }], guard := some (7, true) }) (v := undef) rfl rfl (by kernel_rfl) (by kernel_rfl) (by kernel_rfl) (fun _ _ _ h => h) ⟨Or.inr ⟨by rfl, rfl⟩, fun _ => rfl⟩ ?_
      try simp only [Act.put, sA, sB, sC]
      refine wpAnyIn_take (i := 14) (oi := { dst := some 45, op := Op.move (Operand.tmp 9), type := 3, pos := "relation.go:123", after := #[{ on := 7, ground := Ground.guard }], guard := some (7, true) }) (v := undef) rfl rfl (by kernel_rfl) (by kernel_rfl) (by kernel_rfl) (fun _ _ _ h => h) ⟨Or.inr ⟨by rfl, rfl⟩, fun _ => rfl⟩ ?_
      try simp only [Act.put, sA, sB, sC]
      refine wpAnyIn_take (i := 15) (oi := { dst := some 46, op := Op.move (Operand.tmp 5), type := 3, pos := "relation.go:123", after := #[{ on := 7, ground := Ground.guard }], guard := some (7, true) }) (v := undef) rfl rfl (by kernel_rfl) (by kernel_rfl) (by kernel_rfl) (fun _ _ _ h => h) ⟨Or.inr ⟨by rfl, rfl⟩, fun _ => rfl⟩ ?_
      try simp only [Act.put, sA, sB, sC]
      refine wpAnyIn_take (i := 16) (oi := { dst := some 47, op := Op.binOp BinOp.rem 3 (Operand.tmp 45) (Operand.tmp 46) 3, type := 3, pos := "relation.go:123", after := #[{ on := 14, ground := Ground.data }, { on := 15, ground := Ground.data }, { on := 7, ground := Ground.guard }], guard := some (7, true) }) (v := undef) rfl rfl (by kernel_rfl) (by kernel_rfl) (by kernel_rfl) (fun _ _ _ h => h) ⟨Or.inr ⟨by rfl, rfl⟩, fun _ => rfl⟩ ?_
      try simp only [Act.put, sA, sB, sC]
      refine wpAnyIn_take (i := 17) (oi := { dst := some 48, op := Op.binOp BinOp.add 3 (Operand.tmp 44) (Operand.tmp 47) 3, type := 3, pos := "relation.go:123", after := #[{ on := 13, ground := Ground.data }, { on := 16, ground := Ground.data }, { on := 7, ground := Ground.guard }], guard := some (7, true) }) (v := undef) rfl rfl (by kernel_rfl) (by kernel_rfl) (by kernel_rfl) (fun _ _ _ h => h) ⟨Or.inr ⟨by rfl, rfl⟩, fun _ => rfl⟩ ?_
      try simp only [Act.put, sA, sB, sC]
      refine wpAnyIn_take (i := 18) (oi := { dst := some 49, op := Op.call { callee := Callee.value (Operand.tmp 39), args := #[Operand.tmp 48], argTypes := #[3] }, type := 4, pos := "relation.go:123", after := #[{ on := 8, ground := Ground.data }, { on := 17, ground := Ground.data }, { on := 7, ground := Ground.chain }, { on := 7, ground := Ground.guard }], guard := some (7, true) }) (v := undef) rfl rfl (by kernel_rfl) (by kernel_rfl) (by kernel_rfl) (fun _ _ _ h => h) ⟨Or.inr ⟨by rfl, rfl⟩, fun _ => rfl⟩ ?_
      try simp only [Act.put, sA, sB, sC]
      refine wpAnyIn_take (i := 19) (oi := { dst := some 50, op := Op.unOp UnOp.not 4 (Operand.tmp 49), type := 4, pos := "relation.go:123", after := #[{ on := 18, ground := Ground.data }, { on := 7, ground := Ground.guard }], guard := some (7, true) }) (v := undef) rfl rfl (by kernel_rfl) (by kernel_rfl) (by kernel_rfl) (fun _ _ _ h => h) ⟨Or.inr ⟨by rfl, rfl⟩, fun _ => rfl⟩ ?_
      try simp only [Act.put, sA, sB, sC]
      refine wpAnyIn_take (i := 20) (oi := { dst := some 51, op := Op.pick (Operand.tmp 38) (Operand.tmp 50) (Operand.const (Value.bool false)), type := 4, pos := "relation.go:123", after := #[{ on := 7, ground := Ground.data }, { on := 19, ground := Ground.data }], guard := none }) (v := ?_) rfl rfl (by kernel_rfl) (by kernel_rfl) (by kernel_rfl) (fun _ _ _ h => h) ⟨Or.inl ⟨by rfl, ?_⟩, fun _ => rfl⟩ ?_
      rotate_left 1
      · (intro W; first | (go_simp; done) | (go_simp; with_reducible rfl))
      try simp only [Act.put, sA, sB, sC]
      refine wpAnyIn_done (by kernel_rfl) ?_ _
      clear q0 hcell1
      gi_wp2_with fail
      gi_roundg (ly - (t + 1))
      case measure => rw [HT.out.1]; omega
      case rel => exact ⟨t + 1, rfl, rfl, by omega, by rw [HSTEP.out]; exact H3.out.1, H3.out.2⟩
    ·
     obtain rfl : t = ly := by omega
     have htB : decide (t < t) = false := by simp
     have hall : ys.take t = ys := List.take_of_length_le (by rw [HXY.out.2.2.2.1]; exact Nat.le_refl _)
     have HJJ : Hid (J (joinP n r (xs.take (i + 1)) ys) wr) := Lib.hid (by
      have := HT.out.2.1
      rw [hall] at this
      rw [HJT.out]; exact this)
     gi_wp2_with fail
     gi_roundg (lx - (i + 1))
     case measure => rw [HI.out.1]; omega
     case rel => exact ⟨i + 1, rfl, rfl, by omega, HJJ.out, HT.out.2.2⟩
  ·
   obtain rfl : i = lx := by omega
   have hinB : decide (i < i) = false := by simp
   have HJJ : Hid (J (joinP n r xs ys) wr) := Lib.hid (by
    have := HI.out.2.1
    rw [List.take_of_length_le (by rw [HXY.out.2.2.1]; exact Nat.le_refl _)] at this
    exact this)
   gi_wp2_with fail
   go_end0
   exact ⟨⟨_, rfl⟩, HJJ.out⟩


attribute [local go_sem] Oper.semAt_some

theorem joined_calls (n : Int) (k j : Int) (xa ya : Option Addr) (lx ly xc yc : Nat) (w : World) :
  Calls Tryz.prog 56 #[.int .i64 n, .agg #[.int .i64 k, .slice xa lx xc], .agg #[.int .i64 j, .slice ya ly yc]] w fun e w' =>
   e = .returned (.func (.func 89) #[] #[.pointer (some ⟨w.heap.size, 0, none⟩), .pointer (some ⟨w.heap.size + 2, 0, none⟩), .pointer (some ⟨w.heap.size + 1, 0, none⟩)]) ∧
   w' = ((w.alloc (.cells #[.int .i64 n] 3)).alloc (.cells #[.int .i64 k, .slice xa lx xc] 40)).alloc (.cells #[.int .i64 j, .slice ya ly yc] 40) := by
 go_enter Tryz.func56, Tryz.ntmps56
 go_wp2
 go_ret
 exact ⟨rfl, rfl⟩
theorem joined_cells (n : Int) (k j : Int) (xa ya : Option Addr) (lx ly xc yc : Nat) (w : World) :
  (((w.alloc (.cells #[.int .i64 n] 3)).alloc (.cells #[.int .i64 k, .slice xa lx xc] 40)).alloc (.cells #[.int .i64 j, .slice ya ly yc] 40)).cell? ⟨w.heap.size, 0, none⟩ = some (.int .i64 n) ∧
  (((w.alloc (.cells #[.int .i64 n] 3)).alloc (.cells #[.int .i64 k, .slice xa lx xc] 40)).alloc (.cells #[.int .i64 j, .slice ya ly yc] 40)).cell? ⟨w.heap.size + 2, 0, none⟩ = some (.int .i64 j) ∧
  (((w.alloc (.cells #[.int .i64 n] 3)).alloc (.cells #[.int .i64 k, .slice xa lx xc] 40)).alloc (.cells #[.int .i64 j, .slice ya ly yc] 40)).cell? ⟨w.heap.size + 2, 1, none⟩ = some (.slice ya ly yc) ∧
  (((w.alloc (.cells #[.int .i64 n] 3)).alloc (.cells #[.int .i64 k, .slice xa lx xc] 40)).alloc (.cells #[.int .i64 j, .slice ya ly yc] 40)).cell? ⟨w.heap.size + 1, 1, none⟩ = some (.slice xa lx xc) ∧
  (((w.alloc (.cells #[.int .i64 n] 3)).alloc (.cells #[.int .i64 k, .slice xa lx xc] 40)).alloc (.cells #[.int .i64 j, .slice ya ly yc] 40)).heap.size = w.heap.size + 3 := by
 refine ⟨by go_simp, by go_simp, by go_simp, by go_simp, by simp⟩

theorem relresz14 (tmps : Array Value) (w : World) (b : Nat) (a : Option Addr) (n c : Nat) (x e : Int) (ht : tmps.getD 6 undef = .pointer (some ⟨b, 0, none⟩)) (he : tmps.getD 7 undef = .int .i64 e) (h0 : w.cell? ⟨b, 0, none⟩ = some (.int .i64 x)) (h1 : w.cell? ⟨b, 1, none⟩ = some (.slice a n c)) :
  (results Tryz.f14 tmps).run Tryz.prog w = .ok (.tuple #[.agg #[.int .i64 x, .slice a n c], .int .i64 e]) w := by
 have ht' : tmps[6]?.getD undef = .pointer (some ⟨b, 0, none⟩) := by simpa using ht
 have he' : tmps[7]?.getD undef = .int .i64 e := by simpa using he
 simp [results, ht', he', go_sem, h0, h1, Result.andThen]

structure JoinI (W0 : World) (M : Nat) (s : List Int) (W : World) : Prop where
 set : SetM W M s
 wf : ∀ x ∈ s, (Lit.int .i64 x).wf = true
 box : W.cell? ⟨M + 1, 0, none⟩ = some (.map (some M))
 grown : W0.grownBy W none
 low : W0.heap.size ≤ M
def JoinS (M : Nat) (W : World) (b : Nat) : Prop := b < W.heap.size ∧ b ≠ M
theorem joinI_abide (W0 : World) (M B : Nat) (hB : M < B) (hB0 : W0.heap.size ≤ B) : AbideG B (JoinI W0 M) (JoinS M) := by
 refine ⟨?_, ?_, ?_⟩
 ·
  rintro s A A' h ⟨row, hg, hr⟩
  exact ⟨h.set.grown hg (fun e => by have := (hr _ e.symm).1; omega), h.wf, Quiet.cell ⟨row, hg, hr⟩ h.box, grown_own h.grown hg (fun k hk => by have := (hr _ hk).1; omega), h.low⟩
 ·
  rintro s A A' b h ⟨row, hg, hr⟩ ⟨h1, h2⟩
  exact ⟨Nat.lt_of_lt_of_le h1 hg.size, h2⟩
 ·
  rintro s A A' b h ⟨row, hg, hr⟩ h1 h2
  have := h.set.lt
  exact ⟨h2, by omega⟩


attribute [local go_sem] Oper.semAt_some

theorem join_span (n k j : Nat) (xs ys : List Int) (xa ya : Option Addr) (xc yc : Nat) (w : World) (h : IntsW w xa xc xs) (h' : IntsW w ya yc ys) (hl : xs.length ≤ 300) (hl' : ys.length ≤ 300) (hn1 : 1 ≤ n) (hn2 : n ≤ 12) (hj : 1 ≤ j) (hj3 : j ≤ 3) (hkj : 3 ≤ k + j) (hkj2 : k + j ≤ 5)
  (hx : ∀ x ∈ xs, 0 ≤ x ∧ x ≤ 2000) (hy : ∀ y ∈ ys, 0 ≤ y ∧ y ≤ 2000) (hwf : ∀ v ∈ joinP n (n ^ (j - 1)) xs ys, (Lit.int .i64 v).wf = true) :
  Calls Tryz.prog 14 #[.int .i64 (n : Int), .agg #[.int .i64 (k : Int), .slice xa xs.length xc], .agg #[.int .i64 (j : Int), .slice ya ys.length yc]] w fun e w' => ∃ a c, e = .returned (.tuple #[.agg #[.int .i64 ((k + j - 2 : Nat) : Int), .slice a (uniq (joinP n (n ^ (j - 1)) xs ys)).length c], .int .i64 0]) ∧ Span w.heap.size w'.heap.size w' (fun W => IntsW W a c (uniq (joinP n (n ^ (j - 1)) xs ys))) ∧ w.grownBy w' none := by
 have hxw := intsW_span h
 have hyw := intsW_span h'
 obtain ⟨lx, hnx⟩ : ∃ l, xs.length = l := ⟨_, rfl⟩
 obtain ⟨ly, hny⟩ : ∃ l, ys.length = l := ⟨_, rfl⟩
 rw [hnx, hny]
 obtain ⟨S, hS⟩ : ∃ S, k + j = S := ⟨_, rfl⟩
 obtain ⟨A, hA⟩ : ∃ A : Int, (S : Int) - 2 = A := ⟨_, rfl⟩
 have hwS : IntKind.i64.wrap ((k : Int) + (j : Int)) = (S : Int) := by rw [IntWalk.i64_in _ (by omega)]; omega
 have hwA : IntKind.i64.wrap ((S : Int) - 2) = A := by rw [IntWalk.i64_in _ (by omega)]; omega
 have hg1 := gAl w (.cells #[.int .i64 (k : Int), .slice xa lx xc] 40) none
 have hg2 := gAl (w.alloc (.cells #[.int .i64 (k : Int), .slice xa lx xc] 40)) (.cells #[.int .i64 (j : Int), .slice ya ly yc] 40) none
 have hg3 := gAl ((w.alloc (.cells #[.int .i64 (k : Int), .slice xa lx xc] 40)).alloc (.cells #[.int .i64 (j : Int), .slice ya ly yc] 40)) (.cells #[.int .i64 0, .slice none 0 0] 40) none
 have hg := (hg1.trans hg2).trans hg3
 have hc := six_cells w (.int .i64 (k : Int)) (.slice xa lx xc) (.int .i64 (j : Int)) (.slice ya ly yc) (.int .i64 0) (.slice none 0 0) 40 40 40
 have hsz : (((w.alloc (.cells #[.int .i64 (k : Int), .slice xa lx xc] 40)).alloc (.cells #[.int .i64 (j : Int), .slice ya ly yc] 40)).alloc (.cells #[.int .i64 0, .slice none 0 0] 40)).heap.size = w.heap.size + 3 := by simp
 obtain ⟨W, hW⟩ : ∃ W, ((w.alloc (.cells #[.int .i64 (k : Int), .slice xa lx xc] 40)).alloc (.cells #[.int .i64 (j : Int), .slice ya ly yc] 40)).alloc (.cells #[.int .i64 0, .slice none 0 0] 40) = W := ⟨_, rfl⟩
 rw [hW] at hg hc hsz
 have HG := Lib.hid (And.intro hg hsz)
 have HC := Lib.hid hc
 clear hg hg1 hg2 hg3 hsz
 obtain ⟨hlt, c0, c1, d0, d1, e0, e1, ef0, ef1⟩ := hc
 have hAe : A = ((k + j - 2 : Nat) : Int) := by omega
 rw [← hAe]
 clear hAe
 have hlt1 : decide ((A : Int) < 1) = false := by simp; omega
 have hgt : decide (3 < (A : Int)) = false := by simp; omega
 obtain ⟨r, hr⟩ : ∃ r, n ^ (j - 1) = r := ⟨_, rfl⟩
 rw [hr] at hwf ⊢
 obtain ⟨p, hp⟩ : ∃ p, (uniq (joinP n r xs ys)).length = p := ⟨_, rfl⟩
 rw [hp]
 have HP := Lib.hid hp; clear hp
 have hjl := joinP_len n r ys xs
 rw [hnx, hny] at hjl
 have hjl2 : lx * ly ≤ 300 * 300 := Nat.mul_le_mul (by omega) (by omega)
 have HJL := Lib.hid (Nat.le_trans hjl hjl2)
 have HWF := Lib.hid hwf
 clear hwf hjl hjl2
 have hga := gAl W (.map #[] 0) none
 have hnew := SetM.new W
 have hmm := @run_makeMap Tryz.prog
 obtain ⟨W2, hW2⟩ : ∃ W2, W.alloc (.map #[] 0) = W2 := ⟨_, rfl⟩
 have hs2 : W2.heap.size = W.heap.size + 1 := by rw [← hW2]; simp
 rw [hW2] at hga hnew
 have hgb := gAl W2 (.cells #[.map (some W.heap.size)] 90) none
 have hbox : (W2.alloc (.cells #[.map (some W.heap.size)] 90)).cell? ⟨W2.heap.size, 0, none⟩ = some (.map (some W.heap.size)) := by go_simp
 obtain ⟨W3, hW3⟩ : ∃ W3, W2.alloc (.cells #[.map (some W.heap.size)] 90) = W3 := ⟨_, rfl⟩
 have hs3 : W3.heap.size = W.heap.size + 2 := by rw [← hW3]; simp; omega
 rw [hW3] at hgb hbox
 have HS := Lib.hid (And.intro hs2 hs3)
 have HW3 := Lib.hid (And.intro (hga.trans hgb) (And.intro (hnew.grown hgb (by simp)) hbox))
 have k0 := HW3.out.1.cell c0 (by simp)
 have k1 := HW3.out.1.cell c1 (by simp)
 have kd0 := HW3.out.1.cell d0 (by simp)
 have kd1 := HW3.out.1.cell d1 (by simp)
 clear hga hgb hnew hbox
 have HXY := Lib.hid (And.intro hxw (And.intro hyw (And.intro hnx (And.intro hny (And.intro hx hy)))))
 clear hxw hyw hx hy h h'
 refine (callsIn_wide (n := 3)).1 ?_
 refine callsIn_of_wp_marks Tryz.func14 rfl trivial ?_ rfl
 simp only [Tryz.ntmps14, List.size_toArray, List.length_cons, List.length_nil, Nat.reduceAdd, Nat.reduceSub, Array.replicate_succ, Array.replicate_zero, List.push_toArray, List.append_toArray, List.nil_append, List.cons_append]
 refine wpIn_wide.2 ?_
 go_wp2_with fail
 refine (joined_calls _ _ _ _ _ _ _ _ _ W3).mono ?_
 rintro e w6 ⟨rfl, hw6⟩
 have hc6 := joined_cells (n : Int) (k : Int) (j : Int) xa ya lx ly xc yc W3
 have g6 : W3.grownBy w6 none := by rw [hw6]; exact ((gAl _ _ none).trans (gAl _ _ none)).trans (gAl _ _ none)
 rw [← hw6, hs3] at hc6
 have HC6 := Lib.hid (And.intro hc6 g6)
 clear hw6 hc6 g6 hmm hW hW2 hW3 k0 k1 kd0 kd1 c0 c1 d0 d1 e0 e1 ef0 ef1 hlt1 hgt hwS hwA
 go_wp2_with fail
 have HIN : Hid (JoinI W W.heap.size [] w6) := Lib.hid ⟨HW3.out.2.1.grown HC6.out.2 (by simp), (fun x hx => by cases hx), by have := HC6.out.2.cell HW3.out.2.2 (by simp); rw [HS.out.1] at this; exact this, HW3.out.1.trans HC6.out.2, Nat.le_refl _⟩
 refine wpIn_wide.1 (rangeYesG (n := 3) (vals := oneV) (gf := 89) (lb := #[.pointer (some ⟨W.heap.size + 2, 0, none⟩), .pointer (some ⟨W.heap.size + 2 + 2, 0, none⟩), .pointer (some ⟨W.heap.size + 2 + 1, 0, none⟩)]) rfl rfl rfl trivial (enters_of Tryz.func89 (by kernel_rfl) rfl) (fun _ => rfl)
  (caps := fun b => b < w6.heap.size ∧ b ≠ W.heap.size) (xs := joinP n r xs ys) (fun U g => joined_gives n j r xs ys xa ya xc yc (W.heap.size + 2) (W.heap.size + 2 + 2) (W.heap.size + 2 + 1) w.heap.size W.heap.size w6.heap.size U hn1 hn2 hj hj3 hr.symm
   ⟨by have := HG.out.2; have := HS.out.2; have := HC6.out.1.2.2.2.2; omega, by have := HG.out.2; omega, g.size⟩ (((HXY.out.1.grown HG.out.1).grown (HW3.out.1.trans HC6.out.2)).grown g) (((HXY.out.2.1.grown HG.out.1).grown (HW3.out.1.trans HC6.out.2)).grown g)
   ⟨⟨by have := HC6.out.1.2.2.2.2; omega, by have := HS.out.2; omega⟩, ⟨by have := HC6.out.1.2.2.2.2; omega, by have := HS.out.2; omega⟩, ⟨by have := HC6.out.1.2.2.2.2; omega, by have := HS.out.2; omega⟩⟩
   (g.cell HC6.out.1.1 (by simp)) (g.cell HC6.out.1.2.1 (by simp)) (by rw [HXY.out.2.2.2.1]; exact g.cell HC6.out.1.2.2.1 (by simp)) (by rw [HXY.out.2.2.1]; exact g.cell HC6.out.1.2.2.2.1 (by simp)) (by rw [HXY.out.2.2.1]; omega) (by rw [HXY.out.2.2.2.1]; omega) HXY.out.2.2.2.2.1 HXY.out.2.2.2.2.2)
  (JoinI W W.heap.size) (JoinS W.heap.size) (joinI_abide W W.heap.size _ (by have := HS.out.2; have := HC6.out.1.2.2.2.2; omega) (by have := HS.out.2; have := HC6.out.1.2.2.2.2; omega)) (fun b hb => hb) HIN.out ?round ?done)
 case round =>
  intro l' pre x V hF hpre
  have HPL := Lib.hid (show pre.length ≤ 100000 by
   have h1 := hpre.length_le
   have h2 := HJL.out
   simp only [List.length_append, List.length_cons, List.length_nil] at h1
   omega)
  have HXW := Lib.hid (HWF.out x (hpre.subset (by simp)))
  clear hF hpre
  simp only [oneV]
  gi_wp2
  refine ⟨trivial, fun W2 hF2 => ?_⟩
  have hb := hF2.box
  have HF2 := Lib.hid hF2; clear hF2
  have hlt2 := HF2.out.set.lt
  gi_wp2_with (gi_at_mapUpdate; refine wpListIn_mapUpdate_own _ rfl _ _ _ 90 rfl 3 4 (Maps.int_keyed Tryz.underlying3) Tryz.underlying90 _ W.heap.size pre.length _ rfl HF2.out.set.1 (by have := HPL.out; unfold maxLen; omega) _ _ _ rfl rfl (Maps.keyOf_int_mk Tryz.underlying3 HXW.out) _ [] (plainElem_bool Tryz.underlying4 true) ?_; intro w1 hown1 hgrow1)
  refine ⟨⟨⟨?_, ?_⟩, ?_, cell_kept hb hgrow1 (fun r e => by cases e; obtain ⟨es, ck, hh, _⟩ := HF2.out.set.1; exact ⟨_, hh, rfl⟩), grown_own HF2.out.grown hgrow1 (fun k hk => by cases hk; exact Nat.le_refl _), Nat.le_refl _⟩, fun b hb => ⟨hgrow1.block b hb.1 (by simp [hb.2]), Nat.lt_of_lt_of_le hb.1 hgrow1.size, hb.2⟩⟩
  ·
   rw [List.map_append, List.map_singleton, Maps.setOf_snoc, List.length_append]
   exact hown1
  all_goals
   intro z hz
   rcases List.mem_append.1 hz with hz | hz
   · exact HF2.out.wf z hz
   · rw [List.mem_singleton.1 hz]; exact HXW.out
 case done =>
  intro D V hD hF hsD hdef
  have hb := hF.box
  have HF := Lib.hid (And.intro hF (And.intro hsD (And.intro hdef hD)))
  clear hF hsD hdef hD
  have HFS := Lib.hid (fromSet_calls A W.heap.size (joinP n r xs ys) V HF.out.1.set (by have := HJL.out; omega))
  rw [HP.out] at HFS
  go_wp2_with fail
  refine HFS.out.mono ?_
  rintro e w8 ⟨a', c', rfl, hi, g8⟩
  have g := HF.out.1.grown.trans g8
  have m0 := g.cell HC.out.2.2.2.2.2.1 (by simp)
  have m1 := g.cell HC.out.2.2.2.2.2.2.1 (by simp)
  have f0 := (grown_frozen g HC.out.1 0).trans HC.out.2.2.2.2.2.2.2.1
  have f1 := (grown_frozen g HC.out.1 1).trans HC.out.2.2.2.2.2.2.2.2
  have HI := Lib.hid hi
  have HG8 := Lib.hid (And.intro g8 g)
  clear hi g8 g
  go_wp2_with fail
  have hDV : D < V.heap.size := HF.out.2.1.1
  have hDlow : w.heap.size + 3 ≤ D := by have h1 := HF.out.2.2.2; have h2 := HC6.out.2.size; have h3 := HW3.out.1.size; have h4 := HG.out.2; omega
  have hd8 : w8.heap[D]? = some (.deferred (some [])) := (HG8.out.1.block D hDV (by simp)).trans HF.out.2.2.1
  have hne : D ≠ w.heap.size + 2 := by omega
  have hdX : ((w8.setCell ⟨w.heap.size + 2, 0, none⟩ (.int .i64 A)).setCell ⟨w.heap.size + 2, 1, none⟩ (.slice a' p c')).heap[D]? = some (.deferred (some [])) :=
   ((Below.heap_setCell _ _ _ _ hne).trans (Below.heap_setCell _ _ _ _ hne)).trans hd8
  have hx0 : ((w8.setCell ⟨w.heap.size + 2, 0, none⟩ (.int .i64 A)).setCell ⟨w.heap.size + 2, 1, none⟩ (.slice a' p c')).cell? ⟨w.heap.size + 2, 0, none⟩ = some (.int .i64 A) := by
   rw [World.cell?_setCell_other _ _ _ _ (by intro e; injection e with _ e; cases e)]; exact World.cell?_setCell_same _ _ _ m0
  have hx1 : ((w8.setCell ⟨w.heap.size + 2, 0, none⟩ (.int .i64 A)).setCell ⟨w.heap.size + 2, 1, none⟩ (.slice a' p c')).cell? ⟨w.heap.size + 2, 1, none⟩ = some (.slice a' p c') :=
   World.cell?_setCell_same _ _ _ (by rw [World.cell?_setCell_other _ _ _ _ (by intro e; injection e with _ e; cases e)]; exact m1)
  have hVs : w.heap.size + 2 < V.heap.size := by omega
  have hsp0 := (((HI.out.off (grown_set _ (w.heap.size + 2) 0 (.int .i64 A)) (fun x e => by cases e; exact .inl hVs)).off (grown_set _ (w.heap.size + 2) 1 (.slice a' p c')) (fun x e => by cases e; exact .inl hVs)).off (grownBy_putObj' _ D (.deferred none)) (fun x e => by cases e; exact .inl hDV))
  have hgw := grown_own (grown_own (grown_own (HG.out.1.trans HG8.out.2) (grown_set w8 (w.heap.size + 2) 0 (.int .i64 A)) (fun k hk => by cases hk; omega)) (grown_set _ (w.heap.size + 2) 1 (.slice a' p c')) (fun k hk => by cases hk; omega)) (grownBy_putObj' _ D (.deferred none)) (fun k hk => by cases hk; omega)
  refine ⟨by simp, .inl ⟨D, _, rfl, run_takeDeferred hdX, _, relresz14 _ _ (w.heap.size + 2) a' p c' A 0 rfl rfl ((grownBy_putObj' _ D _).cell hx0 (by simp; omega)) ((grownBy_putObj' _ D _).cell hx1 (by simp; omega)), ?_⟩⟩
  exact ⟨a', c', rfl, hsp0.wide (by have h1 := HF.out.1.grown.size; have h2 := HG.out.2; omega) (Nat.le_trans (by first | exact HI.out.1 | exact Nat.le_refl _) (Nat.le_trans (grown_set _ _ _ _).size (Nat.le_trans (grown_set _ _ _ _).size (grownBy_putObj' _ D _).size))) (Nat.le_refl _), hgw⟩
def Two (X : World) (g : Nat) (v0 v1 : Value) : Prop := (X.cell? ⟨g, 0, none⟩ = some v0 ∧ X.cell? ⟨g, 1, none⟩ = some v1) ∧ ∀ o, X.frozen? ⟨g, o, none⟩ = false
theorem Two.lt {X : World} {g : Nat} {v0 v1 : Value} (h : Two X g v0 v1) : g < X.heap.size := lies_lt h.1.1
theorem Two.off {X X' : World} {g : Nat} {v0 v1 : Value} {r : Option Nat} (h : Two X g v0 v1) (hg : X.grownBy X' r) (hr : ∀ x, r = some x → x ≠ g) : Two X' g v0 v1 := by
 have hne : some g ≠ r := fun e => hr g e.symm rfl
 have hlt : g < X.heap.size := lies_lt h.1.1
 obtain ⟨⟨h0, h1⟩, hf⟩ := h
 exact ⟨⟨hg.cell h0 hne, hg.cell h1 hne⟩, fun o => by rw [World.frozen?_of_block (hg.block g hlt hne)]; exact hf o⟩
theorem Two.new (W : World) (v0 v1 : Value) (t : TypeId) : Two (W.alloc (.cells #[v0, v1] t)) W.heap.size v0 v1 := ⟨⟨by go_simp, by go_simp⟩, fun o => by go_simp⟩
end Go.Proofs.YthdhmflodiincaaGreat

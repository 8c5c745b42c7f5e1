/- The iterator that Join goes over. -/
import Derived.Test.YtkoigonbncpbaaaB5
namespace Go.Proofs.Ytkoigonbncpbaaa
open Go.RowKit Go.Shelf

attribute [local go_sem] Oper.semAt_some

def meetRow (n r : Nat) (x : Int) (ys : List Int) : List Int := ys.filterMap fun y => if x % (n : Int) = y / (r : Int) then some (x / (n : Int) * (r : Int) + y % (r : Int)) else none
def joinP (n r : Nat) (xs ys : List Int) : List Int := xs.flatMap fun x => meetRow n r x ys
theorem meet_take_yes {n r : Nat} {x y : Int} {ys : List Int} {j : Nat} (h : ys[j]? = some y) (hm : x % (n : Int) = y / (r : Int)) : meetRow n r x (ys.take (j + 1)) = meetRow n r x (ys.take j) ++ [x / (n : Int) * (r : Int) + y % (r : Int)] := by
  unfold meetRow
  rw [List.take_add_one, h, List.filterMap_append]
  simp [hm]
theorem meet_take_no {n r : Nat} {x y : Int} {ys : List Int} {j : Nat} (h : ys[j]? = some y) (hm : ¬ x % (n : Int) = y / (r : Int)) : meetRow n r x (ys.take (j + 1)) = meetRow n r x (ys.take j) := by
  unfold meetRow
  rw [List.take_add_one, h, List.filterMap_append]
  simp [hm]
theorem join_take {n r : Nat} {x : Int} {xs ys : List Int} {i : Nat} (h : xs[i]? = some x) : joinP n r (xs.take (i + 1)) ys = joinP n r (xs.take i) ys ++ meetRow n r x ys := by
  unfold joinP
  rw [List.take_add_one, h]
  simp
theorem meet_prefix {n r : Nat} {x : Int} {ys : List Int} (j : Nat) : meetRow n r x (ys.take j) <+: meetRow n r x ys := by
  refine ⟨meetRow n r x (ys.drop j), ?_⟩
  unfold meetRow
  rw [← List.filterMap_append, List.take_append_drop]
theorem join_prefix {n r : Nat} {xs ys : List Int} (i : Nat) : joinP n r (xs.take i) ys <+: joinP n r xs ys := by
  refine ⟨joinP n r (xs.drop i) ys, ?_⟩
  unfold joinP
  rw [← List.flatMap_append, List.take_append_drop]
theorem meetRow_len (n r : Nat) (x : Int) (ys : List Int) : (meetRow n r x ys).length ≤ ys.length := List.length_filterMap_le _ _
theorem joinP_len (n r : Nat) (ys : List Int) : ∀ xs : List Int, (joinP n r xs ys).length ≤ xs.length * ys.length
  | [] => by simp [joinP]
  | x :: xs => by
    have h := joinP_len n r ys xs
    have h2 := meetRow_len n r x ys
    unfold joinP at h ⊢
    rw [List.flatMap_cons, List.length_append, List.length_cons, Nat.succ_mul]
    omega

/-- The blocks below B0 but for M are as they were, and safe. -/
def LowM (B0 M : Nat) (Safe : World → Nat → Prop) (w W : World) : Prop := ∀ b, b < B0 ∧ b ≠ M → W.heap[b]? = w.heap[b]? ∧ Safe W b
theorem LowM.saved {B0 M : Nat} {Safe : World → Nat → Prop} {w W W' : World} (h : LowM B0 M Safe w W) (hs : Saved Safe W W') : LowM B0 M Safe w W' := fun b hb => by
  obtain ⟨h1, h2⟩ := h b hb
  obtain ⟨h3, h4⟩ := hs b h2
  exact ⟨h3.trans h1, h4⟩
theorem LowM.grown {α : Type} {B0 M Bq : Nat} {J : List α → World → Prop} {Safe : World → Nat → Prop} {w W W' : World} {s : List α} (h : LowM B0 M Safe w W) (hJ : AbideG Bq J Safe) (hj : J s W) (hg : W.grownBy W' none) (hB : B0 ≤ w.heap.size) : LowM B0 M Safe w W' := fun b hb => by
  obtain ⟨h1, h2⟩ := h b hb
  have hlt : b < W.heap.size := by
    rw [Array.getElem?_eq_getElem (show b < w.heap.size by omega)] at h1
    exact (Array.getElem?_eq_some_iff.1 h1).1
  exact ⟨(hg.block b hlt (by simp)).trans h1, hJ.safe _ _ _ b hj (.of_none hg) h2⟩
theorem LowM.cell {B0 M : Nat} {Safe : World → Nat → Prop} {w W : World} {a : Addr} {v : Value} (h : LowM B0 M Safe w W) (ha : a.block < B0 ∧ a.block ≠ M) (hc : w.cell? a = some v) : W.cell? a = some v :=
  (World.cell?_of_block (h a.block ha).1).trans hc
theorem intsW_span {w : World} {a : Option Addr} {c : Nat} {l : List Int} (h : IntsW w a c l) : Span 0 w.heap.size w (fun W => IntsW W a c l) := ⟨Nat.le_refl _, fun W hW => by
  obtain ⟨hc, h | ⟨b, o, ha, hz⟩⟩ := h
  · exact ⟨hc, .inl h⟩
  · exact ⟨hc, .inr ⟨b, o, ha, fun j z hj => (World.cell?_of_block (hW b (Nat.zero_le _) (lies_lt (hz j z hj)))).trans (hz j z hj)⟩⟩⟩

abbrev oneV (x : Int) : Array Value := #[.int .i64 x]

set_option maxRecDepth 100000 in
set_option maxHeartbeats 8000000 in
theorem joined_gives (n j r : Nat) (xs ys : List Int) (xa ya : Option Addr) (xc yc nb bb ab sz M B0 : Nat) (w : World) (hn1 : 1 ≤ n) (hn2 : n ≤ 12) (hj : 1 ≤ j) (hj3 : j ≤ 3) (hr : r = n ^ (j - 1))
    (hsz : sz ≤ B0 ∧ sz ≤ M ∧ B0 ≤ w.heap.size) (hsx : Span 0 sz w (fun W => IntsW W xa xc xs)) (hsy : Span 0 sz w (fun W => IntsW W ya yc ys)) (hbl : (nb < B0 ∧ nb ≠ M) ∧ (bb < B0 ∧ bb ≠ M) ∧ (ab < B0 ∧ ab ≠ M))
    (c0 : w.cell? ⟨nb, 0, none⟩ = some (.int .i64 (n : Int))) (c1 : w.cell? ⟨bb, 0, none⟩ = some (.int .i64 (j : Int))) (c2 : w.cell? ⟨bb, 1, none⟩ = some (.slice ya ys.length yc)) (c3 : w.cell? ⟨ab, 1, none⟩ = some (.slice xa xs.length xc))
    (hl : xs.length ≤ 90000) (hl' : ys.length ≤ 90000) (hx : ∀ x ∈ xs, 0 ≤ x ∧ x ≤ 2000) (hy : ∀ y ∈ ys, 0 ≤ y ∧ y ≤ 2000) :
    GivesG oneV Fence.wide Try.prog 55 #[.pointer (some ⟨nb, 0, none⟩), .pointer (some ⟨bb, 0, none⟩), .pointer (some ⟨ab, 0, none⟩)] (fun b => b < B0 ∧ b ≠ M) (joinP n r xs ys) w := by
  intro nn l J Safe hcap hJ hY h0
  obtain ⟨lx, hlx⟩ : ∃ m, xs.length = m := ⟨_, rfl⟩
  obtain ⟨ly, hly⟩ : ∃ m, ys.length = m := ⟨_, rfl⟩
  rw [hlx] at hl c3
  rw [hly] at hl' c2
  have hrB : r ≤ 144 := by
    rw [hr]
    have h1 : n ^ (j - 1) ≤ 12 ^ (j - 1) := Nat.pow_le_pow_left hn2 _
    have h2 : 12 ^ (j - 1) ≤ 12 ^ 2 := Nat.pow_le_pow_right (by omega) (by omega)
    omega
  have hr1 : 1 ≤ r := by rw [hr]; exact Nat.pow_pos (by omega)
  have HPW := Lib.hid (fun (U : World) => power_calls n (j - 1) U hn2 (by omega))
  rw [← hr] at HPW
  have HB := Lib.hid hbl
  have HSZ := Lib.hid hsz; clear hsz
  have HXY := Lib.hid (And.intro hsx (And.intro hsy (And.intro hlx (And.intro hly (And.intro hx hy)))))
  have HH := Lib.hid (And.intro hJ (And.intro hY HSZ.out.2.2))
  have hlow : LowM B0 M Safe w w := fun b hb => ⟨rfl, hcap b hb⟩
  have HL := Lib.hid (And.intro hlow h0)
  have HC := Lib.hid (And.intro c0 (And.intro c2 c3))
  clear hsx hsy hlx hly hx hy hJ hY h0 hcap hlow hbl hr
  have hnB : decide ((n : Int) < 1) = false := by simp; omega
  have hnB' : decide (n < 1) = false := by simp; omega
  have hwj : IntKind.i64.wrap ((j : Int) - 1) = ((j - 1 : Nat) : Int) := by rw [IntWalk.i64_in _ (by omega)]; omega
  obtain ⟨j1, hj1⟩ : ∃ z, j - 1 = z := ⟨_, rfl⟩
  rw [hj1] at HPW hwj
  clear hj1
  refine callsIn_of_wp Try.func55 rfl trivial ?_ rfl
  simp only [Try.ntmps55, List.size_toArray, List.length_cons, List.length_nil, Nat.reduceAdd, Nat.reduceSub, Array.replicate_succ, Array.replicate_zero, List.push_toArray, List.append_toArray, List.nil_append, List.cons_append]
  gi_wp2_with fail
  refine ⟨trivial, fun h => (by cases h), (callsIn_wide.2 (HPW.out _)).mono ?_⟩
  rintro e w2 ⟨rfl, hw2⟩
  rw [hw2]
  clear hw2 w2
  gi_wp2_with fail
  clear c0 c1 c2 c3 hnB hnB' hwj
  gi_loopg [20] lx (fun g s20 wr => ∃ i : Nat, s20 = .int .i64 (i : Int) ∧ g = lx - i ∧ i ≤ lx ∧ J (joinP n r (xs.take i) ys) wr ∧ LowM B0 M Safe w wr)
  case atStart => exact ⟨0, rfl, rfl, Nat.zero_le _, HL.out.2, HL.out.1⟩
  case round =>
    obtain ⟨i, rfl, hgi, hi, hj, hlow⟩ := hrel
    have HI := Lib.hid (And.intro hgi (And.intro hj hlow)); clear hgi hj hlow
    by_cases hin : i < lx
    · have hinB : decide (i < lx) = true := by simpa using hin
      have hinI : (i : Int) < (lx : Int) := by omega
      obtain ⟨z, hz⟩ : ∃ z, xs[i]? = some z := ⟨_, List.getElem?_eq_getElem (by rw [HXY.out.2.2.1]; exact hin)⟩
      have hxi : IntsW wr xa xc xs := HXY.out.1.2 wr (fun b _ hb => (HI.out.2.2 b ⟨by have := HSZ.out; omega, by have := HSZ.out; omega⟩).1)
      obtain ⟨b, o, rfl, hcell0⟩ := hxi.at hz
      have hzb := HXY.out.2.2.2.2.1 z (List.mem_of_getElem? hz)
      obtain ⟨x, rfl⟩ : ∃ x : Nat, z = (x : Int) := ⟨z.toNat, by omega⟩
      have HJT := Lib.hid (join_take (n := n) (r := r) (ys := ys) hz)
      have q2 := HI.out.2.2.cell (a := ⟨bb, 1, none⟩) HB.out.2.1 HC.out.2.1
      clear hxi hz
      gi_wp2_with fail
      clear q2 hcell0
      obtain ⟨wo, rfl⟩ : ∃ wo, wo = wr := ⟨_, rfl⟩
      gi_loopg [27] ly (fun g s27 wr => ∃ t : Nat, s27 = .int .i64 (t : Int) ∧ g = ly - t ∧ t ≤ ly ∧ J (joinP n r (xs.take i) ys ++ meetRow n r (x : Int) (ys.take t)) wr ∧ LowM B0 M Safe w wr)
      case atStart => exact ⟨0, rfl, rfl, Nat.zero_le _, by simpa [meetRow] using HI.out.2.1, HI.out.2.2⟩
      case round =>
        obtain ⟨t, rfl, hgt, ht, hj, hlow⟩ := hrel
        have HT := Lib.hid (And.intro hgt (And.intro hj hlow)); clear hgt hj hlow
        by_cases htn : t < ly
        · have htB : decide (t < ly) = true := by simpa using htn
          have htI : (t : Int) < (ly : Int) := by omega
          obtain ⟨z, hz⟩ : ∃ z, ys[t]? = some z := ⟨_, List.getElem?_eq_getElem (by rw [HXY.out.2.2.2.1]; exact htn)⟩
          have hyi : IntsW wr ya yc ys := HXY.out.2.1.2 wr (fun b _ hb => (HT.out.2.2 b ⟨by have := HSZ.out; omega, by have := HSZ.out; omega⟩).1)
          obtain ⟨b', o', rfl, hcell1⟩ := hyi.at hz
          have hzb' := HXY.out.2.2.2.2.2 z (List.mem_of_getElem? hz)
          obtain ⟨y, rfl⟩ : ∃ y : Nat, z = (y : Int) := ⟨z.toNat, by omega⟩
          have q0 := HT.out.2.2.cell (a := ⟨nb, 0, none⟩) HB.out.1 HC.out.1
          obtain ⟨a1, ha1⟩ : ∃ z, x % n = z := ⟨_, rfl⟩
          obtain ⟨a2, ha2⟩ : ∃ z, y / r = z := ⟨_, rfl⟩
          have e1 : (x : Int) % (n : Int) = (a1 : Int) := by omega
          have e2 : (y : Int) / (r : Int) = (a2 : Int) := by rw [← ha2]; rfl
          have hm1 : (x : Int).tmod (n : Int) = (a1 : Int) := by rw [Int.tmod_eq_emod_of_nonneg (by omega)]; exact e1
          have ha2' : a2 ≤ 2000 := by rw [← ha2]; exact Nat.le_trans (Nat.div_le_self _ _) (by omega)
          have hw2 : IntKind.i64.wrap (a2 : Int) = (a2 : Int) := IntWalk.i64_in _ (by omega)
          have hn0 : n ≠ 0 := by omega
          have hr0 : r ≠ 0 := by omega
          have HZ := Lib.hid hz; clear hz hyi
          by_cases hmt : a1 = a2
          · have hM : (x : Int) % (n : Int) = (y : Int) / (r : Int) := by rw [e1, e2, hmt]
            have hstep := meet_take_yes HZ.out hM
            obtain ⟨q1, hq1⟩ : ∃ z, x / n = z := ⟨_, rfl⟩
            obtain ⟨q2, hq2⟩ : ∃ z, y % r = z := ⟨_, rfl⟩
            obtain ⟨P1, hP1⟩ : ∃ z, q1 * r = z := ⟨_, rfl⟩
            obtain ⟨V, hV⟩ : ∃ z, P1 + q2 = z := ⟨_, rfl⟩
            have f1 : (x : Int) / (n : Int) = (q1 : Int) := by rw [← hq1]; rfl
            have f2 : (y : Int) % (r : Int) = (q2 : Int) := by omega
            have hq1' : q1 ≤ 2000 := by rw [← hq1]; exact Nat.le_trans (Nat.div_le_self _ _) (by omega)
            have hq2' : q2 ≤ 2000 := by rw [← hq2]; exact Nat.le_trans (Nat.mod_le _ _) (by omega)
            have hP1' : P1 ≤ 2000 * 144 := by rw [← hP1]; exact Nat.mul_le_mul hq1' hrB
            have hm2 : (y : Int).tmod (r : Int) = (q2 : Int) := by rw [Int.tmod_eq_emod_of_nonneg (by omega)]; exact f2
            have hw3 : IntKind.i64.wrap (q1 : Int) = (q1 : Int) := IntWalk.i64_in _ (by omega)
            have hw4 : IntKind.i64.wrap ((q1 : Int) * (r : Int)) = (P1 : Int) := by rw [show (q1 : Int) * (r : Int) = (P1 : Int) by rw [← hP1]; simp]; exact IntWalk.i64_in _ (by omega)
            have hw5 : IntKind.i64.wrap ((P1 : Int) + (q2 : Int)) = (V : Int) := by rw [IntWalk.i64_in _ (by omega)]; omega
            rw [f1, f2, show (q1 : Int) * (r : Int) + (q2 : Int) = (V : Int) by rw [← hV, ← hP1]; simp] at hstep
            have HSTEP := Lib.hid hstep
            have hbeq : (decide (a1 = a2)) = true := by simpa using hmt
            have hb2 : ((a1 : Int) == (a2 : Int)) = true := by rw [hmt]; simp
            have hb3 : decide ((a1 : Int) = (a2 : Int)) = true := by rw [hmt]; simp
            have HJD : Hid (J (joinP n r (xs.take i) ys ++ meetRow n r (x : Int) (ys.take t)) wr.drew) := Lib.hid (HH.out.1.keep _ _ _ HT.out.2.1 (.of_none ⟨rfl, rfl, rfl, Nat.le_refl _, fun _ _ _ => rfl⟩))
            obtain ⟨fn, tmps, assign, body, hy, hRI⟩ := HH.out.2.1 _ (V : Int) wr.drew HJD.out (by
              rw [List.append_assoc, ← HSTEP.out]
              refine List.IsPrefix.trans ?_ (join_prefix (i + 1))
              rw [HJT.out]
              exact (List.prefix_append_right_inj _).2 (meet_prefix _))
            simp only [oneV] at hy
            have HRI := Lib.hid hRI; clear hRI hM hstep ha1 ha2 hq1 hq2 hP1 hV e1 f2
            gi_wp2_with fail
            refine wpIn_region_any (by kernel_rfl) ?_
            (try (change wpAnyIn _ _ _ _ _ _ _ _ _ (World.drew _)))
            refine wpAnyIn_take (i := 0) (oi := { dst := some 31, op := Op.move (Operand.tmp 7), type := 3, pos := "relation.go:123", after := #[], guard := none }) (v := ?_) rfl rfl (by kernel_rfl) (by kernel_rfl) (by kernel_rfl) (fun _ _ _ h => h) ⟨Or.inl ⟨by rfl, ?_⟩, fun _ => rfl⟩ ?_
            rotate_left 1
            · (intro W; first | (go_simp; done) | (go_simp; with_reducible rfl))
            try simp only [Act.put, List.setIfInBounds_toArray, List.set_cons_zero, List.set_cons_succ]
            refine wpAnyIn_take (i := 3) (oi := { dst := some 34, op := Op.move (Operand.tmp 9), type := 3, pos := "relation.go:123", after := #[], guard := none }) (v := ?_) rfl rfl (by kernel_rfl) (by kernel_rfl) (by kernel_rfl) (fun _ _ _ h => h) ⟨Or.inl ⟨by rfl, ?_⟩, fun _ => rfl⟩ ?_
            rotate_left 1
            · (intro W; first | (go_simp; done) | (go_simp; with_reducible rfl))
            try simp only [Act.put, List.setIfInBounds_toArray, List.set_cons_zero, List.set_cons_succ]
            refine wpAnyIn_take (i := 4) (oi := { dst := some 35, op := Op.move (Operand.tmp 5), type := 3, pos := "relation.go:123", after := #[], guard := none }) (v := ?_) rfl rfl (by kernel_rfl) (by kernel_rfl) (by kernel_rfl) (fun _ _ _ h => h) ⟨Or.inl ⟨by rfl, ?_⟩, fun _ => rfl⟩ ?_
            rotate_left 1
            · (intro W; first | (go_simp; done) | (go_simp; with_reducible rfl))
            try simp only [Act.put, List.setIfInBounds_toArray, List.set_cons_zero, List.set_cons_succ]
            refine wpAnyIn_take (i := 5) (oi := { dst := some 36, op := Op.binOp BinOp.quo 3 (Operand.tmp 34) (Operand.tmp 35) 3, type := 3, pos := "relation.go:123", after := #[{ on := 3, ground := Ground.data }, { on := 4, ground := Ground.data }], guard := none }) (v := ?_) rfl rfl (by kernel_rfl) (by kernel_rfl) (by kernel_rfl) (fun _ _ _ h => h) ⟨Or.inl ⟨by rfl, ?_⟩, fun _ => rfl⟩ ?_
            rotate_left 1
            · (intro W; first | (go_simp; done) | (go_simp; with_reducible rfl))
            try simp only [Act.put, List.setIfInBounds_toArray, List.set_cons_zero, List.set_cons_succ]
            refine wpAnyIn_ready (rs := [1]) (by kernel_rfl) (by simp) ?_
            refine AllReadyIn.cons rfl (fun K hK => ?_) AllReadyIn.nil
            go_simp
            refine hK _ _ ?_
            clear hK K
            try simp only [Act.put, List.setIfInBounds_toArray, List.set_cons_zero, List.set_cons_succ]
            refine wpAnyIn_take (i := 2) (oi := { dst := some 33, op := Op.binOp BinOp.rem 3 (Operand.tmp 31) (Operand.tmp 32) 3, type := 3, pos := "relation.go:123", after := #[{ on := 0, ground := Ground.data }, { on := 1, ground := Ground.data }], guard := none }) (v := ?_) rfl rfl (by kernel_rfl) (by kernel_rfl) (by kernel_rfl) (fun _ _ _ h => h) ⟨Or.inl ⟨by rfl, ?_⟩, fun _ => rfl⟩ ?_
            rotate_left 1
            · (intro W; first | (go_simp; done) | (go_simp; with_reducible rfl))
            try simp only [Act.put, List.setIfInBounds_toArray, List.set_cons_zero, List.set_cons_succ]
            refine wpAnyIn_take (i := 6) (oi := { dst := some 37, op := Op.binOp BinOp.eql 3 (Operand.tmp 33) (Operand.tmp 36) 3, type := 4, pos := "relation.go:123", after := #[{ on := 2, ground := Ground.data }, { on := 5, ground := Ground.data }], guard := none }) (v := ?_) rfl rfl (by kernel_rfl) (by kernel_rfl) (by kernel_rfl) (fun _ _ _ h => h) ⟨Or.inl ⟨by rfl, ?_⟩, fun _ => rfl⟩ ?_
            rotate_left 1
            · (intro W; first | (go_simp; done) | (go_simp; with_reducible rfl))
            try simp only [Act.put, List.setIfInBounds_toArray, List.set_cons_zero, List.set_cons_succ]
            refine wpAnyIn_take (i := 7) (oi := { dst := some 38, op := Op.move (Operand.tmp 37), type := 4, pos := "relation.go:123", after := #[{ on := 6, ground := Ground.data }], guard := none }) (v := ?_) rfl rfl (by kernel_rfl) (by kernel_rfl) (by kernel_rfl) (fun _ _ _ h => h) ⟨Or.inl ⟨by rfl, ?_⟩, fun _ => rfl⟩ ?_
            rotate_left 1
            · (intro W; first | (go_simp; done) | (go_simp; with_reducible rfl))
            try simp only [Act.put, List.setIfInBounds_toArray, List.set_cons_zero, List.set_cons_succ]
            refine wpAnyIn_take (i := 8) (oi := { dst := some 39, op := Op.move (Operand.tmp 0), type := 63, pos := "relation.go:123", after := #[{ on := 7, ground := Ground.guard }], guard := some (7, true) }) (v := ?_) rfl rfl (by kernel_rfl) (by kernel_rfl) (by kernel_rfl) (fun _ _ _ h => h) ⟨Or.inl ⟨by rfl, ?_⟩, fun _ => rfl⟩ ?_
            rotate_left 1
            · (intro W; first | (go_simp; done) | (go_simp; with_reducible rfl))
            try simp only [Act.put, List.setIfInBounds_toArray, List.set_cons_zero, List.set_cons_succ]
            refine wpAnyIn_take (i := 9) (oi := { dst := some 40, op := Op.move (Operand.tmp 7), type := 3, pos := "relation.go:123", after := #[{ on := 7, ground := Ground.guard }], guard := some (7, true) }) (v := ?_) rfl rfl (by kernel_rfl) (by kernel_rfl) (by kernel_rfl) (fun _ _ _ h => h) ⟨Or.inl ⟨by rfl, ?_⟩, fun _ => rfl⟩ ?_
            rotate_left 1
            · (intro W; first | (go_simp; done) | (go_simp; with_reducible rfl))
            try simp only [Act.put, List.setIfInBounds_toArray, List.set_cons_zero, List.set_cons_succ]
            refine wpAnyIn_take (i := 12) (oi := { dst := some 43, op := Op.move (Operand.tmp 5), type := 3, pos := "relation.go:123", after := #[{ on := 7, ground := Ground.guard }], guard := some (7, true) }) (v := ?_) rfl rfl (by kernel_rfl) (by kernel_rfl) (by kernel_rfl) (fun _ _ _ h => h) ⟨Or.inl ⟨by rfl, ?_⟩, fun _ => rfl⟩ ?_
            rotate_left 1
            · (intro W; first | (go_simp; done) | (go_simp; with_reducible rfl))
            try simp only [Act.put, List.setIfInBounds_toArray, List.set_cons_zero, List.set_cons_succ]
            refine wpAnyIn_take (i := 14) (oi := { dst := some 45, op := Op.move (Operand.tmp 9), type := 3, pos := "relation.go:123", after := #[{ on := 7, ground := Ground.guard }], guard := some (7, true) }) (v := ?_) rfl rfl (by kernel_rfl) (by kernel_rfl) (by kernel_rfl) (fun _ _ _ h => h) ⟨Or.inl ⟨by rfl, ?_⟩, fun _ => rfl⟩ ?_
            rotate_left 1
            · (intro W; first | (go_simp; done) | (go_simp; with_reducible rfl))
            try simp only [Act.put, List.setIfInBounds_toArray, List.set_cons_zero, List.set_cons_succ]
            refine wpAnyIn_take (i := 15) (oi := { dst := some 46, op := Op.move (Operand.tmp 5), type := 3, pos := "relation.go:123", after := #[{ on := 7, ground := Ground.guard }], guard := some (7, true) }) (v := ?_) rfl rfl (by kernel_rfl) (by kernel_rfl) (by kernel_rfl) (fun _ _ _ h => h) ⟨Or.inl ⟨by rfl, ?_⟩, fun _ => rfl⟩ ?_
            rotate_left 1
            · (intro W; first | (go_simp; done) | (go_simp; with_reducible rfl))
            try simp only [Act.put, List.setIfInBounds_toArray, List.set_cons_zero, List.set_cons_succ]
            refine wpAnyIn_take (i := 16) (oi := { dst := some 47, op := Op.binOp BinOp.rem 3 (Operand.tmp 45) (Operand.tmp 46) 3, type := 3, pos := "relation.go:123", after := #[{ on := 14, ground := Ground.data }, { on := 15, ground := Ground.data }, { on := 7, ground := Ground.guard }], guard := some (7, true) }) (v := ?_) rfl rfl (by kernel_rfl) (by kernel_rfl) (by kernel_rfl) (fun _ _ _ h => h) ⟨Or.inl ⟨by rfl, ?_⟩, fun _ => rfl⟩ ?_
            rotate_left 1
            · (intro W; first | (go_simp; done) | (go_simp; with_reducible rfl))
            try simp only [Act.put, List.setIfInBounds_toArray, List.set_cons_zero, List.set_cons_succ]
            refine wpAnyIn_ready (rs := [10]) (by kernel_rfl) (by simp) ?_
            refine AllReadyIn.cons rfl (fun K hK => ?_) AllReadyIn.nil
            go_simp
            refine hK _ _ ?_
            clear hK K
            try simp only [Act.put, List.setIfInBounds_toArray, List.set_cons_zero, List.set_cons_succ]
            refine wpAnyIn_take (i := 11) (oi := { dst := some 42, op := Op.binOp BinOp.quo 3 (Operand.tmp 40) (Operand.tmp 41) 3, type := 3, pos := "relation.go:123", after := #[{ on := 9, ground := Ground.data }, { on := 10, ground := Ground.data }, { on := 7, ground := Ground.guard }], guard := some (7, true) }) (v := ?_) rfl rfl (by kernel_rfl) (by kernel_rfl) (by kernel_rfl) (fun _ _ _ h => h) ⟨Or.inl ⟨by rfl, ?_⟩, fun _ => rfl⟩ ?_
            rotate_left 1
            · (intro W; first | (go_simp; done) | (go_simp; with_reducible rfl))
            try simp only [Act.put, List.setIfInBounds_toArray, List.set_cons_zero, List.set_cons_succ]
            refine wpAnyIn_take (i := 13) (oi := { dst := some 44, op := Op.binOp BinOp.mul 3 (Operand.tmp 42) (Operand.tmp 43) 3, type := 3, pos := "relation.go:123", after := #[{ on := 11, ground := Ground.data }, { on := 12, ground := Ground.data }, { on := 7, ground := Ground.guard }], guard := some (7, true) }) (v := ?_) rfl rfl (by kernel_rfl) (by kernel_rfl) (by kernel_rfl) (fun _ _ _ h => h) ⟨Or.inl ⟨by rfl, ?_⟩, fun _ => rfl⟩ ?_
            rotate_left 1
            · (intro W; first | (go_simp; done) | (go_simp; with_reducible rfl))
            try simp only [Act.put, List.setIfInBounds_toArray, List.set_cons_zero, List.set_cons_succ]
            refine wpAnyIn_take (i := 17) (oi := { dst := some 48, op := Op.binOp BinOp.add 3 (Operand.tmp 44) (Operand.tmp 47) 3, type := 3, pos := "relation.go:123", after := #[{ on := 13, ground := Ground.data }, { on := 16, ground := Ground.data }, { on := 7, ground := Ground.guard }], guard := some (7, true) }) (v := ?_) rfl rfl (by kernel_rfl) (by kernel_rfl) (by kernel_rfl) (fun _ _ _ h => h) ⟨Or.inl ⟨by rfl, ?_⟩, fun _ => rfl⟩ ?_
            rotate_left 1
            · (intro W; first | (go_simp; done) | (go_simp; with_reducible rfl))
            try simp only [Act.put, List.setIfInBounds_toArray, List.set_cons_zero, List.set_cons_succ]
            refine wpAnyIn_ready (rs := [18]) (by kernel_rfl) (by simp) ?_
            refine AllReadyIn.cons rfl (fun K hK => ?_) AllReadyIn.nil
            go_simp
            refine ⟨fun h => (by cases h), ?_⟩
            refine HRI.out.mono ?_
            rintro e W3 ⟨rfl, hJ3, hs3⟩
            have H3 := Lib.hid (And.intro hJ3 (show LowM B0 M Safe w W3 from LowM.saved (HT.out.2.2.grown HH.out.1 HT.out.2.1 (⟨rfl, rfl, rfl, Nat.le_refl _, fun _ _ _ => rfl⟩ : wr.grownBy wr.drew none) HH.out.2.2) hs3))
            clear hJ3 hs3
            refine hK _ _ ?_
            clear hK K
            try simp only [Act.put, List.setIfInBounds_toArray, List.set_cons_zero, List.set_cons_succ]
            refine wpAnyIn_take (i := 19) (oi := { dst := some 50, op := Op.unOp UnOp.not 4 (Operand.tmp 49), type := 4, pos := "relation.go:123", after := #[{ on := 18, ground := Ground.data }, { on := 7, ground := Ground.guard }], guard := some (7, true) }) (v := ?_) rfl rfl (by kernel_rfl) (by kernel_rfl) (by kernel_rfl) (fun _ _ _ h => h) ⟨Or.inl ⟨by rfl, ?_⟩, fun _ => rfl⟩ ?_
            rotate_left 1
            · (intro W; first | (go_simp; done) | (go_simp; with_reducible rfl))
            try simp only [Act.put, List.setIfInBounds_toArray, List.set_cons_zero, List.set_cons_succ]
            refine wpAnyIn_take (i := 20) (oi := { dst := some 51, op := Op.pick (Operand.tmp 38) (Operand.tmp 50) (Operand.const (Value.bool false)), type := 4, pos := "relation.go:123", after := #[{ on := 7, ground := Ground.data }, { on := 19, ground := Ground.data }], guard := none }) (v := ?_) rfl rfl (by kernel_rfl) (by kernel_rfl) (by kernel_rfl) (fun _ _ _ h => h) ⟨Or.inl ⟨by rfl, ?_⟩, fun _ => rfl⟩ ?_
            rotate_left 1
            · (intro W; first | (go_simp; done) | (go_simp; with_reducible rfl))
            try simp only [Act.put, List.setIfInBounds_toArray, List.set_cons_zero, List.set_cons_succ]
            refine wpAnyIn_done (by kernel_rfl) ?_ _
            clear q0 hcell1 hy
            gi_wp2_with fail
            gi_roundg (ly - (t + 1))
            case measure => rw [HT.out.1]; omega
            case rel => exact ⟨t + 1, rfl, rfl, by omega, by rw [HSTEP.out, ← List.append_assoc]; exact H3.out.1, H3.out.2⟩
          · have hM : ¬ (x : Int) % (n : Int) = (y : Int) / (r : Int) := by rw [e1, e2]; omega
            have HSTEP := Lib.hid (meet_take_no HZ.out hM)
            have hbeq : (decide (a1 = a2)) = false := by simpa using hmt
            have hb2 : ((a1 : Int) == (a2 : Int)) = false := by simp; omega
            have hb3 : decide ((a1 : Int) = (a2 : Int)) = false := by simp; omega
            have H3 := Lib.hid (And.intro (HH.out.1.keep _ _ _ HT.out.2.1 (.of_none (⟨rfl, rfl, rfl, Nat.le_refl _, fun _ _ _ => rfl⟩ : wr.grownBy wr.drew none))) (show LowM B0 M Safe w wr.drew from HT.out.2.2.grown HH.out.1 HT.out.2.1 (⟨rfl, rfl, rfl, Nat.le_refl _, fun _ _ _ => rfl⟩ : wr.grownBy wr.drew none) HH.out.2.2))
            clear hM ha1 ha2 e1
            gi_wp2_with fail
            refine wpIn_region_any (by kernel_rfl) ?_
            (try (change wpAnyIn _ _ _ _ _ _ _ _ _ (World.drew _)))
            refine wpAnyIn_take (i := 0) (oi := { dst := some 31, op := Op.move (Operand.tmp 7), type := 3, pos := "relation.go:123", after := #[], guard := none }) (v := ?_) rfl rfl (by kernel_rfl) (by kernel_rfl) (by kernel_rfl) (fun _ _ _ h => h) ⟨Or.inl ⟨by rfl, ?_⟩, fun _ => rfl⟩ ?_
            rotate_left 1
            · (intro W; first | (go_simp; done) | (go_simp; with_reducible rfl))
            try simp only [Act.put, List.setIfInBounds_toArray, List.set_cons_zero, List.set_cons_succ]
            refine wpAnyIn_take (i := 3) (oi := { dst := some 34, op := Op.move (Operand.tmp 9), type := 3, pos := "relation.go:123", after := #[], guard := none }) (v := ?_) rfl rfl (by kernel_rfl) (by kernel_rfl) (by kernel_rfl) (fun _ _ _ h => h) ⟨Or.inl ⟨by rfl, ?_⟩, fun _ => rfl⟩ ?_
            rotate_left 1
            · (intro W; first | (go_simp; done) | (go_simp; with_reducible rfl))
            try simp only [Act.put, List.setIfInBounds_toArray, List.set_cons_zero, List.set_cons_succ]
            refine wpAnyIn_take (i := 4) (oi := { dst := some 35, op := Op.move (Operand.tmp 5), type := 3, pos := "relation.go:123", after := #[], guard := none }) (v := ?_) rfl rfl (by kernel_rfl) (by kernel_rfl) (by kernel_rfl) (fun _ _ _ h => h) ⟨Or.inl ⟨by rfl, ?_⟩, fun _ => rfl⟩ ?_
            rotate_left 1
            · (intro W; first | (go_simp; done) | (go_simp; with_reducible rfl))
            try simp only [Act.put, List.setIfInBounds_toArray, List.set_cons_zero, List.set_cons_succ]
            refine wpAnyIn_take (i := 5) (oi := { dst := some 36, op := Op.binOp BinOp.quo 3 (Operand.tmp 34) (Operand.tmp 35) 3, type := 3, pos := "relation.go:123", after := #[{ on := 3, ground := Ground.data }, { on := 4, ground := Ground.data }], guard := none }) (v := ?_) rfl rfl (by kernel_rfl) (by kernel_rfl) (by kernel_rfl) (fun _ _ _ h => h) ⟨Or.inl ⟨by rfl, ?_⟩, fun _ => rfl⟩ ?_
            rotate_left 1
            · (intro W; first | (go_simp; done) | (go_simp; with_reducible rfl))
            try simp only [Act.put, List.setIfInBounds_toArray, List.set_cons_zero, List.set_cons_succ]
            refine wpAnyIn_ready (rs := [1]) (by kernel_rfl) (by simp) ?_
            refine AllReadyIn.cons rfl (fun K hK => ?_) AllReadyIn.nil
            go_simp
            refine hK _ _ ?_
            clear hK K
            try simp only [Act.put, List.setIfInBounds_toArray, List.set_cons_zero, List.set_cons_succ]
            refine wpAnyIn_take (i := 2) (oi := { dst := some 33, op := Op.binOp BinOp.rem 3 (Operand.tmp 31) (Operand.tmp 32) 3, type := 3, pos := "relation.go:123", after := #[{ on := 0, ground := Ground.data }, { on := 1, ground := Ground.data }], guard := none }) (v := ?_) rfl rfl (by kernel_rfl) (by kernel_rfl) (by kernel_rfl) (fun _ _ _ h => h) ⟨Or.inl ⟨by rfl, ?_⟩, fun _ => rfl⟩ ?_
            rotate_left 1
            · (intro W; first | (go_simp; done) | (go_simp; with_reducible rfl))
            try simp only [Act.put, List.setIfInBounds_toArray, List.set_cons_zero, List.set_cons_succ]
            refine wpAnyIn_take (i := 6) (oi := { dst := some 37, op := Op.binOp BinOp.eql 3 (Operand.tmp 33) (Operand.tmp 36) 3, type := 4, pos := "relation.go:123", after := #[{ on := 2, ground := Ground.data }, { on := 5, ground := Ground.data }], guard := none }) (v := ?_) rfl rfl (by kernel_rfl) (by kernel_rfl) (by kernel_rfl) (fun _ _ _ h => h) ⟨Or.inl ⟨by rfl, ?_⟩, fun _ => rfl⟩ ?_
            rotate_left 1
            · (intro W; first | (go_simp; done) | (go_simp; with_reducible rfl))
            try simp only [Act.put, List.setIfInBounds_toArray, List.set_cons_zero, List.set_cons_succ]
            refine wpAnyIn_take (i := 7) (oi := { dst := some 38, op := Op.move (Operand.tmp 37), type := 4, pos := "relation.go:123", after := #[{ on := 6, ground := Ground.data }], guard := none }) (v := ?_) rfl rfl (by kernel_rfl) (by kernel_rfl) (by kernel_rfl) (fun _ _ _ h => h) ⟨Or.inl ⟨by rfl, ?_⟩, fun _ => rfl⟩ ?_
            rotate_left 1
            · (intro W; first | (go_simp; done) | (go_simp; with_reducible rfl))
            try simp only [Act.put, List.setIfInBounds_toArray, List.set_cons_zero, List.set_cons_succ]
            refine wpAnyIn_take (i := 8) (oi := { dst := some 39, op := Op.move (Operand.tmp 0), type := 63, pos := "relation.go:123", after := #[{ on := 7, ground := Ground.guard }], guard := some (7, true) }) (v := undef) rfl rfl (by kernel_rfl) (by kernel_rfl) (by kernel_rfl) (fun _ _ _ h => h) ⟨Or.inr ⟨by rfl, rfl⟩, fun _ => rfl⟩ ?_
            try simp only [Act.put, List.setIfInBounds_toArray, List.set_cons_zero, List.set_cons_succ]
            refine wpAnyIn_take (i := 9) (oi := { dst := some 40, op := Op.move (Operand.tmp 7), type := 3, pos := "relation.go:123", after := #[{ on := 7, ground := Ground.guard }], guard := some (7, true) }) (v := undef) rfl rfl (by kernel_rfl) (by kernel_rfl) (by kernel_rfl) (fun _ _ _ h => h) ⟨Or.inr ⟨by rfl, rfl⟩, fun _ => rfl⟩ ?_
            try simp only [Act.put, List.setIfInBounds_toArray, List.set_cons_zero, List.set_cons_succ]
            refine wpAnyIn_take (i := 10) (oi := { dst := some 41, op := Op.load 3 (Operand.tmp 1), type := 3, pos := "relation.go:123", after := #[{ on := 7, ground := Ground.guard }], guard := some (7, true) }) (v := undef) rfl rfl (by kernel_rfl) (by kernel_rfl) (by kernel_rfl) (fun _ _ _ h => h) ⟨Or.inr ⟨by rfl, rfl⟩, fun _ => rfl⟩ ?_
            try simp only [Act.put, List.setIfInBounds_toArray, List.set_cons_zero, List.set_cons_succ]
            refine wpAnyIn_take (i := 11) (oi := { dst := some 42, op := Op.binOp BinOp.quo 3 (Operand.tmp 40) (Operand.tmp 41) 3, type := 3, pos := "relation.go:123", after := #[{ on := 9, ground := Ground.data }, { on := 10, ground := Ground.data }, { on := 7, ground := Ground.guard }], guard := some (7, true) }) (v := undef) rfl rfl (by kernel_rfl) (by kernel_rfl) (by kernel_rfl) (fun _ _ _ h => h) ⟨Or.inr ⟨by rfl, rfl⟩, fun _ => rfl⟩ ?_
            try simp only [Act.put, List.setIfInBounds_toArray, List.set_cons_zero, List.set_cons_succ]
            refine wpAnyIn_take (i := 12) (oi := { dst := some 43, op := Op.move (Operand.tmp 5), type := 3, pos := "relation.go:123", after := #[{ on := 7, ground := Ground.guard }], guard := some (7, true) }) (v := undef) rfl rfl (by kernel_rfl) (by kernel_rfl) (by kernel_rfl) (fun _ _ _ h => h) ⟨Or.inr ⟨by rfl, rfl⟩, fun _ => rfl⟩ ?_
            try simp only [Act.put, List.setIfInBounds_toArray, List.set_cons_zero, List.set_cons_succ]
            refine wpAnyIn_take (i := 13) (oi := { dst := some 44, op := Op.binOp BinOp.mul 3 (Operand.tmp 42) (Operand.tmp 43) 3, type := 3, pos := "relation.go:123", after := #[{ on := 11, ground := Ground.data }, { on := 12, ground := Ground.data }, { on := 7, ground := Ground.guard }], guard := some (7, true) }) (v := undef) rfl rfl (by kernel_rfl) (by kernel_rfl) (by kernel_rfl) (fun _ _ _ h => h) ⟨Or.inr ⟨by rfl, rfl⟩, fun _ => rfl⟩ ?_
            try simp only [Act.put, List.setIfInBounds_toArray, List.set_cons_zero, List.set_cons_succ]
            refine wpAnyIn_take (i := 14) (oi := { dst := some 45, op := Op.move (Operand.tmp 9), type := 3, pos := "relation.go:123", after := #[{ on := 7, ground := Ground.guard }], guard := some (7, true) }) (v := undef) rfl rfl (by kernel_rfl) (by kernel_rfl) (by kernel_rfl) (fun _ _ _ h => h) ⟨Or.inr ⟨by rfl, rfl⟩, fun _ => rfl⟩ ?_
            try simp only [Act.put, List.setIfInBounds_toArray, List.set_cons_zero, List.set_cons_succ]
            refine wpAnyIn_take (i := 15) (oi := { dst := some 46, op := Op.move (Operand.tmp 5), type := 3, pos := "relation.go:123", after := #[{ on := 7, ground := Ground.guard }], guard := some (7, true) }) (v := undef) rfl rfl (by kernel_rfl) (by kernel_rfl) (by kernel_rfl) (fun _ _ _ h => h) ⟨Or.inr ⟨by rfl, rfl⟩, fun _ => rfl⟩ ?_
            try simp only [Act.put, List.setIfInBounds_toArray, List.set_cons_zero, List.set_cons_succ]
            refine wpAnyIn_take (i := 16) (oi := { dst := some 47, op := Op.binOp BinOp.rem 3 (Operand.tmp 45) (Operand.tmp 46) 3, type := 3, pos := "relation.go:123", after := #[{ on := 14, ground := Ground.data }, { on := 15, ground := Ground.data }, { on := 7, ground := Ground.guard }], guard := some (7, true) }) (v := undef) rfl rfl (by kernel_rfl) (by kernel_rfl) (by kernel_rfl) (fun _ _ _ h => h) ⟨Or.inr ⟨by rfl, rfl⟩, fun _ => rfl⟩ ?_
            try simp only [Act.put, List.setIfInBounds_toArray, List.set_cons_zero, List.set_cons_succ]
            refine wpAnyIn_take (i := 17) (oi := { dst := some 48, op := Op.binOp BinOp.add 3 (Operand.tmp 44) (Operand.tmp 47) 3, type := 3, pos := "relation.go:123", after := #[{ on := 13, ground := Ground.data }, { on := 16, ground := Ground.data }, { on := 7, ground := Ground.guard }], guard := some (7, true) }) (v := undef) rfl rfl (by kernel_rfl) (by kernel_rfl) (by kernel_rfl) (fun _ _ _ h => h) ⟨Or.inr ⟨by rfl, rfl⟩, fun _ => rfl⟩ ?_
            try simp only [Act.put, List.setIfInBounds_toArray, List.set_cons_zero, List.set_cons_succ]
            refine wpAnyIn_take (i := 18) (oi := { dst := some 49, op := Op.call { callee := Callee.value (Operand.tmp 39), args := #[Operand.tmp 48], argTypes := #[3] }, type := 4, pos := "relation.go:123", after := #[{ on := 8, ground := Ground.data }, { on := 17, ground := Ground.data }, { on := 7, ground := Ground.chain }, { on := 7, ground := Ground.guard }], guard := some (7, true) }) (v := undef) rfl rfl (by kernel_rfl) (by kernel_rfl) (by kernel_rfl) (fun _ _ _ h => h) ⟨Or.inr ⟨by rfl, rfl⟩, fun _ => rfl⟩ ?_
            try simp only [Act.put, List.setIfInBounds_toArray, List.set_cons_zero, List.set_cons_succ]
            refine wpAnyIn_take (i := 19) (oi := { dst := some 50, op := Op.unOp UnOp.not 4 (Operand.tmp 49), type := 4, pos := "relation.go:123", after := #[{ on := 18, ground := Ground.data }, { on := 7, ground := Ground.guard }], guard := some (7, true) }) (v := undef) rfl rfl (by kernel_rfl) (by kernel_rfl) (by kernel_rfl) (fun _ _ _ h => h) ⟨Or.inr ⟨by rfl, rfl⟩, fun _ => rfl⟩ ?_
            try simp only [Act.put, List.setIfInBounds_toArray, List.set_cons_zero, List.set_cons_succ]
            refine wpAnyIn_take (i := 20) (oi := { dst := some 51, op := Op.pick (Operand.tmp 38) (Operand.tmp 50) (Operand.const (Value.bool false)), type := 4, pos := "relation.go:123", after := #[{ on := 7, ground := Ground.data }, { on := 19, ground := Ground.data }], guard := none }) (v := ?_) rfl rfl (by kernel_rfl) (by kernel_rfl) (by kernel_rfl) (fun _ _ _ h => h) ⟨Or.inl ⟨by rfl, ?_⟩, fun _ => rfl⟩ ?_
            rotate_left 1
            · (intro W; first | (go_simp; done) | (go_simp; with_reducible rfl))
            try simp only [Act.put, List.setIfInBounds_toArray, List.set_cons_zero, List.set_cons_succ]
            refine wpAnyIn_done (by kernel_rfl) ?_ _
            clear q0 hcell1
            gi_wp2_with fail
            gi_roundg (ly - (t + 1))
            case measure => rw [HT.out.1]; omega
            case rel => exact ⟨t + 1, rfl, rfl, by omega, by rw [HSTEP.out]; exact H3.out.1, H3.out.2⟩
        · obtain rfl : t = ly := by omega
          have htB : decide (t < t) = false := by simp
          have hall : ys.take t = ys := List.take_of_length_le (by rw [HXY.out.2.2.2.1]; exact Nat.le_refl _)
          have HJJ : Hid (J (joinP n r (xs.take (i + 1)) ys) wr) := Lib.hid (by
            have := HT.out.2.1
            rw [hall] at this
            rw [HJT.out]; exact this)
          gi_wp2_with fail
          gi_roundg (lx - (i + 1))
          case measure => rw [HI.out.1]; omega
          case rel => exact ⟨i + 1, rfl, rfl, by omega, HJJ.out, HT.out.2.2⟩
    · obtain rfl : i = lx := by omega
      have hinB : decide (i < i) = false := by simp
      have HJJ : Hid (J (joinP n r xs ys) wr) := Lib.hid (by
        have := HI.out.2.1
        rw [List.take_of_length_le (by rw [HXY.out.2.2.1]; exact Nat.le_refl _)] at this
        exact this)
      gi_wp2_with fail
      go_end0
      exact ⟨⟨_, rfl⟩, HJJ.out⟩
end Go.Proofs.Ytkoigonbncpbaaa

/- Texts of the proof: WB. -/
import Derived.Test.YthdhmflodiincaaGreatCC24
set_option maxRecDepth 100000
set_option maxHeartbeats 8000000
namespace Go.Proofs.YthdhmflodiincaaGreat
open Go.RowKit Go.Maps

theorem pow_small {n i : Nat} (hn : n ≤ 12) (hi : i ≤ 3) : n ^ i ≤ 1728 := Nat.le_trans (Nat.pow_le_pow_left hn i) (Nat.pow_le_pow_right (n := 12) (by omega) hi)

def rowP (P : Nat) (x : Int) (ys : List Int) : List Int := ys.map fun y => x * (P : Int) + y
def prodL (P : Nat) (xs ys : List Int) : List Int := xs.flatMap fun x => rowP P x ys
theorem rowP_take {P : Nat} {x y : Int} {ys : List Int} {j : Nat} (h : ys[j]? = some y) : rowP P x (ys.take (j + 1)) = rowP P x (ys.take j) ++ [x * (P : Int) + y] := by
 unfold rowP
 rw [List.take_add_one, h]
 simp
theorem prodL_take {P : Nat} {x : Int} {xs ys : List Int} {i : Nat} (h : xs[i]? = some x) : prodL P (xs.take (i + 1)) ys = prodL P (xs.take i) ys ++ rowP P x ys := by
 unfold prodL
 rw [List.take_add_one, h]
 simp
theorem rowP_len (P : Nat) (x : Int) (ys : List Int) : (rowP P x ys).length = ys.length := by simp [rowP]
theorem prodL_len (P : Nat) (ys : List Int) : ∀ xs : List Int, (prodL P xs ys).length = xs.length * ys.length
 | [] => by simp [prodL]
 | x :: xs => by
  have h := prodL_len P ys xs
  unfold prodL at h ⊢
  rw [List.flatMap_cons, List.length_append, h, rowP_len, List.length_cons, Nat.succ_mul]
  omega

theorem relresz18 (tmps : Array Value) (w : World) (b : Nat) (a : Option Addr) (n c : Nat) (x e : Int) (ht : tmps.getD 6 undef = .pointer (some ⟨b, 0, none⟩)) (he : tmps.getD 7 undef = .int .i64 e) (h0 : w.cell? ⟨b, 0, none⟩ = some (.int .i64 x)) (h1 : w.cell? ⟨b, 1, none⟩ = some (.slice a n c)) :
  (results Tryz.f18 tmps).run Tryz.prog w = .ok (.tuple #[.agg #[.int .i64 x, .slice a n c], .int .i64 e]) w := by
 have ht' : tmps[6]?.getD undef = .pointer (some ⟨b, 0, none⟩) := by simpa using ht
 have he' : tmps[7]?.getD undef = .int .i64 e := by simpa using he
 simp [results, ht', he', go_sem, h0, h1, Result.andThen]

theorem product_calls (n k j : Nat) (xs ys : List Int) (xa ya : Option Addr) (xc yc : Nat) (w : World) (h : IntsW w xa xc xs) (h' : IntsW w ya yc ys) (hl : xs.length ≤ 900) (hl' : ys.length ≤ 900) (hn2 : n ≤ 12) (hkj : k + j ≤ 3) (hx : ∀ x ∈ xs, 0 ≤ x ∧ x ≤ 2000) (hy : ∀ y ∈ ys, 0 ≤ y ∧ y ≤ 2000) :
  Calls Tryz.prog 18 #[.int .i64 (n : Int), .agg #[.int .i64 (k : Int), .slice xa xs.length xc], .agg #[.int .i64 (j : Int), .slice ya ys.length yc]] w fun e w' => ∃ a c, e = .returned (.tuple #[.agg #[.int .i64 ((k + j : Nat) : Int), .slice a (prodL (n ^ j) xs ys).length c], .int .i64 0]) ∧ Span w.heap.size w'.heap.size w' (fun W => IntsW W a c (prodL (n ^ j) xs ys)) ∧ w.grownBy w' none := by
 obtain ⟨i0, hi0, hz0, hz1, hz2⟩ := info_parts info3
 obtain ⟨P, hP⟩ : ∃ P, n ^ j = P := ⟨_, rfl⟩
 have hP2 : P ≤ 1728 := by rw [← hP]; exact pow_small hn2 (by omega)
 have HPW := Lib.hid (fun (U : World) => relpower_calls n j U hn2 (by omega))
 rw [hP] at HPW ⊢
 clear hP
 obtain ⟨lx, hnx⟩ : ∃ l, xs.length = l := ⟨_, rfl⟩
 obtain ⟨ly, hny⟩ : ∃ l, ys.length = l := ⟨_, rfl⟩
 rw [hnx, hny]
 obtain ⟨S, hS⟩ : ∃ S, k + j = S := ⟨_, rfl⟩
 have hwS : IntKind.i64.wrap ((k : Int) + (j : Int)) = (S : Int) := by rw [IntWalk.i64_in _ (by omega)]; omega
 have hg1 := gAl w (.cells #[.int .i64 (k : Int), .slice xa lx xc] 40) none
 have hg2 := gAl (w.alloc (.cells #[.int .i64 (k : Int), .slice xa lx xc] 40)) (.cells #[.int .i64 (j : Int), .slice ya ly yc] 40) none
 have hg3 := gAl ((w.alloc (.cells #[.int .i64 (k : Int), .slice xa lx xc] 40)).alloc (.cells #[.int .i64 (j : Int), .slice ya ly yc] 40)) (.cells #[.int .i64 0, .slice none 0 0] 40) none
 have hg := (hg1.trans hg2).trans hg3
 have hc := six_cells w (.int .i64 (k : Int)) (.slice xa lx xc) (.int .i64 (j : Int)) (.slice ya ly yc) (.int .i64 0) (.slice none 0 0) 40 40 40
 have hsz : (((w.alloc (.cells #[.int .i64 (k : Int), .slice xa lx xc] 40)).alloc (.cells #[.int .i64 (j : Int), .slice ya ly yc] 40)).alloc (.cells #[.int .i64 0, .slice none 0 0] 40)).heap.size = w.heap.size + 3 := by simp
 obtain ⟨W, hW⟩ : ∃ W, ((w.alloc (.cells #[.int .i64 (k : Int), .slice xa lx xc] 40)).alloc (.cells #[.int .i64 (j : Int), .slice ya ly yc] 40)).alloc (.cells #[.int .i64 0, .slice none 0 0] 40) = W := ⟨_, rfl⟩
 rw [hW] at hg hc hsz
 have HG := Lib.hid (And.intro hg hsz)
 have HC := Lib.hid hc
 clear hg hg1 hg2 hg3 hsz
 obtain ⟨hlt, c0, c1, d0, d1, e0, e1, ef0, ef1⟩ := hc
 have hgt : decide (3 < ((S : Nat) : Int)) = false := by simp; omega
 have hgt' : decide (3 < S) = false := by simp; omega
 rw [hS]
 have HH := Lib.hid (And.intro (h.grown HG.out.1) (And.intro (h'.grown HG.out.1) (And.intro hnx (And.intro hny (And.intro hx hy)))))
 have hlx : lx ≤ 900 := by omega
 have hly : ly ≤ 900 := by omega
 clear h h' hx hy hnx hny hl hl' hkj
 have HB0 := Lib.hid (RowBox.new W (S : Int) (Bs := W.heap.size + 1) rfl)
 have HG0 := Lib.hid (gAl W (.cells #[.int .i64 (S : Int), .slice none 0 0] 40) none)
 have c1' := HG0.out.cell c1 (by simp)
 go_enter Tryz.func18, Tryz.ntmps18
 go_wp2_with fail
 clear hW hgt hgt' hwS c1'
 obtain ⟨W1, hW1⟩ : ∃ W1, W.alloc (.cells #[.int .i64 (S : Int), .slice none 0 0] 40) = W1 := ⟨_, rfl⟩
 rw [hW1] at HB0 HG0 ⊢
 clear hW1 c0 c1 d0 d1 e0 e1 ef0 ef1
 go_loopg [29] lx (fun g s29 wr => ∃ (i : Nat) (v : Value), s29 = .int .i64 (i : Int) ∧ g = lx - i ∧ i ≤ lx ∧ RowBox (W.heap.size + 1) wr W.heap.size (S : Int) v (prodL P (xs.take i) ys) ∧ W.grownBy wr none)
 case atStart => exact ⟨0, .slice none 0 0, rfl, rfl, Nat.zero_le _, HB0.out, HG0.out⟩
 case round =>
  obtain ⟨i, v, rfl, hgk, hi, hbx, hgr⟩ := hrel
  have HBO := Lib.hid hbx; clear hbx
  have HWO := Lib.hid hgr; clear hgr
  have HIO := Lib.hid hgk; clear hgk
  by_cases hin : i < lx
  ·
   have hinB : decide (i < lx) = true := by simpa using hin
   have hinI : (i : Int) < (lx : Int) := by omega
   obtain ⟨z, hz⟩ : ∃ z, xs[i]? = some z := ⟨_, List.getElem?_eq_getElem (by rw [HH.out.2.2.1]; exact hin)⟩
   obtain ⟨b, o, rfl, hcell0⟩ := HH.out.1.at hz
   have hzb := HH.out.2.2.2.2.1 z (List.mem_of_getElem? hz)
   obtain ⟨x, rfl⟩ : ∃ x : Nat, z = (x : Int) := ⟨z.toNat, by omega⟩
   have HPT := Lib.hid (prodL_take (P := P) (ys := ys) hz)
   have q1 := HWO.out.cell hcell0 (by simp)
   have q2 := HWO.out.cell HC.out.2.2.2.2.1 (by simp)
   clear hz
   obtain ⟨XP, hXP⟩ : ∃ X, x * P = X := ⟨_, rfl⟩
   have hXP2 : XP ≤ 2000 * 1728 := by rw [← hXP]; exact Nat.mul_le_mul (by omega) hP2
   have hwX : IntKind.i64.wrap ((x : Int) * (P : Int)) = (XP : Int) := by rw [show (x : Int) * (P : Int) = (XP : Int) by rw [← hXP]; simp]; exact IntWalk.i64_in _ (by omega)
   have HXP := Lib.hid (show (x : Int) * (P : Int) = (XP : Int) by rw [← hXP]; simp)
   clear hXP
   go_wp2_with fail
   clear q1 q2
   obtain ⟨wo, rfl⟩ : ∃ wo, wo = wr := ⟨_, rfl⟩
   go_loopg [36] ly (fun g s36 wr => ∃ (t : Nat) (v : Value), s36 = .int .i64 (t : Int) ∧ g = ly - t ∧ t ≤ ly ∧ RowBox (W.heap.size + 1) wr W.heap.size (S : Int) v (prodL P (xs.take i) ys ++ rowP P (x : Int) (ys.take t)) ∧ W.grownBy wr none)
   case atStart => exact ⟨0, v, rfl, rfl, Nat.zero_le _, by simpa [rowP] using HBO.out, HWO.out⟩
   case round =>
    obtain ⟨t, v, rfl, hgk, ht, hbx, hgr⟩ := hrel
    obtain ⟨T, hTT⟩ : ∃ T, prodL P (xs.take i) ys ++ rowP P (x : Int) (ys.take t) = T := ⟨_, rfl⟩
    rw [hTT] at hbx
    have HTT := Lib.hid hTT; clear hTT
    obtain ⟨va, vc, rfl⟩ := own_shape hbx.own
    have HBX := Lib.hid hbx; clear hbx
    have HWR := Lib.hid hgr; clear hgr
    have HI := Lib.hid hgk; clear hgk
    by_cases htn : t < ly
    ·
     have htB : decide (t < ly) = true := by simpa using htn
     have htI : (t : Int) < (ly : Int) := by omega
     obtain ⟨z, hz⟩ : ∃ z, ys[t]? = some z := ⟨_, List.getElem?_eq_getElem (by rw [HH.out.2.2.2.1]; exact htn)⟩
     obtain ⟨b', o', rfl, hcell1⟩ := HH.out.2.1.at hz
     have hzb' := HH.out.2.2.2.2.2 z (List.mem_of_getElem? hz)
     obtain ⟨y, rfl⟩ : ∃ y : Nat, z = (y : Int) := ⟨z.toNat, by omega⟩
     have hT := rowP_take (P := P) (x := (x : Int)) hz
     rw [HXP.out] at hT
     obtain ⟨V, hV⟩ : ∃ V, XP + y = V := ⟨_, rfl⟩
     have hwV : IntKind.i64.wrap ((XP : Int) + (y : Int)) = (V : Int) := by rw [IntWalk.i64_in _ (by omega)]; omega
     rw [show (XP : Int) + (y : Int) = (V : Int) by omega] at hT
     have HT := Lib.hid (show prodL P (xs.take i) ys ++ rowP P (x : Int) (ys.take (t + 1)) = T ++ [(V : Int)] by rw [hT, ← List.append_assoc, HTT.out])
     have HLEN := Lib.hid (show T.length ≤ 900000 by
      rw [← HTT.out, List.length_append, prodL_len, rowP_len, List.length_take, List.length_take, HH.out.2.2.1, HH.out.2.2.2.1]
      have h1 : min i lx * ly ≤ 899 * 900 := Nat.mul_le_mul (by omega) hly
      omega)
     have q1 := HWR.out.cell hcell1 (by simp)
     clear hz hT hV
     go_wp2_with fail
     clear q1
     have c0 := HC.out.2.2.2.1
     have HB0' : Hid (W.heap.size ≤ W.heap.size) := Lib.hid (Nat.le_refl _)
     have HS := Lib.hid (fun (Wh : World) (hWh : W.grownBy Wh none) => (⟨hWh, hWh.cell c0 (by simp)⟩ : (fun Wh : World => W.grownBy Wh none ∧ Wh.cell? ⟨w.heap.size + 1, 0, none⟩ = some (.int .i64 (j : Int))) Wh))
     clear c0
     have hdr : W.grownBy wr.drew none := gT HWR.out (⟨rfl, rfl, rfl, Nat.le_refl _, fun _ _ _ => rfl⟩ : wr.grownBy wr.drew none)
     refine wp_region_held_drew (S := (fun Wh : World => W.grownBy Wh none ∧ Wh.cell? ⟨w.heap.size + 1, 0, none⟩ = some (.int .i64 (j : Int)))) (by kernel_rfl) (HS.out _ hdr) (fun hH => ?_)
     refine wpAnyH_take (i := 0) (oi := { dst := some 40, op := Op.fieldAddr 40 (Operand.tmp 8) 1, type := 0, pos := "relation.go:95", after := #[], guard := none }) (v := ?_) rfl (by kernel_rfl) (by kernel_rfl) (by kernel_rfl) (fun _ _ _ h => h) (Or.inl ⟨by rfl, ?_⟩) (by assumption) ?_
     rotate_left 1
     · (intro W h; (try dsimp only at h); go_simp <;> with_reducible rfl)
     try simp only [Act.put, sA, sB, sC]
     refine wpAnyH_take (i := 2) (oi := { dst := some 42, op := Op.move (Operand.tmp 10), type := 3, pos := "relation.go:95", after := #[], guard := none }) (v := ?_) rfl (by kernel_rfl) (by kernel_rfl) (by kernel_rfl) (fun _ _ _ h => h) (Or.inl ⟨by rfl, ?_⟩) (by assumption) ?_
     rotate_left 1
     · (intro W h; (try dsimp only at h); go_simp <;> with_reducible rfl)
     try simp only [Act.put, sA, sB, sC]
     refine wpAnyH_take (i := 3) (oi := { dst := some 43, op := Op.move (Operand.tmp 0), type := 3, pos := "relation.go:95", after := #[], guard := none }) (v := ?_) rfl (by kernel_rfl) (by kernel_rfl) (by kernel_rfl) (fun _ _ _ h => h) (Or.inl ⟨by rfl, ?_⟩) (by assumption) ?_
     rotate_left 1
     · (intro W h; (try dsimp only at h); go_simp <;> with_reducible rfl)
     try simp only [Act.put, sA, sB, sC]
     refine wpAnyH_take (i := 4) (oi := { dst := some 44, op := Op.fieldAddr 40 (Operand.tmp 5) 0, type := 0, pos := "relation.go:95", after := #[], guard := none }) (v := ?_) rfl (by kernel_rfl) (by kernel_rfl) (by kernel_rfl) (fun _ _ _ h => h) (Or.inl ⟨by rfl, ?_⟩) (by assumption) ?_
     rotate_left 1
     · (intro W h; (try dsimp only at h); go_simp <;> with_reducible rfl)
     try simp only [Act.put, sA, sB, sC]
     refine wpAnyH_take (i := 5) (oi := { dst := some 45, op := Op.load 3 (Operand.tmp 44), type := 3, pos := "relation.go:95", after := #[{ on := 4, ground := Ground.data }], guard := none }) (v := ?_) rfl (by kernel_rfl) (by kernel_rfl) (by kernel_rfl) (fun _ _ _ h => h) (Or.inl ⟨by rfl, ?_⟩) (by assumption) ?_
     rotate_left 1
     · (intro W h; (try dsimp only at h); go_simp <;> with_reducible rfl)
     try simp only [Act.put, sA, sB, sC]
     refine wpAnyH_take (i := 8) (oi := { dst := some 48, op := Op.move (Operand.tmp 12), type := 3, pos := "relation.go:95", after := #[], guard := none }) (v := ?_) rfl (by kernel_rfl) (by kernel_rfl) (by kernel_rfl) (fun _ _ _ h => h) (Or.inl ⟨by rfl, ?_⟩) (by assumption) ?_
     rotate_left 1
     · (intro W h; (try dsimp only at h); go_simp <;> with_reducible rfl)
     try simp only [Act.put, sA, sB, sC]
     refine wpAnyH_ready (rs := [1, 6]) (by kernel_rfl) (by simp) ?_
     refine (AllReadyH.cons (o := { dst := some 41, op := Op.load 28 (Operand.tmp 40), type := 28, pos := "relation.go:95", after := #[{ on := 0, ground := Ground.data }], guard := none }) rfl (fun K hK => ?_) (AllReadyH.cons (o := { dst := some 46, op := Op.call { callee := Callee.value (Operand.func 59), args := #[Operand.tmp 43, Operand.tmp 45], argTypes := #[3, 3] }, type := 3, pos := "relation.go:95", after := #[{ on := 3, ground := Ground.data }, { on := 5, ground := Ground.data }], guard := none }) rfl (fun K hK => ?_) AllReadyH.nil))
     ·
      rw [if_pos (by rfl)]
      have hrow := (HBX.out).row
      go_simp
      clear hrow
      refine hK.out _ _ (HS.out _ hdr) (fun hH => ?_)
      clear hK K
      try simp only [Act.put, sA, sB, sC]
      refine wpAnyH_ready (rs := [6]) (by kernel_rfl) (by simp) ?_
      refine (AllReadyH.cons (o := { dst := some 46, op := Op.call { callee := Callee.value (Operand.func 59), args := #[Operand.tmp 43, Operand.tmp 45], argTypes := #[3, 3] }, type := 3, pos := "relation.go:95", after := #[{ on := 3, ground := Ground.data }, { on := 5, ground := Ground.data }], guard := none }) rfl (fun K hK => ?_) AllReadyH.nil)
      rw [if_pos (by rfl)]
      go_simp
      go_at_call 59
      refine (HPW.out _).mono ?_
      rintro e wc2 ⟨rfl, rfl⟩
      have hgr2 := hdr
      go_wp2_with fail
      refine hK.out _ _ (HS.out _ hgr2) (fun hH => ?_)
      clear hK K
      try simp only [Act.put, sA, sB, sC]
      refine wpAnyH_take (i := 7) (oi := { dst := some 47, op := Op.binOp BinOp.mul 3 (Operand.tmp 42) (Operand.tmp 46) 3, type := 3, pos := "relation.go:95", after := #[{ on := 2, ground := Ground.data }, { on := 6, ground := Ground.data }], guard := none }) (v := ?_) rfl (by kernel_rfl) (by kernel_rfl) (by kernel_rfl) (fun _ _ _ h => h) (Or.inl ⟨by rfl, ?_⟩) (by assumption) ?_
      rotate_left 1
      · (intro W h; (try dsimp only at h); go_simp <;> with_reducible rfl)
      try simp only [Act.put, sA, sB, sC]
      refine wpAnyH_take (i := 9) (oi := { dst := some 49, op := Op.binOp BinOp.add 3 (Operand.tmp 47) (Operand.tmp 48) 3, type := 3, pos := "relation.go:95", after := #[{ on := 7, ground := Ground.data }, { on := 8, ground := Ground.data }], guard := none }) (v := ?_) rfl (by kernel_rfl) (by kernel_rfl) (by kernel_rfl) (fun _ _ _ h => h) (Or.inl ⟨by rfl, ?_⟩) (by assumption) ?_
      rotate_left 1
      · (intro W h; (try dsimp only at h); go_simp <;> with_reducible rfl)
      try simp only [Act.put, sA, sB, sC]
      refine wpAnyH_ready (rs := [10]) (by kernel_rfl) (by simp) ?_
      refine (AllReadyH.cons (o := { dst := some 50, op := Op.buildSlice 28 1 #[(0, Operand.tmp 49)], type := 28, pos := "relation.go:95", after := #[{ on := 9, ground := Ground.data }], guard := none }) rfl (fun K hK => ?_) AllReadyH.nil)
      rw [if_pos (by rfl)]
      go_simp
      have haA : wr.grownBy ((World.alloc wr (.cells #[.int .i64 (V : Int)] 3)).drew) none := gT (gAl wr _ none) (⟨rfl, rfl, rfl, Nat.le_refl _, fun _ _ _ => rfl⟩ : (World.alloc wr (.cells #[.int .i64 (V : Int)] 3)).grownBy ((World.alloc wr (.cells #[.int .i64 (V : Int)] 3)).drew) none)
      have hnA : ∀ j u, [Value.int .i64 (V : Int)][j]? = some u → ((World.alloc wr (.cells #[.int .i64 (V : Int)] 3)).drew).cell? ((⟨wr.heap.size, 0, none⟩ : Addr).add j) = some u := cell_one_new wr _ _
      obtain ⟨WA, hWA⟩ : ∃ WA, (World.alloc wr (.cells #[.int .i64 (V : Int)] 3)).drew = WA := ⟨_, rfl⟩
      rw [hWA] at haA hnA ⊢
      clear hWA
      have HBA := HBX.out.grown haA
      have hgA := gT HWR.out haA
      refine hK.out _ _ (HS.out _ hgA) (fun hH => ?_)
      clear hK K
      try simp only [Act.put, sA, sB, sC]
      refine wpAnyH_ready (rs := [11]) (by kernel_rfl) (by simp) ?_
      refine (AllReadyH.cons (o := { dst := some 51, op := Op.call { callee := Callee.builtin Builtin.append, args := #[Operand.tmp 41, Operand.tmp 50], argTypes := #[28, 28] }, type := 28, pos := "relation.go:95", after := #[{ on := 1, ground := Ground.data }, { on := 10, ground := Ground.data }, { on := 6, ground := Ground.chain }], guard := none }) rfl (fun K hK => ?_) AllReadyH.nil)
      refine ready_append_gZ 28 3 (.tmp 41) (.tmp 50) rfl rfl Tryz.underlying28 hi0 hz0 hz1 hz2 rfl (by decide) (by omega) (W.heap.size + 1) _ _ (intCells _) rfl HBA.own ⟨wr.heap.size, 0, none⟩ [.int .i64 (V : Int)] rfl rfl hnA (fun u hu => by simp at hu; subst hu; rfl) (by have := HLEN.out; omega) (HBA.low.2) (fun v' w6 hown' hgrow6 hat6 => ?_)
      have hg6 := grown_own hgA hgrow6 (fun j hj => by have h1 := (HBA.own.lt j hj).1; have h2 := HBA.low.1; have h3 := HB0'.out; omega)
      obtain ⟨hs1, hs2⟩ := HBX.out.at_ haA hgrow6
      obtain ⟨rgA, rcA, rfl⟩ := own_shape hown'
      refine hK.out _ _ (HS.out _ hg6) (fun hH => ?_)
      clear hK K
      try simp only [Act.put, sA, sB, sC]
      refine wpAnyH_take (i := 12) (oi := { dst := some 52, op := Op.fieldAddr 40 (Operand.tmp 8) 1, type := 0, pos := "relation.go:95", after := #[{ on := 0, ground := Ground.phase }, { on := 1, ground := Ground.phase }, { on := 2, ground := Ground.phase }, { on := 3, ground := Ground.phase }, { on := 4, ground := Ground.phase }, { on := 5, ground := Ground.phase }, { on := 6, ground := Ground.phase }, { on := 7, ground := Ground.phase }, { on := 8, ground := Ground.phase }, { on := 9, ground := Ground.phase }, { on := 10, ground := Ground.phase }, { on := 11, ground := Ground.phase }], guard := none }) (v := ?_) rfl (by kernel_rfl) (by kernel_rfl) (by kernel_rfl) (fun _ _ _ h => h) (Or.inl ⟨by rfl, ?_⟩) (by assumption) ?_
      rotate_left 1
      · (intro W h; (try dsimp only at h); go_simp <;> with_reducible rfl)
      try simp only [Act.put, sA, sB, sC]
      refine wpAnyH_ready (rs := [13]) (by kernel_rfl) (by simp) ?_
      refine (AllReadyH.cons (o := { dst := none, op := Op.store 28 (Operand.tmp 52) (Operand.tmp 51), type := 0, pos := "relation.go:95", after := #[{ on := 12, ground := Ground.data }, { on := 11, ground := Ground.data }, { on := 11, ground := Ground.chain }, { on := 0, ground := Ground.phase }, { on := 1, ground := Ground.phase }, { on := 2, ground := Ground.phase }, { on := 3, ground := Ground.phase }, { on := 4, ground := Ground.phase }, { on := 5, ground := Ground.phase }, { on := 6, ground := Ground.phase }, { on := 7, ground := Ground.phase }, { on := 8, ground := Ground.phase }, { on := 9, ground := Ground.phase }, { on := 10, ground := Ground.phase }, { on := 11, ground := Ground.phase }], guard := none }) rfl (fun K hK => ?_) AllReadyH.nil)
      rw [if_pos (by rfl)]
      go_simp
      have hst := HBX.out.step haA hgrow6 hown'
      have hgs := HBX.out.grows2 hst HWR.out HB0'.out haA hgrow6
      refine hK.out _ _ (HS.out _ hgs) (fun hH => ?_)
      clear hK K
      try simp only [Act.put, sA, sB, sC]
      refine wpAnyH_done (by kernel_rfl) ?_ _
      have hEND := hgs
      clear hH
      have HE := Lib.hid (And.intro hst hgs)
      clear hst hgs hgrow6 hat6 hs1 hs2
      go_wp2_with fail
      go_roundg (ly - (t + 1))
      case measure => rw [HI.out]; omega
      case rel => exact ⟨t + 1, _, rfl, rfl, by omega, by rw [HT.out]; exact HE.out.1, HE.out.2⟩
     ·
      rw [if_pos (by rfl)]
      go_simp
      go_at_call 59
      refine (HPW.out _).mono ?_
      rintro e wc1 ⟨rfl, rfl⟩
      have hgr1 := hdr
      go_wp2_with fail
      refine hK.out _ _ (HS.out _ hgr1) (fun hH => ?_)
      clear hK K
      try simp only [Act.put, sA, sB, sC]
      refine wpAnyH_take (i := 7) (oi := { dst := some 47, op := Op.binOp BinOp.mul 3 (Operand.tmp 42) (Operand.tmp 46) 3, type := 3, pos := "relation.go:95", after := #[{ on := 2, ground := Ground.data }, { on := 6, ground := Ground.data }], guard := none }) (v := ?_) rfl (by kernel_rfl) (by kernel_rfl) (by kernel_rfl) (fun _ _ _ h => h) (Or.inl ⟨by rfl, ?_⟩) (by assumption) ?_
      rotate_left 1
      · (intro W h; (try dsimp only at h); go_simp <;> with_reducible rfl)
      try simp only [Act.put, sA, sB, sC]
      refine wpAnyH_take (i := 9) (oi := { dst := some 49, op := Op.binOp BinOp.add 3 (Operand.tmp 47) (Operand.tmp 48) 3, type := 3, pos := "relation.go:95", after := #[{ on := 7, ground := Ground.data }, { on := 8, ground := Ground.data }], guard := none }) (v := ?_) rfl (by kernel_rfl) (by kernel_rfl) (by kernel_rfl) (fun _ _ _ h => h) (Or.inl ⟨by rfl, ?_⟩) (by assumption) ?_
      rotate_left 1
      · (intro W h; (try dsimp only at h); go_simp <;> with_reducible rfl)
      try simp only [Act.put, sA, sB, sC]
      refine wpAnyH_ready (rs := [1, 10]) (by kernel_rfl) (by simp) ?_
      refine (AllReadyH.cons (o := { dst := some 41, op := Op.load 28 (Operand.tmp 40), type := 28, pos := "relation.go:95", after := #[{ on := 0, ground := Ground.data }], guard := none }) rfl (fun K hK => ?_) (AllReadyH.cons (o := { dst := some 50, op := Op.buildSlice 28 1 #[(0, Operand.tmp 49)], type := 28, pos := "relation.go:95", after := #[{ on := 9, ground := Ground.data }], guard := none }) rfl (fun K hK => ?_) AllReadyH.nil))
      ·
       rw [if_pos (by rfl)]
       have hrow := (HBX.out).row
       go_simp
       clear hrow
       refine hK.out _ _ (HS.out _ hgr1) (fun hH => ?_)
       clear hK K
       try simp only [Act.put, sA, sB, sC]
       refine wpAnyH_ready (rs := [10]) (by kernel_rfl) (by simp) ?_
       refine (AllReadyH.cons (o := { dst := some 50, op := Op.buildSlice 28 1 #[(0, Operand.tmp 49)], type := 28, pos := "relation.go:95", after := #[{ on := 9, ground := Ground.data }], guard := none }) rfl (fun K hK => ?_) AllReadyH.nil)
       rw [if_pos (by rfl)]
       go_simp
       have haA : wr.grownBy ((World.alloc wr (.cells #[.int .i64 (V : Int)] 3)).drew) none := gT (gAl wr _ none) (⟨rfl, rfl, rfl, Nat.le_refl _, fun _ _ _ => rfl⟩ : (World.alloc wr (.cells #[.int .i64 (V : Int)] 3)).grownBy ((World.alloc wr (.cells #[.int .i64 (V : Int)] 3)).drew) none)
       have hnA : ∀ j u, [Value.int .i64 (V : Int)][j]? = some u → ((World.alloc wr (.cells #[.int .i64 (V : Int)] 3)).drew).cell? ((⟨wr.heap.size, 0, none⟩ : Addr).add j) = some u := cell_one_new wr _ _
       obtain ⟨WA, hWA⟩ : ∃ WA, (World.alloc wr (.cells #[.int .i64 (V : Int)] 3)).drew = WA := ⟨_, rfl⟩
       rw [hWA] at haA hnA ⊢
       clear hWA
       have HBA := HBX.out.grown haA
       have hgA := gT HWR.out haA
       refine hK.out _ _ (HS.out _ hgA) (fun hH => ?_)
       clear hK K
       try simp only [Act.put, sA, sB, sC]
       refine wpAnyH_ready (rs := [11]) (by kernel_rfl) (by simp) ?_
       refine (AllReadyH.cons (o := { dst := some 51, op := Op.call { callee := Callee.builtin Builtin.append, args := #[Operand.tmp 41, Operand.tmp 50], argTypes := #[28, 28] }, type := 28, pos := "relation.go:95", after := #[{ on := 1, ground := Ground.data }, { on := 10, ground := Ground.data }, { on := 6, ground := Ground.chain }], guard := none }) rfl (fun K hK => ?_) AllReadyH.nil)
       refine ready_append_gZ 28 3 (.tmp 41) (.tmp 50) rfl rfl Tryz.underlying28 hi0 hz0 hz1 hz2 rfl (by decide) (by omega) (W.heap.size + 1) _ _ (intCells _) rfl HBA.own ⟨wr.heap.size, 0, none⟩ [.int .i64 (V : Int)] rfl rfl hnA (fun u hu => by simp at hu; subst hu; rfl) (by have := HLEN.out; omega) (HBA.low.2) (fun v' w6 hown' hgrow6 hat6 => ?_)
       have hg6 := grown_own hgA hgrow6 (fun j hj => by have h1 := (HBA.own.lt j hj).1; have h2 := HBA.low.1; have h3 := HB0'.out; omega)
       obtain ⟨hs1, hs2⟩ := HBX.out.at_ haA hgrow6
       obtain ⟨rgA, rcA, rfl⟩ := own_shape hown'
       refine hK.out _ _ (HS.out _ hg6) (fun hH => ?_)
       clear hK K
       try simp only [Act.put, sA, sB, sC]
       refine wpAnyH_take (i := 12) (oi := { dst := some 52, op := Op.fieldAddr 40 (Operand.tmp 8) 1, type := 0, pos := "relation.go:95", after := #[{ on := 0, ground := Ground.phase }, { on := 1, ground := Ground.phase }, { on := 2, ground := Ground.phase }, { on := 3, ground := Ground.phase }, { on := 4, ground := Ground.phase }, { on := 5, ground := Ground.phase }, { on := 6, ground := Ground.phase }, { on := 7, ground := Ground.phase }, { on := 8, ground := Ground.phase }, { on := 9, ground := Ground.phase }, { on := 10, ground := Ground.phase }, { on := 11, ground := Ground.phase }], guard := none }) (v := ?_) rfl (by kernel_rfl) (by kernel_rfl) (by kernel_rfl) (fun _ _ _ h => h) (Or.inl ⟨by rfl, ?_⟩) (by assumption) ?_
       rotate_left 1
       · (intro W h; (try dsimp only at h); go_simp <;> with_reducible rfl)
       try simp only [Act.put, sA, sB, sC]
       refine wpAnyH_ready (rs := [13]) (by kernel_rfl) (by simp) ?_
       refine (AllReadyH.cons (o := { dst := none, op := Op.store 28 (Operand.tmp 52) (Operand.tmp 51), type := 0, pos := "relation.go:95", after := #[{ on := 12, ground := Ground.data }, { on := 11, ground := Ground.data }, { on := 11, ground := Ground.chain }, { on := 0, ground := Ground.phase }, { on := 1, ground := Ground.phase }, { on := 2, ground := Ground.phase }, { on := 3, ground := Ground.phase }, { on := 4, ground := Ground.phase }, { on := 5, ground := Ground.phase }, { on := 6, ground := Ground.phase }, { on := 7, ground := Ground.phase }, { on := 8, ground := Ground.phase }, { on := 9, ground := Ground.phase }, { on := 10, ground := Ground.phase }, { on := 11, ground := Ground.phase }], guard := none }) rfl (fun K hK => ?_) AllReadyH.nil)
       rw [if_pos (by rfl)]
       go_simp
       have hst := HBX.out.step haA hgrow6 hown'
       have hgs := HBX.out.grows2 hst HWR.out HB0'.out haA hgrow6
       refine hK.out _ _ (HS.out _ hgs) (fun hH => ?_)
       clear hK K
       try simp only [Act.put, sA, sB, sC]
       refine wpAnyH_done (by kernel_rfl) ?_ _
       have hEND := hgs
       clear hH
       have HE := Lib.hid (And.intro hst hgs)
       clear hst hgs hgrow6 hat6 hs1 hs2
       go_wp2_with fail
       go_roundg (ly - (t + 1))
       case measure => rw [HI.out]; omega
       case rel => exact ⟨t + 1, _, rfl, rfl, by omega, by rw [HT.out]; exact HE.out.1, HE.out.2⟩
      ·
       rw [if_pos (by rfl)]
       go_simp
       have haA : wr.grownBy ((World.alloc wr (.cells #[.int .i64 (V : Int)] 3)).drew) none := gT (gAl wr _ none) (⟨rfl, rfl, rfl, Nat.le_refl _, fun _ _ _ => rfl⟩ : (World.alloc wr (.cells #[.int .i64 (V : Int)] 3)).grownBy ((World.alloc wr (.cells #[.int .i64 (V : Int)] 3)).drew) none)
       have hnA : ∀ j u, [Value.int .i64 (V : Int)][j]? = some u → ((World.alloc wr (.cells #[.int .i64 (V : Int)] 3)).drew).cell? ((⟨wr.heap.size, 0, none⟩ : Addr).add j) = some u := cell_one_new wr _ _
       obtain ⟨WA, hWA⟩ : ∃ WA, (World.alloc wr (.cells #[.int .i64 (V : Int)] 3)).drew = WA := ⟨_, rfl⟩
       rw [hWA] at haA hnA ⊢
       clear hWA
       have HBA := HBX.out.grown haA
       have hgA := gT HWR.out haA
       refine hK.out _ _ (HS.out _ hgA) (fun hH => ?_)
       clear hK K
       try simp only [Act.put, sA, sB, sC]
       refine wpAnyH_ready (rs := [1]) (by kernel_rfl) (by simp) ?_
       refine (AllReadyH.cons (o := { dst := some 41, op := Op.load 28 (Operand.tmp 40), type := 28, pos := "relation.go:95", after := #[{ on := 0, ground := Ground.data }], guard := none }) rfl (fun K hK => ?_) AllReadyH.nil)
       rw [if_pos (by rfl)]
       have hrow := (HBA).row
       go_simp
       clear hrow
       refine hK.out _ _ (HS.out _ hgA) (fun hH => ?_)
       clear hK K
       try simp only [Act.put, sA, sB, sC]
       refine wpAnyH_ready (rs := [11]) (by kernel_rfl) (by simp) ?_
       refine (AllReadyH.cons (o := { dst := some 51, op := Op.call { callee := Callee.builtin Builtin.append, args := #[Operand.tmp 41, Operand.tmp 50], argTypes := #[28, 28] }, type := 28, pos := "relation.go:95", after := #[{ on := 1, ground := Ground.data }, { on := 10, ground := Ground.data }, { on := 6, ground := Ground.chain }], guard := none }) rfl (fun K hK => ?_) AllReadyH.nil)
       refine ready_append_gZ 28 3 (.tmp 41) (.tmp 50) rfl rfl Tryz.underlying28 hi0 hz0 hz1 hz2 rfl (by decide) (by omega) (W.heap.size + 1) _ _ (intCells _) rfl HBA.own ⟨wr.heap.size, 0, none⟩ [.int .i64 (V : Int)] rfl rfl hnA (fun u hu => by simp at hu; subst hu; rfl) (by have := HLEN.out; omega) (HBA.low.2) (fun v' w6 hown' hgrow6 hat6 => ?_)
       have hg6 := grown_own hgA hgrow6 (fun j hj => by have h1 := (HBA.own.lt j hj).1; have h2 := HBA.low.1; have h3 := HB0'.out; omega)
       obtain ⟨hs1, hs2⟩ := HBX.out.at_ haA hgrow6
       obtain ⟨rgA, rcA, rfl⟩ := own_shape hown'
       refine hK.out _ _ (HS.out _ hg6) (fun hH => ?_)
       clear hK K
       try simp only [Act.put, sA, sB, sC]
       refine wpAnyH_take (i := 12) (oi := { dst := some 52, op := Op.fieldAddr 40 (Operand.tmp 8) 1, type := 0, pos := "relation.go:95", after := #[{ on := 0, ground := Ground.phase }, { on := 1, ground := Ground.phase }, { on := 2, ground := Ground.phase }, { on := 3, ground := Ground.phase }, { on := 4, ground := Ground.phase }, { on := 5, ground := Ground.phase }, { on := 6, ground := Ground.phase }, { on := 7, ground := Ground.phase }, { on := 8, ground := Ground.phase }, { on := 9, ground := Ground.phase }, { on := 10, ground := Ground.phase }, { on := 11, ground := Ground.phase }], guard := none }) (v := ?_) rfl (by kernel_rfl) (by kernel_rfl) (by kernel_rfl) (fun _ _ _ h => h) (Or.inl ⟨by rfl, ?_⟩) (by assumption) ?_
       rotate_left 1
       · (intro W h; (try dsimp only at h); go_simp <;> with_reducible rfl)
       try simp only [Act.put, sA, sB, sC]
       refine wpAnyH_ready (rs := [13]) (by kernel_rfl) (by simp) ?_
       refine (AllReadyH.cons (o := { dst := none, op := Op.store 28 (Operand.tmp 52) (Operand.tmp 51), type := 0, pos := "relation.go:95", after := #[{ on := 12, ground := Ground.data }, { on := 11, ground := Ground.data }, { on := 11, ground := Ground.chain }, { on := 0, ground := Ground.phase }, { on := 1, ground := Ground.phase }, { on := 2, ground := Ground.phase }, { on := 3, ground := Ground.phase }, { on := 4, ground := Ground.phase }, { on := 5, ground := Ground.phase }, { on := 6, ground := Ground.phase }, { on := 7, ground := Ground.phase }, { on := 8, ground := Ground.phase }, { on := 9, ground := Ground.phase }, { on := 10, ground := Ground.phase }, { on := 11, ground := Ground.phase }], guard := none }) rfl (fun K hK => ?_) AllReadyH.nil)
       rw [if_pos (by rfl)]
       go_simp
       have hst := HBX.out.step haA hgrow6 hown'
       have hgs := HBX.out.grows2 hst HWR.out HB0'.out haA hgrow6
       refine hK.out _ _ (HS.out _ hgs) (fun hH => ?_)
       clear hK K
       try simp only [Act.put, sA, sB, sC]
       refine wpAnyH_done (by kernel_rfl) ?_ _
       have hEND := hgs
       clear hH
       have HE := Lib.hid (And.intro hst hgs)
       clear hst hgs hgrow6 hat6 hs1 hs2
       go_wp2_with fail
       go_roundg (ly - (t + 1))
       case measure => rw [HI.out]; omega
       case rel => exact ⟨t + 1, _, rfl, rfl, by omega, by rw [HT.out]; exact HE.out.1, HE.out.2⟩
    ·
     obtain rfl : t = ly := by omega
     have htB : decide (t < t) = false := by simp
     have hall : ys.take t = ys := List.take_of_length_le (by rw [HH.out.2.2.2.1]; exact Nat.le_refl _)
     go_wp2_with fail
     go_roundg (lx - (i + 1))
     case measure => rw [HIO.out]; omega
     case rel => exact ⟨i + 1, _, rfl, rfl, by omega, by rw [HPT.out]; have := HBX.out; rw [← HTT.out, hall] at this; exact this, HWR.out⟩
  ·
   obtain rfl : i = lx := by omega
   have hinB : decide (i < i) = false := by simp
   have hall : xs.take i = xs := List.take_of_length_le (by rw [HH.out.2.2.1]; exact Nat.le_refl _)
   have hbo := HBO.out
   rw [hall] at hbo
   obtain ⟨va, vc, hv, hi⟩ := hbo.ints
   subst hv
   replace hi := hi.map fun W (h : Ints W va vc _) => h.weak
   have r0 := hbo.c0
   have r1 := hbo.row
   obtain ⟨p, hp⟩ : ∃ p, (prodL P xs ys).length = p := ⟨_, rfl⟩
   rw [hp] at r1
   have g3 : wr.grownBy wr none := grown_refl wr none
   clear hbo hall
   have g := gT HWO.out g3
   have m0 := g.cell HC.out.2.2.2.2.2.1 (by simp)
   have m1 := g.cell HC.out.2.2.2.2.2.2.1 (by simp)
   have f0 := (grown_frozen g HC.out.1 0).trans HC.out.2.2.2.2.2.2.2.1
   have f1 := (grown_frozen g HC.out.1 1).trans HC.out.2.2.2.2.2.2.2.2
   have HI3 := Lib.hid hi
   have HG3 := Lib.hid g
   clear hi g
   go_wp2_with fail
   have hret := ret_rel (p := p) (k := (S : Int)) (B := w.heap.size + 2) (HI3.out.wide (by have := HG.out.2; omega) (Nat.le_refl _) (Nat.le_refl _)) (by omega) (HG.out.1.trans HG3.out)
   refine bodyPost_ret (relresz18 _ _ (w.heap.size + 2) va p vc (S : Int) 0 rfl rfl (by rw [World.cell?_setCell_other _ _ _ _ (by intro e; injection e with _ e; cases e)]; exact World.cell?_setCell_same _ _ _ m0) (World.cell?_setCell_same _ _ _ (by rw [World.cell?_setCell_other _ _ _ _ (by intro e; injection e with _ e; cases e)]; exact m1))) rfl ⟨va, vc, by rw [hp], hret⟩
end Go.Proofs.YthdhmflodiincaaGreat

/- The reference's Product. -/
import Derived.Test.YtkoigonbncpbaaaS22
import Derived.Test.YtkoigonbncpbaaaB4
namespace Go.Proofs.Ytkoigonbncpbaaa
open Go.RowKit

theorem results14 (tmps : Array Value) (w : World) (b : Nat) (a : Option Addr) (n c : Nat) (x e : Int) (ht : tmps.getD 6 undef = .pointer (some ⟨b, 0, none⟩)) (he : tmps.getD 7 undef = .int .i64 e) (h0 : w.cell? ⟨b, 0, none⟩ = some (.int .i64 x)) (h1 : w.cell? ⟨b, 1, none⟩ = some (.slice a n c)) :
    (results Try.f14 tmps).run Try.prog w = .ok (.tuple #[.agg #[.int .i64 x, .slice a n c], .int .i64 e]) w := by
  have ht' : tmps[6]?.getD undef = .pointer (some ⟨b, 0, none⟩) := by simpa using ht
  have he' : tmps[7]?.getD undef = .int .i64 e := by simpa using he
  simp [results, ht', he', go_sem, h0, h1, Result.andThen]

set_option maxRecDepth 100000 in
set_option maxHeartbeats 4000000 in
theorem rProduct_odd (n k j : Nat) (xs ys : List Int) (xa ya : Option Addr) (xc yc : Nat) (w : World) (hkj : 3 < k + j) (hk : k ≤ 3) (hj : j ≤ 3) :
    Calls Try.prog 14 #[.int .i64 (n : Int), .agg #[.int .i64 (k : Int), .slice xa xs.length xc], .agg #[.int .i64 (j : Int), .slice ya ys.length yc]] w fun e w' => e = .returned (.tuple #[.agg #[.int .i64 0, .slice none 0 0], .int .i64 42]) ∧ w.grownBy w' none := by
  obtain ⟨lx, hnx⟩ : ∃ l, xs.length = l := ⟨_, rfl⟩
  obtain ⟨ly, hny⟩ : ∃ l, ys.length = l := ⟨_, rfl⟩
  rw [hnx, hny]
  obtain ⟨S, hS⟩ : ∃ S, k + j = S := ⟨_, rfl⟩
  have hwS : IntKind.i64.wrap ((k : Int) + (j : Int)) = (S : Int) := by rw [IntWalk.i64_in _ (by omega)]; omega
  have hg1 := World.grownBy_alloc w (.cells #[.int .i64 (k : Int), .slice xa lx xc] 27) none
  have hg2 := World.grownBy_alloc (w.alloc (.cells #[.int .i64 (k : Int), .slice xa lx xc] 27)) (.cells #[.int .i64 (j : Int), .slice ya ly yc] 27) none
  have hg3 := World.grownBy_alloc ((w.alloc (.cells #[.int .i64 (k : Int), .slice xa lx xc] 27)).alloc (.cells #[.int .i64 (j : Int), .slice ya ly yc] 27)) (.cells #[.int .i64 0, .slice none 0 0] 27) none
  have hg := (hg1.trans hg2).trans hg3
  have hc := six_cells w (.int .i64 (k : Int)) (.slice xa lx xc) (.int .i64 (j : Int)) (.slice ya ly yc) (.int .i64 0) (.slice none 0 0) 27 27 27
  have hsz : (((w.alloc (.cells #[.int .i64 (k : Int), .slice xa lx xc] 27)).alloc (.cells #[.int .i64 (j : Int), .slice ya ly yc] 27)).alloc (.cells #[.int .i64 0, .slice none 0 0] 27)).heap.size = w.heap.size + 3 := by simp
  obtain ⟨W, hW⟩ : ∃ W, ((w.alloc (.cells #[.int .i64 (k : Int), .slice xa lx xc] 27)).alloc (.cells #[.int .i64 (j : Int), .slice ya ly yc] 27)).alloc (.cells #[.int .i64 0, .slice none 0 0] 27) = W := ⟨_, rfl⟩
  rw [hW] at hg hc hsz
  have HG := Lib.hid (And.intro hg hsz)
  have HC := Lib.hid hc
  clear hg hg1 hg2 hg3 hsz
  obtain ⟨hlt, c0, c1, d0, d1, e0, e1, ef0, ef1⟩ := hc
  have hgt : decide (3 < ((S : Nat) : Int)) = true := by simp; omega
  have hgt' : decide (3 < S) = true := by simp; omega
  go_enter Try.func14, Try.ntmps14
  go_wp2_with fail
  exact bodyPost_ret (results14 _ _ (w.heap.size + 2) none 0 0 0 42 rfl rfl (by rw [World.cell?_setCell_other _ _ _ _ (by intro e; injection e with _ e; cases e)]; exact World.cell?_setCell_same _ _ _ e0) (World.cell?_setCell_same _ _ _ (by rw [World.cell?_setCell_other _ _ _ _ (by intro e; injection e with _ e; cases e)]; exact e1))) rfl ⟨rfl, grown_own (grown_own HG.out.1 (grown_set _ (w.heap.size + 2) 0 _) (fun k hk => by cases hk; omega)) (grown_set _ (w.heap.size + 2) 1 _) (fun k hk => by cases hk; omega)⟩

set_option maxRecDepth 100000 in
set_option maxHeartbeats 8000000 in
theorem rProduct_calls (n k j : Nat) (xs ys : List Int) (xa ya : Option Addr) (xc yc : Nat) (w : World) (h : IntsW w xa xc xs) (h' : IntsW w ya yc ys) (hl : xs.length ≤ 900) (hl' : ys.length ≤ 900) (hn2 : n ≤ 12) (hkj : k + j ≤ 3) (hx : ∀ x ∈ xs, 0 ≤ x ∧ x ≤ 2000) (hy : ∀ y ∈ ys, 0 ≤ y ∧ y ≤ 2000) :
    Calls Try.prog 14 #[.int .i64 (n : Int), .agg #[.int .i64 (k : Int), .slice xa xs.length xc], .agg #[.int .i64 (j : Int), .slice ya ys.length yc]] w fun e w' => ∃ a c, e = .returned (.tuple #[.agg #[.int .i64 ((k + j : Nat) : Int), .slice a (prodL (n ^ j) xs ys).length c], .int .i64 0]) ∧ Span w.heap.size w'.heap.size w' (fun W => IntsW W a c (prodL (n ^ j) xs ys)) ∧ w.grownBy w' none := by
  obtain ⟨i0, hi0, hz0, hz1, hz2⟩ := info_parts info3
  obtain ⟨P, hP⟩ : ∃ P, n ^ j = P := ⟨_, rfl⟩
  have hP2 : P ≤ 1728 := by rw [← hP]; exact pow_small hn2 (by omega)
  have HPW := Lib.hid (fun (U : World) => power9_calls n j U hn2 (by omega))
  rw [hP] at HPW ⊢
  clear hP
  obtain ⟨lx, hnx⟩ : ∃ l, xs.length = l := ⟨_, rfl⟩
  obtain ⟨ly, hny⟩ : ∃ l, ys.length = l := ⟨_, rfl⟩
  rw [hnx, hny]
  obtain ⟨S, hS⟩ : ∃ S, k + j = S := ⟨_, rfl⟩
  have hwS : IntKind.i64.wrap ((k : Int) + (j : Int)) = (S : Int) := by rw [IntWalk.i64_in _ (by omega)]; omega
  have hg1 := World.grownBy_alloc w (.cells #[.int .i64 (k : Int), .slice xa lx xc] 27) none
  have hg2 := World.grownBy_alloc (w.alloc (.cells #[.int .i64 (k : Int), .slice xa lx xc] 27)) (.cells #[.int .i64 (j : Int), .slice ya ly yc] 27) none
  have hg3 := World.grownBy_alloc ((w.alloc (.cells #[.int .i64 (k : Int), .slice xa lx xc] 27)).alloc (.cells #[.int .i64 (j : Int), .slice ya ly yc] 27)) (.cells #[.int .i64 0, .slice none 0 0] 27) none
  have hg := (hg1.trans hg2).trans hg3
  have hc := six_cells w (.int .i64 (k : Int)) (.slice xa lx xc) (.int .i64 (j : Int)) (.slice ya ly yc) (.int .i64 0) (.slice none 0 0) 27 27 27
  have hsz : (((w.alloc (.cells #[.int .i64 (k : Int), .slice xa lx xc] 27)).alloc (.cells #[.int .i64 (j : Int), .slice ya ly yc] 27)).alloc (.cells #[.int .i64 0, .slice none 0 0] 27)).heap.size = w.heap.size + 3 := by simp
  obtain ⟨W, hW⟩ : ∃ W, ((w.alloc (.cells #[.int .i64 (k : Int), .slice xa lx xc] 27)).alloc (.cells #[.int .i64 (j : Int), .slice ya ly yc] 27)).alloc (.cells #[.int .i64 0, .slice none 0 0] 27) = W := ⟨_, rfl⟩
  rw [hW] at hg hc hsz
  have HG := Lib.hid (And.intro hg hsz)
  have HC := Lib.hid hc
  clear hg hg1 hg2 hg3 hsz
  obtain ⟨hlt, c0, c1, d0, d1, e0, e1, ef0, ef1⟩ := hc
  have hgt : decide (3 < ((S : Nat) : Int)) = false := by simp; omega
  have hgt' : decide (3 < S) = false := by simp; omega
  rw [hS]
  have HH := Lib.hid (And.intro (h.grown HG.out.1) (And.intro (h'.grown HG.out.1) (And.intro hnx (And.intro hny (And.intro hx hy)))))
  have hlx : lx ≤ 900 := by omega
  have hly : ly ≤ 900 := by omega
  clear h h' hx hy hnx hny hl hl' hkj
  have HB0 := Lib.hid (RowBox.new W (S : Int) (Bs := W.heap.size + 1) rfl)
  have HG0 := Lib.hid (World.grownBy_alloc W (.cells #[.int .i64 (S : Int), .slice none 0 0] 27) none)
  have c1' := HG0.out.cell c1 (by simp)
  go_enter Try.func14, Try.ntmps14
  go_wp2_with fail
  clear hW hgt hgt' hwS c1'
  obtain ⟨W1, hW1⟩ : ∃ W1, W.alloc (.cells #[.int .i64 (S : Int), .slice none 0 0] 27) = W1 := ⟨_, rfl⟩
  rw [hW1] at HB0 HG0 ⊢
  clear hW1 c0 c1 d0 d1 e0 e1 ef0 ef1
  go_loopg [9] lx (fun g s9 wr => ∃ (i : Nat) (v : Value), s9 = .int .i64 (i : Int) ∧ g = lx - i ∧ i ≤ lx ∧ RowBox (W.heap.size + 1) wr W.heap.size (S : Int) v (prodL P (xs.take i) ys) ∧ W.grownBy wr none)
  case atStart => exact ⟨0, .slice none 0 0, rfl, rfl, Nat.zero_le _, HB0.out, HG0.out⟩
  case round =>
    obtain ⟨i, v, rfl, hgk, hi, hbx, hgr⟩ := hrel
    have HBO := Lib.hid hbx; clear hbx
    have HWO := Lib.hid hgr; clear hgr
    have HIO := Lib.hid hgk; clear hgk
    have z1 := HWO.out.cell HC.out.2.2.1 (by simp)
    by_cases hin : i < lx
    · have hinB : decide (i < lx) = true := by simpa using hin
      have hinI : (i : Int) < (lx : Int) := by omega
      obtain ⟨z, hz⟩ : ∃ z, xs[i]? = some z := ⟨_, List.getElem?_eq_getElem (by rw [HH.out.2.2.1]; exact hin)⟩
      obtain ⟨b, o, rfl, hcell0⟩ := HH.out.1.at hz
      have hzb := HH.out.2.2.2.2.1 z (List.mem_of_getElem? hz)
      obtain ⟨x, rfl⟩ : ∃ x : Nat, z = (x : Int) := ⟨z.toNat, by omega⟩
      have HPT := Lib.hid (prodL_take (P := P) (ys := ys) hz)
      have HCE := Lib.hid hcell0
      clear hz hcell0
      obtain ⟨XP, hXP⟩ : ∃ X, x * P = X := ⟨_, rfl⟩
      have hXP2 : XP ≤ 2000 * 1728 := by rw [← hXP]; exact Nat.mul_le_mul (by omega) hP2
      have hwX : IntKind.i64.wrap ((x : Int) * (P : Int)) = (XP : Int) := by rw [show (x : Int) * (P : Int) = (XP : Int) by rw [← hXP]; simp]; exact IntWalk.i64_in _ (by omega)
      have HXP := Lib.hid (show (x : Int) * (P : Int) = (XP : Int) by rw [← hXP]; simp)
      clear hXP
      go_wp2_with fail
      clear z1
      obtain ⟨wo, rfl⟩ : ∃ wo, wo = wr := ⟨_, rfl⟩
      go_loopg [10] ly (fun g s10 wr => ∃ (t : Nat) (v : Value), s10 = .int .i64 (t : Int) ∧ g = ly - t ∧ t ≤ ly ∧ RowBox (W.heap.size + 1) wr W.heap.size (S : Int) v (prodL P (xs.take i) ys ++ rowP P (x : Int) (ys.take t)) ∧ W.grownBy wr none)
      case atStart => exact ⟨0, v, rfl, rfl, Nat.zero_le _, by simpa [rowP] using HBO.out, HWO.out⟩
      case round =>
        obtain ⟨t, v, rfl, hgk, ht, hbx, hgr⟩ := hrel
        obtain ⟨T, hTT⟩ : ∃ T, prodL P (xs.take i) ys ++ rowP P (x : Int) (ys.take t) = T := ⟨_, rfl⟩
        rw [hTT] at hbx
        have HTT := Lib.hid hTT; clear hTT
        obtain ⟨va, vc, rfl⟩ := own_shape hbx.own
        have HBX := Lib.hid hbx; clear hbx
        have HWR := Lib.hid hgr; clear hgr
        have HI := Lib.hid hgk; clear hgk
        have z2 := HWR.out.cell HC.out.2.2.2.2.1 (by simp)
        by_cases htn : t < ly
        · have htB : decide (t < ly) = true := by simpa using htn
          have htI : (t : Int) < (ly : Int) := by omega
          obtain ⟨z, hz⟩ : ∃ z, ys[t]? = some z := ⟨_, List.getElem?_eq_getElem (by rw [HH.out.2.2.2.1]; exact htn)⟩
          obtain ⟨b', o', rfl, hcell1⟩ := HH.out.2.1.at hz
          have hzb' := HH.out.2.2.2.2.2 z (List.mem_of_getElem? hz)
          obtain ⟨y, rfl⟩ : ∃ y : Nat, z = (y : Int) := ⟨z.toNat, by omega⟩
          have hT := rowP_take (P := P) (x := (x : Int)) hz
          rw [HXP.out] at hT
          obtain ⟨V, hV⟩ : ∃ V, XP + y = V := ⟨_, rfl⟩
          have hwV : IntKind.i64.wrap ((XP : Int) + (y : Int)) = (V : Int) := by rw [IntWalk.i64_in _ (by omega)]; omega
          rw [show (XP : Int) + (y : Int) = (V : Int) by omega] at hT
          have HT := Lib.hid (show prodL P (xs.take i) ys ++ rowP P (x : Int) (ys.take (t + 1)) = T ++ [(V : Int)] by rw [hT, ← List.append_assoc, HTT.out])
          have HLEN := Lib.hid (show T.length ≤ 900000 by
            rw [← HTT.out, List.length_append, prodL_len, rowP_len, List.length_take, List.length_take, HH.out.2.2.1, HH.out.2.2.2.1]
            have h1 : min i lx * ly ≤ 899 * 900 := Nat.mul_le_mul (by omega) hly
            omega)
          clear hz hT hV
          go_wp2_with fail
          clear z2
          have c0 := HC.out.2.2.2.1; have c1 := HC.out.2.2.1; have d1 := HC.out.2.2.2.2.1; have hcell0 := HCE.out
          have HB0' : Hid (W.heap.size ≤ W.heap.size) := Lib.hid (Nat.le_refl _)
          have HS := Lib.hid (fun (Wh : World) (hWh : W.grownBy Wh none) => (⟨hWh, hWh.cell c1 (by simp), hWh.cell hcell0 (by simp), hWh.cell c0 (by simp), hWh.cell d1 (by simp), hWh.cell hcell1 (by simp)⟩ : (fun Wh : World => W.grownBy Wh none ∧ Wh.cell? ⟨w.heap.size, 1, none⟩ = some (.slice (some ⟨b, o, none⟩) lx xc) ∧ Wh.cell? ⟨b, o + i, none⟩ = some (.int .i64 (x : Int)) ∧ Wh.cell? ⟨w.heap.size + 1, 0, none⟩ = some (.int .i64 (j : Int)) ∧ Wh.cell? ⟨w.heap.size + 1, 1, none⟩ = some (.slice (some ⟨b', o', none⟩) ly yc) ∧ Wh.cell? ⟨b', o' + t, none⟩ = some (.int .i64 (y : Int))) Wh))
          clear c0 c1 d1 hcell0
          have hdr : W.grownBy wr.drew none := World.grownBy.trans HWR.out (⟨rfl, rfl, rfl, Nat.le_refl _, fun _ _ _ => rfl⟩ : wr.grownBy wr.drew none)
          refine wp_region_held_drew (S := (fun Wh : World => W.grownBy Wh none ∧ Wh.cell? ⟨w.heap.size, 1, none⟩ = some (.slice (some ⟨b, o, none⟩) lx xc) ∧ Wh.cell? ⟨b, o + i, none⟩ = some (.int .i64 (x : Int)) ∧ Wh.cell? ⟨w.heap.size + 1, 0, none⟩ = some (.int .i64 (j : Int)) ∧ Wh.cell? ⟨w.heap.size + 1, 1, none⟩ = some (.slice (some ⟨b', o', none⟩) ly yc) ∧ Wh.cell? ⟨b', o' + t, none⟩ = some (.int .i64 (y : Int)))) (by kernel_rfl) (HS.out _ hdr) (fun hHeld => ?_)
          refine wpAnyH_take (i := 0) (oi := { dst := some 38, op := Op.fieldAddr 27 (Operand.tmp 8) 1, type := 0, pos := "ref.go:120", after := #[], guard := none }) (v := ?_) rfl (by kernel_rfl) (by kernel_rfl) (by kernel_rfl) (fun _ _ _ h => h) (Or.inl ⟨by rfl, ?_⟩) (by assumption) ?_
          rotate_left 1
          · (intro W hSW; (try dsimp only at hSW); first | (go_simp; done) | (go_simp; with_reducible rfl))
          try simp only [Act.put, List.setIfInBounds_toArray, List.set_cons_zero, List.set_cons_succ]
          refine wpAnyH_take (i := 2) (oi := { dst := some 40, op := Op.fieldAddr 27 (Operand.tmp 4) 1, type := 0, pos := "ref.go:120", after := #[], guard := none }) (v := ?_) rfl (by kernel_rfl) (by kernel_rfl) (by kernel_rfl) (fun _ _ _ h => h) (Or.inl ⟨by rfl, ?_⟩) (by assumption) ?_
          rotate_left 1
          · (intro W hSW; (try dsimp only at hSW); first | (go_simp; done) | (go_simp; with_reducible rfl))
          try simp only [Act.put, List.setIfInBounds_toArray, List.set_cons_zero, List.set_cons_succ]
          refine wpAnyH_take (i := 3) (oi := { dst := some 41, op := Op.load 25 (Operand.tmp 40), type := 25, pos := "ref.go:120", after := #[{ on := 2, ground := Ground.data }], guard := none }) (v := ?_) rfl (by kernel_rfl) (by kernel_rfl) (by kernel_rfl) (fun _ _ _ h => h) (Or.inl ⟨by rfl, ?_⟩) (by assumption) ?_
          rotate_left 1
          · (intro W hSW; (try dsimp only at hSW); first | (go_simp; done) | (go_simp; with_reducible rfl))
          try simp only [Act.put, List.setIfInBounds_toArray, List.set_cons_zero, List.set_cons_succ]
          refine wpAnyH_take (i := 4) (oi := { dst := some 42, op := Op.move (Operand.tmp 9), type := 3, pos := "ref.go:120", after := #[], guard := none }) (v := ?_) rfl (by kernel_rfl) (by kernel_rfl) (by kernel_rfl) (fun _ _ _ h => h) (Or.inl ⟨by rfl, ?_⟩) (by assumption) ?_
          rotate_left 1
          · (intro W hSW; (try dsimp only at hSW); first | (go_simp; done) | (go_simp; with_reducible rfl))
          try simp only [Act.put, List.setIfInBounds_toArray, List.set_cons_zero, List.set_cons_succ]
          refine wpAnyH_take (i := 5) (oi := { dst := some 43, op := Op.indexAddr 25 (Operand.tmp 41) (Operand.tmp 42), type := 0, pos := "ref.go:120", after := #[{ on := 3, ground := Ground.data }, { on := 4, ground := Ground.data }], guard := none }) (v := ?_) rfl (by kernel_rfl) (by kernel_rfl) (by kernel_rfl) (fun _ _ _ h => h) (Or.inl ⟨by rfl, ?_⟩) (by assumption) ?_
          rotate_left 1
          · (intro W hSW; (try dsimp only at hSW); first | (go_simp; done) | (go_simp; with_reducible rfl))
          try simp only [Act.put, List.setIfInBounds_toArray, List.set_cons_zero, List.set_cons_succ]
          refine wpAnyH_take (i := 6) (oi := { dst := some 44, op := Op.load 3 (Operand.tmp 43), type := 3, pos := "ref.go:120", after := #[{ on := 5, ground := Ground.data }], guard := none }) (v := ?_) rfl (by kernel_rfl) (by kernel_rfl) (by kernel_rfl) (fun _ _ _ h => h) (Or.inl ⟨by rfl, ?_⟩) (by assumption) ?_
          rotate_left 1
          · (intro W hSW; (try dsimp only at hSW); first | (go_simp; done) | (go_simp; with_reducible rfl))
          try simp only [Act.put, List.setIfInBounds_toArray, List.set_cons_zero, List.set_cons_succ]
          refine wpAnyH_take (i := 7) (oi := { dst := some 45, op := Op.move (Operand.tmp 0), type := 3, pos := "ref.go:120", after := #[], guard := none }) (v := ?_) rfl (by kernel_rfl) (by kernel_rfl) (by kernel_rfl) (fun _ _ _ h => h) (Or.inl ⟨by rfl, ?_⟩) (by assumption) ?_
          rotate_left 1
          · (intro W hSW; (try dsimp only at hSW); first | (go_simp; done) | (go_simp; with_reducible rfl))
          try simp only [Act.put, List.setIfInBounds_toArray, List.set_cons_zero, List.set_cons_succ]
          refine wpAnyH_take (i := 8) (oi := { dst := some 46, op := Op.fieldAddr 27 (Operand.tmp 5) 0, type := 0, pos := "ref.go:120", after := #[], guard := none }) (v := ?_) rfl (by kernel_rfl) (by kernel_rfl) (by kernel_rfl) (fun _ _ _ h => h) (Or.inl ⟨by rfl, ?_⟩) (by assumption) ?_
          rotate_left 1
          · (intro W hSW; (try dsimp only at hSW); first | (go_simp; done) | (go_simp; with_reducible rfl))
          try simp only [Act.put, List.setIfInBounds_toArray, List.set_cons_zero, List.set_cons_succ]
          refine wpAnyH_take (i := 9) (oi := { dst := some 47, op := Op.load 3 (Operand.tmp 46), type := 3, pos := "ref.go:120", after := #[{ on := 8, ground := Ground.data }], guard := none }) (v := ?_) rfl (by kernel_rfl) (by kernel_rfl) (by kernel_rfl) (fun _ _ _ h => h) (Or.inl ⟨by rfl, ?_⟩) (by assumption) ?_
          rotate_left 1
          · (intro W hSW; (try dsimp only at hSW); first | (go_simp; done) | (go_simp; with_reducible rfl))
          try simp only [Act.put, List.setIfInBounds_toArray, List.set_cons_zero, List.set_cons_succ]
          refine wpAnyH_take (i := 12) (oi := { dst := some 50, op := Op.fieldAddr 27 (Operand.tmp 5) 1, type := 0, pos := "ref.go:120", after := #[], guard := none }) (v := ?_) rfl (by kernel_rfl) (by kernel_rfl) (by kernel_rfl) (fun _ _ _ h => h) (Or.inl ⟨by rfl, ?_⟩) (by assumption) ?_
          rotate_left 1
          · (intro W hSW; (try dsimp only at hSW); first | (go_simp; done) | (go_simp; with_reducible rfl))
          try simp only [Act.put, List.setIfInBounds_toArray, List.set_cons_zero, List.set_cons_succ]
          refine wpAnyH_take (i := 13) (oi := { dst := some 51, op := Op.load 25 (Operand.tmp 50), type := 25, pos := "ref.go:120", after := #[{ on := 12, ground := Ground.data }], guard := none }) (v := ?_) rfl (by kernel_rfl) (by kernel_rfl) (by kernel_rfl) (fun _ _ _ h => h) (Or.inl ⟨by rfl, ?_⟩) (by assumption) ?_
          rotate_left 1
          · (intro W hSW; (try dsimp only at hSW); first | (go_simp; done) | (go_simp; with_reducible rfl))
          try simp only [Act.put, List.setIfInBounds_toArray, List.set_cons_zero, List.set_cons_succ]
          refine wpAnyH_take (i := 14) (oi := { dst := some 52, op := Op.move (Operand.tmp 10), type := 3, pos := "ref.go:120", after := #[], guard := none }) (v := ?_) rfl (by kernel_rfl) (by kernel_rfl) (by kernel_rfl) (fun _ _ _ h => h) (Or.inl ⟨by rfl, ?_⟩) (by assumption) ?_
          rotate_left 1
          · (intro W hSW; (try dsimp only at hSW); first | (go_simp; done) | (go_simp; with_reducible rfl))
          try simp only [Act.put, List.setIfInBounds_toArray, List.set_cons_zero, List.set_cons_succ]
          refine wpAnyH_take (i := 15) (oi := { dst := some 53, op := Op.indexAddr 25 (Operand.tmp 51) (Operand.tmp 52), type := 0, pos := "ref.go:120", after := #[{ on := 13, ground := Ground.data }, { on := 14, ground := Ground.data }], guard := none }) (v := ?_) rfl (by kernel_rfl) (by kernel_rfl) (by kernel_rfl) (fun _ _ _ h => h) (Or.inl ⟨by rfl, ?_⟩) (by assumption) ?_
          rotate_left 1
          · (intro W hSW; (try dsimp only at hSW); first | (go_simp; done) | (go_simp; with_reducible rfl))
          try simp only [Act.put, List.setIfInBounds_toArray, List.set_cons_zero, List.set_cons_succ]
          refine wpAnyH_take (i := 16) (oi := { dst := some 54, op := Op.load 3 (Operand.tmp 53), type := 3, pos := "ref.go:120", after := #[{ on := 15, ground := Ground.data }], guard := none }) (v := ?_) rfl (by kernel_rfl) (by kernel_rfl) (by kernel_rfl) (fun _ _ _ h => h) (Or.inl ⟨by rfl, ?_⟩) (by assumption) ?_
          rotate_left 1
          · (intro W hSW; (try dsimp only at hSW); first | (go_simp; done) | (go_simp; with_reducible rfl))
          try simp only [Act.put, List.setIfInBounds_toArray, List.set_cons_zero, List.set_cons_succ]
          refine wpAnyH_ready (rs := [1, 10]) (by kernel_rfl) (by simp) ?_
          refine (AllReadyH.cons (o := { dst := some 39, op := Op.load 25 (Operand.tmp 38), type := 25, pos := "ref.go:120", after := #[{ on := 0, ground := Ground.data }], guard := none }) rfl (fun K hK => ?_) (AllReadyH.cons (o := { dst := some 48, op := Op.call { callee := Callee.value (Operand.func 39), args := #[Operand.tmp 45, Operand.tmp 47], argTypes := #[3, 3] }, type := 3, pos := "ref.go:120", after := #[{ on := 7, ground := Ground.data }, { on := 9, ground := Ground.data }], guard := none }) rfl (fun K hK => ?_) AllReadyH.nil))
          · rw [if_pos (by rfl)]
            have hrow := (HBX.out).row
            go_simp
            clear hrow
            refine hK.out _ _ (HS.out _ hdr) (fun hHeld => ?_)
            clear hK K
            try simp only [Act.put, List.setIfInBounds_toArray, List.set_cons_zero, List.set_cons_succ]
            refine wpAnyH_ready (rs := [10]) (by kernel_rfl) (by simp) ?_
            refine (AllReadyH.cons (o := { dst := some 48, op := Op.call { callee := Callee.value (Operand.func 39), args := #[Operand.tmp 45, Operand.tmp 47], argTypes := #[3, 3] }, type := 3, pos := "ref.go:120", after := #[{ on := 7, ground := Ground.data }, { on := 9, ground := Ground.data }], guard := none }) rfl (fun K hK => ?_) AllReadyH.nil)
            rw [if_pos (by rfl)]
            go_simp
            go_at_call 39
            refine (HPW.out _).mono ?_
            rintro e wc2 ⟨rfl, rfl⟩
            have hgr2 := hdr
            go_wp2_with fail
            refine hK.out _ _ (HS.out _ hgr2) (fun hHeld => ?_)
            clear hK K
            try simp only [Act.put, List.setIfInBounds_toArray, List.set_cons_zero, List.set_cons_succ]
            refine wpAnyH_take (i := 11) (oi := { dst := some 49, op := Op.binOp BinOp.mul 3 (Operand.tmp 44) (Operand.tmp 48) 3, type := 3, pos := "ref.go:120", after := #[{ on := 6, ground := Ground.data }, { on := 10, ground := Ground.data }], guard := none }) (v := ?_) rfl (by kernel_rfl) (by kernel_rfl) (by kernel_rfl) (fun _ _ _ h => h) (Or.inl ⟨by rfl, ?_⟩) (by assumption) ?_
            rotate_left 1
            · (intro W hSW; (try dsimp only at hSW); first | (go_simp; done) | (go_simp; with_reducible rfl))
            try simp only [Act.put, List.setIfInBounds_toArray, List.set_cons_zero, List.set_cons_succ]
            refine wpAnyH_take (i := 17) (oi := { dst := some 55, op := Op.binOp BinOp.add 3 (Operand.tmp 49) (Operand.tmp 54) 3, type := 3, pos := "ref.go:120", after := #[{ on := 11, ground := Ground.data }, { on := 16, ground := Ground.data }], guard := none }) (v := ?_) rfl (by kernel_rfl) (by kernel_rfl) (by kernel_rfl) (fun _ _ _ h => h) (Or.inl ⟨by rfl, ?_⟩) (by assumption) ?_
            rotate_left 1
            · (intro W hSW; (try dsimp only at hSW); first | (go_simp; done) | (go_simp; with_reducible rfl))
            try simp only [Act.put, List.setIfInBounds_toArray, List.set_cons_zero, List.set_cons_succ]
            refine wpAnyH_ready (rs := [18]) (by kernel_rfl) (by simp) ?_
            refine (AllReadyH.cons (o := { dst := some 56, op := Op.buildSlice 25 1 #[(0, Operand.tmp 55)], type := 25, pos := "ref.go:120", after := #[{ on := 17, ground := Ground.data }], guard := none }) rfl (fun K hK => ?_) AllReadyH.nil)
            rw [if_pos (by rfl)]
            go_simp
            have haA : wr.grownBy ((World.alloc wr (.cells #[.int .i64 (V : Int)] 3)).drew) none := World.grownBy.trans (World.grownBy_alloc wr _ none) (⟨rfl, rfl, rfl, Nat.le_refl _, fun _ _ _ => rfl⟩ : (World.alloc wr (.cells #[.int .i64 (V : Int)] 3)).grownBy ((World.alloc wr (.cells #[.int .i64 (V : Int)] 3)).drew) none)
            have hnA : ∀ j u, [Value.int .i64 (V : Int)][j]? = some u → ((World.alloc wr (.cells #[.int .i64 (V : Int)] 3)).drew).cell? ((⟨wr.heap.size, 0, none⟩ : Addr).add j) = some u := cell_one_new wr _ _
            obtain ⟨WA, hWA⟩ : ∃ WA, (World.alloc wr (.cells #[.int .i64 (V : Int)] 3)).drew = WA := ⟨_, rfl⟩
            rw [hWA] at haA hnA ⊢
            clear hWA
            have HBA := HBX.out.grown haA
            have hgA := World.grownBy.trans HWR.out haA
            refine hK.out _ _ (HS.out _ hgA) (fun hHeld => ?_)
            clear hK K
            try simp only [Act.put, List.setIfInBounds_toArray, List.set_cons_zero, List.set_cons_succ]
            refine wpAnyH_ready (rs := [19]) (by kernel_rfl) (by simp) ?_
            refine (AllReadyH.cons (o := { dst := some 57, op := Op.call { callee := Callee.builtin Builtin.append, args := #[Operand.tmp 39, Operand.tmp 56], argTypes := #[25, 25] }, type := 25, pos := "ref.go:120", after := #[{ on := 1, ground := Ground.data }, { on := 18, ground := Ground.data }, { on := 10, ground := Ground.chain }], guard := none }) rfl (fun K hK => ?_) AllReadyH.nil)
            refine ready_append_g 25 3 (.tmp 39) (.tmp 56) rfl rfl Try.underlying25 hi0 hz0 hz1 hz2 rfl (by decide) (by omega) (W.heap.size + 1) _ _ (intCells _) rfl HBA.own ⟨wr.heap.size, 0, none⟩ [.int .i64 (V : Int)] rfl rfl hnA (fun u hu => by simp at hu; subst hu; rfl) (by have := HLEN.out; omega) (HBA.low.2) (fun v' w6 hown' hgrow6 hat6 => ?_)
            have hg6 := grown_own hgA hgrow6 (fun j hj => by have h1 := (HBA.own.lt j hj).1; have h2 := HBA.low.1; have h3 := HB0'.out; omega)
            obtain ⟨hs1, hs2⟩ := HBX.out.at_ haA hgrow6
            obtain ⟨rgA, rcA, rfl⟩ := own_shape hown'
            refine hK.out _ _ (HS.out _ hg6) (fun hHeld => ?_)
            clear hK K
            try simp only [Act.put, List.setIfInBounds_toArray, List.set_cons_zero, List.set_cons_succ]
            refine wpAnyH_take (i := 20) (oi := { dst := some 58, op := Op.fieldAddr 27 (Operand.tmp 8) 1, type := 0, pos := "ref.go:120", after := #[{ on := 0, ground := Ground.phase }, { on := 1, ground := Ground.phase }, { on := 2, ground := Ground.phase }, { on := 3, ground := Ground.phase }, { on := 4, ground := Ground.phase }, { on := 5, ground := Ground.phase }, { on := 6, ground := Ground.phase }, { on := 7, ground := Ground.phase }, { on := 8, ground := Ground.phase }, { on := 9, ground := Ground.phase }, { on := 10, ground := Ground.phase }, { on := 11, ground := Ground.phase }, { on := 12, ground := Ground.phase }, { on := 13, ground := Ground.phase }, { on := 14, ground := Ground.phase }, { on := 15, ground := Ground.phase }, { on := 16, ground := Ground.phase }, { on := 17, ground := Ground.phase }, { on := 18, ground := Ground.phase }, { on := 19, ground := Ground.phase }], guard := none }) (v := ?_) rfl (by kernel_rfl) (by kernel_rfl) (by kernel_rfl) (fun _ _ _ h => h) (Or.inl ⟨by rfl, ?_⟩) (by assumption) ?_
            rotate_left 1
            · (intro W hSW; (try dsimp only at hSW); first | (go_simp; done) | (go_simp; with_reducible rfl))
            try simp only [Act.put, List.setIfInBounds_toArray, List.set_cons_zero, List.set_cons_succ]
            refine wpAnyH_ready (rs := [21]) (by kernel_rfl) (by simp) ?_
            refine (AllReadyH.cons (o := { dst := none, op := Op.store 25 (Operand.tmp 58) (Operand.tmp 57), type := 0, pos := "ref.go:120", after := #[{ on := 20, ground := Ground.data }, { on := 19, ground := Ground.data }, { on := 19, ground := Ground.chain }, { on := 0, ground := Ground.phase }, { on := 1, ground := Ground.phase }, { on := 2, ground := Ground.phase }, { on := 3, ground := Ground.phase }, { on := 4, ground := Ground.phase }, { on := 5, ground := Ground.phase }, { on := 6, ground := Ground.phase }, { on := 7, ground := Ground.phase }, { on := 8, ground := Ground.phase }, { on := 9, ground := Ground.phase }, { on := 10, ground := Ground.phase }, { on := 11, ground := Ground.phase }, { on := 12, ground := Ground.phase }, { on := 13, ground := Ground.phase }, { on := 14, ground := Ground.phase }, { on := 15, ground := Ground.phase }, { on := 16, ground := Ground.phase }, { on := 17, ground := Ground.phase }, { on := 18, ground := Ground.phase }, { on := 19, ground := Ground.phase }], guard := none }) rfl (fun K hK => ?_) AllReadyH.nil)
            rw [if_pos (by rfl)]
            go_simp
            have hst := HBX.out.step haA hgrow6 hown'
            have hgs := HBX.out.grows2 hst HWR.out HB0'.out haA hgrow6
            refine hK.out _ _ (HS.out _ hgs) (fun hHeld => ?_)
            clear hK K
            try simp only [Act.put, List.setIfInBounds_toArray, List.set_cons_zero, List.set_cons_succ]
            refine wpAnyH_done (by kernel_rfl) ?_ _
            have hEND := hgs
            clear hHeld
            have HE := Lib.hid (And.intro hst hgs)
            clear hst hgs hgrow6 hat6 hs1 hs2
            go_wp2_with fail
            go_roundg (ly - (t + 1))
            case measure => rw [HI.out]; omega
            case rel => exact ⟨t + 1, _, rfl, rfl, by omega, by rw [HT.out]; exact HE.out.1, HE.out.2⟩
          · rw [if_pos (by rfl)]
            go_simp
            go_at_call 39
            refine (HPW.out _).mono ?_
            rintro e wc1 ⟨rfl, rfl⟩
            have hgr1 := hdr
            go_wp2_with fail
            refine hK.out _ _ (HS.out _ hgr1) (fun hHeld => ?_)
            clear hK K
            try simp only [Act.put, List.setIfInBounds_toArray, List.set_cons_zero, List.set_cons_succ]
            refine wpAnyH_take (i := 11) (oi := { dst := some 49, op := Op.binOp BinOp.mul 3 (Operand.tmp 44) (Operand.tmp 48) 3, type := 3, pos := "ref.go:120", after := #[{ on := 6, ground := Ground.data }, { on := 10, ground := Ground.data }], guard := none }) (v := ?_) rfl (by kernel_rfl) (by kernel_rfl) (by kernel_rfl) (fun _ _ _ h => h) (Or.inl ⟨by rfl, ?_⟩) (by assumption) ?_
            rotate_left 1
            · (intro W hSW; (try dsimp only at hSW); first | (go_simp; done) | (go_simp; with_reducible rfl))
            try simp only [Act.put, List.setIfInBounds_toArray, List.set_cons_zero, List.set_cons_succ]
            refine wpAnyH_take (i := 17) (oi := { dst := some 55, op := Op.binOp BinOp.add 3 (Operand.tmp 49) (Operand.tmp 54) 3, type := 3, pos := "ref.go:120", after := #[{ on := 11, ground := Ground.data }, { on := 16, ground := Ground.data }], guard := none }) (v := ?_) rfl (by kernel_rfl) (by kernel_rfl) (by kernel_rfl) (fun _ _ _ h => h) (Or.inl ⟨by rfl, ?_⟩) (by assumption) ?_
            rotate_left 1
            · (intro W hSW; (try dsimp only at hSW); first | (go_simp; done) | (go_simp; with_reducible rfl))
            try simp only [Act.put, List.setIfInBounds_toArray, List.set_cons_zero, List.set_cons_succ]
            refine wpAnyH_ready (rs := [1, 18]) (by kernel_rfl) (by simp) ?_
            refine (AllReadyH.cons (o := { dst := some 39, op := Op.load 25 (Operand.tmp 38), type := 25, pos := "ref.go:120", after := #[{ on := 0, ground := Ground.data }], guard := none }) rfl (fun K hK => ?_) (AllReadyH.cons (o := { dst := some 56, op := Op.buildSlice 25 1 #[(0, Operand.tmp 55)], type := 25, pos := "ref.go:120", after := #[{ on := 17, ground := Ground.data }], guard := none }) rfl (fun K hK => ?_) AllReadyH.nil))
            · rw [if_pos (by rfl)]
              have hrow := (HBX.out).row
              go_simp
              clear hrow
              refine hK.out _ _ (HS.out _ hgr1) (fun hHeld => ?_)
              clear hK K
              try simp only [Act.put, List.setIfInBounds_toArray, List.set_cons_zero, List.set_cons_succ]
              refine wpAnyH_ready (rs := [18]) (by kernel_rfl) (by simp) ?_
              refine (AllReadyH.cons (o := { dst := some 56, op := Op.buildSlice 25 1 #[(0, Operand.tmp 55)], type := 25, pos := "ref.go:120", after := #[{ on := 17, ground := Ground.data }], guard := none }) rfl (fun K hK => ?_) AllReadyH.nil)
              rw [if_pos (by rfl)]
              go_simp
              have haA : wr.grownBy ((World.alloc wr (.cells #[.int .i64 (V : Int)] 3)).drew) none := World.grownBy.trans (World.grownBy_alloc wr _ none) (⟨rfl, rfl, rfl, Nat.le_refl _, fun _ _ _ => rfl⟩ : (World.alloc wr (.cells #[.int .i64 (V : Int)] 3)).grownBy ((World.alloc wr (.cells #[.int .i64 (V : Int)] 3)).drew) none)
              have hnA : ∀ j u, [Value.int .i64 (V : Int)][j]? = some u → ((World.alloc wr (.cells #[.int .i64 (V : Int)] 3)).drew).cell? ((⟨wr.heap.size, 0, none⟩ : Addr).add j) = some u := cell_one_new wr _ _
              obtain ⟨WA, hWA⟩ : ∃ WA, (World.alloc wr (.cells #[.int .i64 (V : Int)] 3)).drew = WA := ⟨_, rfl⟩
              rw [hWA] at haA hnA ⊢
              clear hWA
              have HBA := HBX.out.grown haA
              have hgA := World.grownBy.trans HWR.out haA
              refine hK.out _ _ (HS.out _ hgA) (fun hHeld => ?_)
              clear hK K
              try simp only [Act.put, List.setIfInBounds_toArray, List.set_cons_zero, List.set_cons_succ]
              refine wpAnyH_ready (rs := [19]) (by kernel_rfl) (by simp) ?_
              refine (AllReadyH.cons (o := { dst := some 57, op := Op.call { callee := Callee.builtin Builtin.append, args := #[Operand.tmp 39, Operand.tmp 56], argTypes := #[25, 25] }, type := 25, pos := "ref.go:120", after := #[{ on := 1, ground := Ground.data }, { on := 18, ground := Ground.data }, { on := 10, ground := Ground.chain }], guard := none }) rfl (fun K hK => ?_) AllReadyH.nil)
              refine ready_append_g 25 3 (.tmp 39) (.tmp 56) rfl rfl Try.underlying25 hi0 hz0 hz1 hz2 rfl (by decide) (by omega) (W.heap.size + 1) _ _ (intCells _) rfl HBA.own ⟨wr.heap.size, 0, none⟩ [.int .i64 (V : Int)] rfl rfl hnA (fun u hu => by simp at hu; subst hu; rfl) (by have := HLEN.out; omega) (HBA.low.2) (fun v' w6 hown' hgrow6 hat6 => ?_)
              have hg6 := grown_own hgA hgrow6 (fun j hj => by have h1 := (HBA.own.lt j hj).1; have h2 := HBA.low.1; have h3 := HB0'.out; omega)
              obtain ⟨hs1, hs2⟩ := HBX.out.at_ haA hgrow6
              obtain ⟨rgA, rcA, rfl⟩ := own_shape hown'
              refine hK.out _ _ (HS.out _ hg6) (fun hHeld => ?_)
              clear hK K
              try simp only [Act.put, List.setIfInBounds_toArray, List.set_cons_zero, List.set_cons_succ]
              refine wpAnyH_take (i := 20) (oi := { dst := some 58, op := Op.fieldAddr 27 (Operand.tmp 8) 1, type := 0, pos := "ref.go:120", after := #[{ on := 0, ground := Ground.phase }, { on := 1, ground := Ground.phase }, { on := 2, ground := Ground.phase }, { on := 3, ground := Ground.phase }, { on := 4, ground := Ground.phase }, { on := 5, ground := Ground.phase }, { on := 6, ground := Ground.phase }, { on := 7, ground := Ground.phase }, { on := 8, ground := Ground.phase }, { on := 9, ground := Ground.phase }, { on := 10, ground := Ground.phase }, { on := 11, ground := Ground.phase }, { on := 12, ground := Ground.phase }, { on := 13, ground := Ground.phase }, { on := 14, ground := Ground.phase }, { on := 15, ground := Ground.phase }, { on := 16, ground := Ground.phase }, { on := 17, ground := Ground.phase }, { on := 18, ground := Ground.phase }, { on := 19, ground := Ground.phase }], guard := none }) (v := ?_) rfl (by kernel_rfl) (by kernel_rfl) (by kernel_rfl) (fun _ _ _ h => h) (Or.inl ⟨by rfl, ?_⟩) (by assumption) ?_
              rotate_left 1
              · (intro W hSW; (try dsimp only at hSW); first | (go_simp; done) | (go_simp; with_reducible rfl))
              try simp only [Act.put, List.setIfInBounds_toArray, List.set_cons_zero, List.set_cons_succ]
              refine wpAnyH_ready (rs := [21]) (by kernel_rfl) (by simp) ?_
              refine (AllReadyH.cons (o := { dst := none, op := Op.store 25 (Operand.tmp 58) (Operand.tmp 57), type := 0, pos := "ref.go:120", after := #[{ on := 20, ground := Ground.data }, { on := 19, ground := Ground.data }, { on := 19, ground := Ground.chain }, { on := 0, ground := Ground.phase }, { on := 1, ground := Ground.phase }, { on := 2, ground := Ground.phase }, { on := 3, ground := Ground.phase }, { on := 4, ground := Ground.phase }, { on := 5, ground := Ground.phase }, { on := 6, ground := Ground.phase }, { on := 7, ground := Ground.phase }, { on := 8, ground := Ground.phase }, { on := 9, ground := Ground.phase }, { on := 10, ground := Ground.phase }, { on := 11, ground := Ground.phase }, { on := 12, ground := Ground.phase }, { on := 13, ground := Ground.phase }, { on := 14, ground := Ground.phase }, { on := 15, ground := Ground.phase }, { on := 16, ground := Ground.phase }, { on := 17, ground := Ground.phase }, { on := 18, ground := Ground.phase }, { on := 19, ground := Ground.phase }], guard := none }) rfl (fun K hK => ?_) AllReadyH.nil)
              rw [if_pos (by rfl)]
              go_simp
              have hst := HBX.out.step haA hgrow6 hown'
              have hgs := HBX.out.grows2 hst HWR.out HB0'.out haA hgrow6
              refine hK.out _ _ (HS.out _ hgs) (fun hHeld => ?_)
              clear hK K
              try simp only [Act.put, List.setIfInBounds_toArray, List.set_cons_zero, List.set_cons_succ]
              refine wpAnyH_done (by kernel_rfl) ?_ _
              have hEND := hgs
              clear hHeld
              have HE := Lib.hid (And.intro hst hgs)
              clear hst hgs hgrow6 hat6 hs1 hs2
              go_wp2_with fail
              go_roundg (ly - (t + 1))
              case measure => rw [HI.out]; omega
              case rel => exact ⟨t + 1, _, rfl, rfl, by omega, by rw [HT.out]; exact HE.out.1, HE.out.2⟩
            · rw [if_pos (by rfl)]
              go_simp
              have haA : wr.grownBy ((World.alloc wr (.cells #[.int .i64 (V : Int)] 3)).drew) none := World.grownBy.trans (World.grownBy_alloc wr _ none) (⟨rfl, rfl, rfl, Nat.le_refl _, fun _ _ _ => rfl⟩ : (World.alloc wr (.cells #[.int .i64 (V : Int)] 3)).grownBy ((World.alloc wr (.cells #[.int .i64 (V : Int)] 3)).drew) none)
              have hnA : ∀ j u, [Value.int .i64 (V : Int)][j]? = some u → ((World.alloc wr (.cells #[.int .i64 (V : Int)] 3)).drew).cell? ((⟨wr.heap.size, 0, none⟩ : Addr).add j) = some u := cell_one_new wr _ _
              obtain ⟨WA, hWA⟩ : ∃ WA, (World.alloc wr (.cells #[.int .i64 (V : Int)] 3)).drew = WA := ⟨_, rfl⟩
              rw [hWA] at haA hnA ⊢
              clear hWA
              have HBA := HBX.out.grown haA
              have hgA := World.grownBy.trans HWR.out haA
              refine hK.out _ _ (HS.out _ hgA) (fun hHeld => ?_)
              clear hK K
              try simp only [Act.put, List.setIfInBounds_toArray, List.set_cons_zero, List.set_cons_succ]
              refine wpAnyH_ready (rs := [1]) (by kernel_rfl) (by simp) ?_
              refine (AllReadyH.cons (o := { dst := some 39, op := Op.load 25 (Operand.tmp 38), type := 25, pos := "ref.go:120", after := #[{ on := 0, ground := Ground.data }], guard := none }) rfl (fun K hK => ?_) AllReadyH.nil)
              rw [if_pos (by rfl)]
              have hrow := (HBA).row
              go_simp
              clear hrow
              refine hK.out _ _ (HS.out _ hgA) (fun hHeld => ?_)
              clear hK K
              try simp only [Act.put, List.setIfInBounds_toArray, List.set_cons_zero, List.set_cons_succ]
              refine wpAnyH_ready (rs := [19]) (by kernel_rfl) (by simp) ?_
              refine (AllReadyH.cons (o := { dst := some 57, op := Op.call { callee := Callee.builtin Builtin.append, args := #[Operand.tmp 39, Operand.tmp 56], argTypes := #[25, 25] }, type := 25, pos := "ref.go:120", after := #[{ on := 1, ground := Ground.data }, { on := 18, ground := Ground.data }, { on := 10, ground := Ground.chain }], guard := none }) rfl (fun K hK => ?_) AllReadyH.nil)
              refine ready_append_g 25 3 (.tmp 39) (.tmp 56) rfl rfl Try.underlying25 hi0 hz0 hz1 hz2 rfl (by decide) (by omega) (W.heap.size + 1) _ _ (intCells _) rfl HBA.own ⟨wr.heap.size, 0, none⟩ [.int .i64 (V : Int)] rfl rfl hnA (fun u hu => by simp at hu; subst hu; rfl) (by have := HLEN.out; omega) (HBA.low.2) (fun v' w6 hown' hgrow6 hat6 => ?_)
              have hg6 := grown_own hgA hgrow6 (fun j hj => by have h1 := (HBA.own.lt j hj).1; have h2 := HBA.low.1; have h3 := HB0'.out; omega)
              obtain ⟨hs1, hs2⟩ := HBX.out.at_ haA hgrow6
              obtain ⟨rgA, rcA, rfl⟩ := own_shape hown'
              refine hK.out _ _ (HS.out _ hg6) (fun hHeld => ?_)
              clear hK K
              try simp only [Act.put, List.setIfInBounds_toArray, List.set_cons_zero, List.set_cons_succ]
              refine wpAnyH_take (i := 20) (oi := { dst := some 58, op := Op.fieldAddr 27 (Operand.tmp 8) 1, type := 0, pos := "ref.go:120", after := #[{ on := 0, ground := Ground.phase }, { on := 1, ground := Ground.phase }, { on := 2, ground := Ground.phase }, { on := 3, ground := Ground.phase }, { on := 4, ground := Ground.phase }, { on := 5, ground := Ground.phase }, { on := 6, ground := Ground.phase }, { on := 7, ground := Ground.phase }, { on := 8, ground := Ground.phase }, { on := 9, ground := Ground.phase }, { on := 10, ground := Ground.phase }, { on := 11, ground := Ground.phase }, { on := 12, ground := Ground.phase }, { on := 13, ground := Ground.phase }, { on := 14, ground := Ground.phase }, { on := 15, ground := Ground.phase }, { on := 16, ground := Ground.phase }, { on := 17, ground := Ground.phase }, { on := 18, ground := Ground.phase }, { on := 19, ground := Ground.phase }], guard := none }) (v := ?_) rfl (by kernel_rfl) (by kernel_rfl) (by kernel_rfl) (fun _ _ _ h => h) (Or.inl ⟨by rfl, ?_⟩) (by assumption) ?_
              rotate_left 1
              · (intro W hSW; (try dsimp only at hSW); first | (go_simp; done) | (go_simp; with_reducible rfl))
              try simp only [Act.put, List.setIfInBounds_toArray, List.set_cons_zero, List.set_cons_succ]
              refine wpAnyH_ready (rs := [21]) (by kernel_rfl) (by simp) ?_
              refine (AllReadyH.cons (o := { dst := none, op := Op.store 25 (Operand.tmp 58) (Operand.tmp 57), type := 0, pos := "ref.go:120", after := #[{ on := 20, ground := Ground.data }, { on := 19, ground := Ground.data }, { on := 19, ground := Ground.chain }, { on := 0, ground := Ground.phase }, { on := 1, ground := Ground.phase }, { on := 2, ground := Ground.phase }, { on := 3, ground := Ground.phase }, { on := 4, ground := Ground.phase }, { on := 5, ground := Ground.phase }, { on := 6, ground := Ground.phase }, { on := 7, ground := Ground.phase }, { on := 8, ground := Ground.phase }, { on := 9, ground := Ground.phase }, { on := 10, ground := Ground.phase }, { on := 11, ground := Ground.phase }, { on := 12, ground := Ground.phase }, { on := 13, ground := Ground.phase }, { on := 14, ground := Ground.phase }, { on := 15, ground := Ground.phase }, { on := 16, ground := Ground.phase }, { on := 17, ground := Ground.phase }, { on := 18, ground := Ground.phase }, { on := 19, ground := Ground.phase }], guard := none }) rfl (fun K hK => ?_) AllReadyH.nil)
              rw [if_pos (by rfl)]
              go_simp
              have hst := HBX.out.step haA hgrow6 hown'
              have hgs := HBX.out.grows2 hst HWR.out HB0'.out haA hgrow6
              refine hK.out _ _ (HS.out _ hgs) (fun hHeld => ?_)
              clear hK K
              try simp only [Act.put, List.setIfInBounds_toArray, List.set_cons_zero, List.set_cons_succ]
              refine wpAnyH_done (by kernel_rfl) ?_ _
              have hEND := hgs
              clear hHeld
              have HE := Lib.hid (And.intro hst hgs)
              clear hst hgs hgrow6 hat6 hs1 hs2
              go_wp2_with fail
              go_roundg (ly - (t + 1))
              case measure => rw [HI.out]; omega
              case rel => exact ⟨t + 1, _, rfl, rfl, by omega, by rw [HT.out]; exact HE.out.1, HE.out.2⟩
        · obtain rfl : t = ly := by omega
          have htB : decide (t < t) = false := by simp
          have hall : ys.take t = ys := List.take_of_length_le (by rw [HH.out.2.2.2.1]; exact Nat.le_refl _)
          go_wp2_with fail
          go_roundg (lx - (i + 1))
          case measure => rw [HIO.out]; omega
          case rel => exact ⟨i + 1, _, rfl, rfl, by omega, by rw [HPT.out]; have := HBX.out; rw [← HTT.out, hall] at this; exact this, HWR.out⟩
    · obtain rfl : i = lx := by omega
      have hinB : decide (i < i) = false := by simp
      have hall : xs.take i = xs := List.take_of_length_le (by rw [HH.out.2.2.1]; exact Nat.le_refl _)
      have hbo := HBO.out
      rw [hall] at hbo
      obtain ⟨va, vc, hv, hi⟩ := hbo.ints
      subst hv
      replace hi := hi.map fun W (h : Ints W va vc _) => h.weak
      have r0 := hbo.c0
      have r1 := hbo.row
      obtain ⟨p, hp⟩ : ∃ p, (prodL P xs ys).length = p := ⟨_, rfl⟩
      rw [hp] at r1
      have g3 : wr.grownBy wr none := grown_refl wr none
      clear hbo hall
      have g := World.grownBy.trans HWO.out g3
      have m0 := g.cell HC.out.2.2.2.2.2.1 (by simp)
      have m1 := g.cell HC.out.2.2.2.2.2.2.1 (by simp)
      have f0 := (grown_frozen g HC.out.1 0).trans HC.out.2.2.2.2.2.2.2.1
      have f1 := (grown_frozen g HC.out.1 1).trans HC.out.2.2.2.2.2.2.2.2
      have HI3 := Lib.hid hi
      have HG3 := Lib.hid g
      clear hi g
      go_wp2_with fail
      have hret := ret_rel (p := p) (k := (S : Int)) (B := w.heap.size + 2) (HI3.out.wide (by have := HG.out.2; omega) (Nat.le_refl _) (Nat.le_refl _)) (by omega) (HG.out.1.trans HG3.out)
      refine bodyPost_ret (results14 _ _ (w.heap.size + 2) va p vc (S : Int) 0 rfl rfl (by rw [World.cell?_setCell_other _ _ _ _ (by intro e; injection e with _ e; cases e)]; exact World.cell?_setCell_same _ _ _ m0) (World.cell?_setCell_same _ _ _ (by rw [World.cell?_setCell_other _ _ _ _ (by intro e; injection e with _ e; cases e)]; exact m1))) rfl ⟨va, vc, by rw [hp], hret⟩
end Go.Proofs.Ytkoigonbncpbaaa

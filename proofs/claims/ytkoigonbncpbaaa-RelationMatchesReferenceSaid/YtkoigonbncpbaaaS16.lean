/- The reference's Join. -/
import Derived.Test.YtkoigonbncpbaaaS34
namespace Go.Proofs.Ytkoigonbncpbaaa
open Go.RowKit Go.Shelf

theorem uniq_snoc (S : List Int) (z : Int) : uniq (S ++ [z]) = addL (uniq S) z :=
  up_ext (uniq_up _) (addL_up (uniq_up _)) fun v => by
    rw [mem_uniq, mem_addL (uniq_up _), mem_uniq, List.mem_append, List.mem_singleton]
theorem uniq_len (S : List Int) : (uniq S).length ≤ S.length := ofTo_len
theorem results16 (tmps : Array Value) (w : World) (b : Nat) (a : Option Addr) (n c : Nat) (x e : Int) (ht : tmps.getD 6 undef = .pointer (some ⟨b, 0, none⟩)) (he : tmps.getD 7 undef = .int .i64 e) (h0 : w.cell? ⟨b, 0, none⟩ = some (.int .i64 x)) (h1 : w.cell? ⟨b, 1, none⟩ = some (.slice a n c)) :
    (results Try.f16 tmps).run Try.prog w = .ok (.tuple #[.agg #[.int .i64 x, .slice a n c], .int .i64 e]) w := by
  have ht' : tmps[6]?.getD undef = .pointer (some ⟨b, 0, none⟩) := by simpa using ht
  have he' : tmps[7]?.getD undef = .int .i64 e := by simpa using he
  simp [results, ht', he', go_sem, h0, h1, Result.andThen]

set_option maxRecDepth 100000 in
set_option maxHeartbeats 4000000 in
theorem rJoin_odd (n k j : Nat) (xs ys : List Int) (xa ya : Option Addr) (xc yc : Nat) (w : World) (hkj : k + j ≤ 2 ∨ 6 ≤ k + j) (hk : k ≤ 3) (hj : j ≤ 3) :
    Calls Try.prog 16 #[.int .i64 (n : Int), .agg #[.int .i64 (k : Int), .slice xa xs.length xc], .agg #[.int .i64 (j : Int), .slice ya ys.length yc]] w fun e w' => e = .returned (.tuple #[.agg #[.int .i64 0, .slice none 0 0], .int .i64 42]) ∧ w.grownBy w' none := by
  obtain ⟨lx, hnx⟩ : ∃ l, xs.length = l := ⟨_, rfl⟩
  obtain ⟨ly, hny⟩ : ∃ l, ys.length = l := ⟨_, rfl⟩
  rw [hnx, hny]
  obtain ⟨S, hS⟩ : ∃ S, k + j = S := ⟨_, rfl⟩
  obtain ⟨A, hA⟩ : ∃ A : Int, (S : Int) - 2 = A := ⟨_, rfl⟩
  have hwS : IntKind.i64.wrap ((k : Int) + (j : Int)) = (S : Int) := by rw [IntWalk.i64_in _ (by omega)]; omega
  have hwA : IntKind.i64.wrap ((S : Int) - 2) = A := by rw [IntWalk.i64_in _ (by omega)]; omega
  have hg1 := World.grownBy_alloc w (.cells #[.int .i64 (k : Int), .slice xa lx xc] 27) none
  have hg2 := World.grownBy_alloc (w.alloc (.cells #[.int .i64 (k : Int), .slice xa lx xc] 27)) (.cells #[.int .i64 (j : Int), .slice ya ly yc] 27) none
  have hg3 := World.grownBy_alloc ((w.alloc (.cells #[.int .i64 (k : Int), .slice xa lx xc] 27)).alloc (.cells #[.int .i64 (j : Int), .slice ya ly yc] 27)) (.cells #[.int .i64 0, .slice none 0 0] 27) none
  have hg := (hg1.trans hg2).trans hg3
  have hc := six_cells w (.int .i64 (k : Int)) (.slice xa lx xc) (.int .i64 (j : Int)) (.slice ya ly yc) (.int .i64 0) (.slice none 0 0) 27 27 27
  have hsz : (((w.alloc (.cells #[.int .i64 (k : Int), .slice xa lx xc] 27)).alloc (.cells #[.int .i64 (j : Int), .slice ya ly yc] 27)).alloc (.cells #[.int .i64 0, .slice none 0 0] 27)).heap.size = w.heap.size + 3 := by simp
  obtain ⟨W, hW⟩ : ∃ W, ((w.alloc (.cells #[.int .i64 (k : Int), .slice xa lx xc] 27)).alloc (.cells #[.int .i64 (j : Int), .slice ya ly yc] 27)).alloc (.cells #[.int .i64 0, .slice none 0 0] 27) = W := ⟨_, rfl⟩
  rw [hW] at hg hc hsz
  have HG := Lib.hid (And.intro hg hsz)
  have HC := Lib.hid hc
  clear hg hg1 hg2 hg3 hsz
  obtain ⟨hlt, c0, c1, d0, d1, e0, e1, ef0, ef1⟩ := hc
  go_enter Try.func16, Try.ntmps16
  by_cases h1 : k + j ≤ 2
  · have hlt1 : decide ((A : Int) < 1) = true := by simp; omega
    go_wp2_with fail
    exact bodyPost_ret (results16 _ _ (w.heap.size + 2) none 0 0 0 42 rfl rfl (by rw [World.cell?_setCell_other _ _ _ _ (by intro e; injection e with _ e; cases e)]; exact World.cell?_setCell_same _ _ _ e0) (World.cell?_setCell_same _ _ _ (by rw [World.cell?_setCell_other _ _ _ _ (by intro e; injection e with _ e; cases e)]; exact e1))) rfl ⟨rfl, grown_own (grown_own HG.out.1 (grown_set _ (w.heap.size + 2) 0 _) (fun k hk => by cases hk; omega)) (grown_set _ (w.heap.size + 2) 1 _) (fun k hk => by cases hk; omega)⟩
  · have hlt1 : decide ((A : Int) < 1) = false := by simp; omega
    have hgt : decide (3 < (A : Int)) = true := by simp; omega
    go_wp2_with fail
    exact bodyPost_ret (results16 _ _ (w.heap.size + 2) none 0 0 0 42 rfl rfl (by rw [World.cell?_setCell_other _ _ _ _ (by intro e; injection e with _ e; cases e)]; exact World.cell?_setCell_same _ _ _ e0) (World.cell?_setCell_same _ _ _ (by rw [World.cell?_setCell_other _ _ _ _ (by intro e; injection e with _ e; cases e)]; exact e1))) rfl ⟨rfl, grown_own (grown_own HG.out.1 (grown_set _ (w.heap.size + 2) 0 _) (fun k hk => by cases hk; omega)) (grown_set _ (w.heap.size + 2) 1 _) (fun k hk => by cases hk; omega)⟩

set_option maxRecDepth 100000 in
set_option maxHeartbeats 8000000 in
theorem rJoin_calls (n k j : Nat) (xs ys : List Int) (xa ya : Option Addr) (xc yc : Nat) (w : World) (h : IntsW w xa xc xs) (h' : IntsW w ya yc ys) (hl : xs.length ≤ 99) (hl' : ys.length ≤ 99) (hn1 : 1 ≤ n) (hn2 : n ≤ 12) (hj : 1 ≤ j) (hj3 : j ≤ 3) (hkj : 3 ≤ k + j) (hkj2 : k + j ≤ 5)
    (hx : ∀ x ∈ xs, 0 ≤ x ∧ x ≤ 2000) (hy : ∀ y ∈ ys, 0 ≤ y ∧ y ≤ 2000) :
    Calls Try.prog 16 #[.int .i64 (n : Int), .agg #[.int .i64 (k : Int), .slice xa xs.length xc], .agg #[.int .i64 (j : Int), .slice ya ys.length yc]] w fun e w' => ∃ a c, e = .returned (.tuple #[.agg #[.int .i64 ((k + j - 2 : Nat) : Int), .slice a (uniq (joinP n (n ^ (j - 1)) xs ys)).length c], .int .i64 0]) ∧ Span w.heap.size w'.heap.size w' (fun W => IntsW W a c (uniq (joinP n (n ^ (j - 1)) xs ys))) ∧ w.grownBy w' none := by
  obtain ⟨lx, hnx⟩ : ∃ l, xs.length = l := ⟨_, rfl⟩
  obtain ⟨ly, hny⟩ : ∃ l, ys.length = l := ⟨_, rfl⟩
  rw [hnx, hny]
  obtain ⟨S, hS⟩ : ∃ S, k + j = S := ⟨_, rfl⟩
  obtain ⟨A, hA⟩ : ∃ A : Int, (S : Int) - 2 = A := ⟨_, rfl⟩
  have hwS : IntKind.i64.wrap ((k : Int) + (j : Int)) = (S : Int) := by rw [IntWalk.i64_in _ (by omega)]; omega
  have hwA : IntKind.i64.wrap ((S : Int) - 2) = A := by rw [IntWalk.i64_in _ (by omega)]; omega
  have hg1 := World.grownBy_alloc w (.cells #[.int .i64 (k : Int), .slice xa lx xc] 27) none
  have hg2 := World.grownBy_alloc (w.alloc (.cells #[.int .i64 (k : Int), .slice xa lx xc] 27)) (.cells #[.int .i64 (j : Int), .slice ya ly yc] 27) none
  have hg3 := World.grownBy_alloc ((w.alloc (.cells #[.int .i64 (k : Int), .slice xa lx xc] 27)).alloc (.cells #[.int .i64 (j : Int), .slice ya ly yc] 27)) (.cells #[.int .i64 0, .slice none 0 0] 27) none
  have hg := (hg1.trans hg2).trans hg3
  have hc := six_cells w (.int .i64 (k : Int)) (.slice xa lx xc) (.int .i64 (j : Int)) (.slice ya ly yc) (.int .i64 0) (.slice none 0 0) 27 27 27
  have hsz : (((w.alloc (.cells #[.int .i64 (k : Int), .slice xa lx xc] 27)).alloc (.cells #[.int .i64 (j : Int), .slice ya ly yc] 27)).alloc (.cells #[.int .i64 0, .slice none 0 0] 27)).heap.size = w.heap.size + 3 := by simp
  obtain ⟨W, hW⟩ : ∃ W, ((w.alloc (.cells #[.int .i64 (k : Int), .slice xa lx xc] 27)).alloc (.cells #[.int .i64 (j : Int), .slice ya ly yc] 27)).alloc (.cells #[.int .i64 0, .slice none 0 0] 27) = W := ⟨_, rfl⟩
  rw [hW] at hg hc hsz
  have HG := Lib.hid (And.intro hg hsz)
  have HC := Lib.hid hc
  clear hg hg1 hg2 hg3 hsz
  obtain ⟨hlt, c0, c1, d0, d1, e0, e1, ef0, ef1⟩ := hc
  obtain ⟨Q, hQ⟩ : ∃ Q, k + j - 2 = Q := ⟨_, rfl⟩
  have hAQ : A = ((Q : Nat) : Int) := by omega
  rw [hQ]
  subst hAQ
  have hlt1 : decide (((Q : Nat) : Int) < 1) = false := by simp; omega
  have hgt : decide (3 < ((Q : Nat) : Int)) = false := by simp; omega
  have hlt2 : decide (Q < 1) = false := by simp; omega
  have hgt2 : decide (3 < Q) = false := by simp; omega
  clear hA hQ hS
  obtain ⟨r, hr⟩ : ∃ r, n ^ (j - 1) = r := ⟨_, rfl⟩
  have hrB : r ≤ 144 := by
    rw [← hr]
    have h1 : n ^ (j - 1) ≤ 12 ^ (j - 1) := Nat.pow_le_pow_left hn2 _
    have h2 : 12 ^ (j - 1) ≤ 12 ^ 2 := Nat.pow_le_pow_right (by omega) (by omega)
    omega
  have hr1 : 1 ≤ r := by rw [← hr]; exact Nat.pow_pos (by omega)
  have HPW := Lib.hid (fun (U : World) => power9_calls n (j - 1) U hn2 (by omega))
  rw [hr] at HPW ⊢
  clear hr
  have hwj : IntKind.i64.wrap ((j : Int) - 1) = ((j - 1 : Nat) : Int) := by rw [IntWalk.i64_in _ (by omega)]; omega
  obtain ⟨j1, hj1⟩ : ∃ z, j - 1 = z := ⟨_, rfl⟩
  rw [hj1] at HPW hwj
  clear hj1
  have HH := Lib.hid (And.intro (h.grown HG.out.1) (And.intro (h'.grown HG.out.1) (And.intro hnx (And.intro hny (And.intro hx hy)))))
  have hlx : lx ≤ 99 := by omega
  have hly : ly ≤ 99 := by omega
  clear h h' hx hy hnx hny hl hl' hkj hkj2
  obtain ⟨p9, hp9⟩ : ∃ p, (uniq (joinP n r xs ys)).length = p := ⟨_, rfl⟩
  rw [hp9]
  have HP9 := Lib.hid hp9
  clear hp9
  have HB0 := Lib.hid (OfBox.new W (Q : Int))
  have HG0 := Lib.hid (World.grownBy_alloc W (.cells #[.int .i64 (Q : Int), .slice none 0 0] 27) none)
  have c1' := HG0.out.cell d0 (by simp)
  go_enter Try.func16, Try.ntmps16
  go_wp2_with (go_at_call 39; refine (HPW.out _).mono ?_; rintro e w2 ⟨rfl, hw2⟩; rw [hw2]; clear hw2 w2)
  clear hW hgt hgt2 hlt1 hlt2 hwS hwA c1' hwj
  obtain ⟨W1, hW1⟩ : ∃ W1, W.alloc (.cells #[.int .i64 (Q : Int), .slice none 0 0] 27) = W1 := ⟨_, rfl⟩
  rw [hW1] at HB0 HG0 ⊢
  clear hW1 c0 c1 d0 d1 e0 e1 ef0 ef1
  go_loopg [11] lx (fun g s11 wr => ∃ (i : Nat) (va : Option Addr) (vc : Nat), s11 = .int .i64 (i : Int) ∧ g = lx - i ∧ i ≤ lx ∧ OfBox W.heap.size wr (Q : Int) va vc (uniq (joinP n r (xs.take i) ys)) ∧ W.grownBy wr none)
  case atStart => exact ⟨0, none, 0, rfl, rfl, Nat.zero_le _, HB0.out, HG0.out⟩
  case round =>
    obtain ⟨i, va, vc, rfl, hgk, hi, hbx, hgr⟩ := hrel
    have HBO := Lib.hid hbx; clear hbx
    have HWO := Lib.hid hgr; clear hgr
    have HIO := Lib.hid hgk; clear hgk
    have z1 := HWO.out.cell HC.out.2.2.1 (by simp)
    by_cases hin : i < lx
    · have hinB : decide (i < lx) = true := by simpa using hin
      have hinI : (i : Int) < (lx : Int) := by omega
      obtain ⟨z, hz⟩ : ∃ z, xs[i]? = some z := ⟨_, List.getElem?_eq_getElem (by rw [HH.out.2.2.1]; exact hin)⟩
      obtain ⟨b, o, rfl, hcell0⟩ := HH.out.1.at hz
      have hzb := HH.out.2.2.2.2.1 z (List.mem_of_getElem? hz)
      obtain ⟨x, rfl⟩ : ∃ x : Nat, z = (x : Int) := ⟨z.toNat, by omega⟩
      have HPT := Lib.hid (join_take (n := n) (r := r) (ys := ys) hz)
      have HCE := Lib.hid hcell0
      obtain ⟨m, hm⟩ : ∃ m, x % n = m := ⟨_, rfl⟩
      obtain ⟨q, hq⟩ : ∃ q, x / n = q := ⟨_, rfl⟩
      have hmi : (x : Int) % (n : Int) = (m : Int) := by omega
      have hqi : (x : Int) / (n : Int) = (q : Int) := by rw [← hq]; rfl
      have hqx : q ≤ 2000 := by rw [← hq]; exact Nat.le_trans (Nat.div_le_self _ _) (by omega)
      have hqr : q * r ≤ 2000 * 144 := Nat.mul_le_mul hqx hrB
      obtain ⟨P, hP⟩ : ∃ P, q * r = P := ⟨_, rfl⟩
      have hPi : (q : Int) * (r : Int) = (P : Int) := by rw [← hP]; simp
      rw [hP] at hqr
      have hmod : (x : Int).tmod (n : Int) = (m : Int) := by rw [← hmi, Int.tmod_eq_emod_of_nonneg (by omega)]
      have hwq : IntKind.i64.wrap (q : Int) = (q : Int) := IntWalk.i64_in _ (by omega)
      have hwP : IntKind.i64.wrap ((q : Int) * (r : Int)) = (P : Int) := by rw [hPi]; exact IntWalk.i64_in _ (by omega)
      have hnn : n ≠ 0 := by omega
      have hrr : r ≠ 0 := by omega
      have hnB : decide ((0 : Int) < (n : Int)) = true := by simp; omega
      have hnC : decide (0 < n) = true := by simp; omega
      have hn0 : ((n : Int) == 0) = false := by simp; omega
      have hr0 : ((r : Int) == 0) = false := by simp; omega
      have HXI := Lib.hid (And.intro hmi (And.intro hqi hPi))
      clear hz hcell0 hzb hm hq hP hmi hPi
      go_wp2_with fail
      clear z1
      obtain ⟨wo, rfl⟩ : ∃ wo, wo = wr := ⟨_, rfl⟩
      go_loopg [12] ly (fun g s12 wr => ∃ (t : Nat) (va : Option Addr) (vc : Nat), s12 = .int .i64 (t : Int) ∧ g = ly - t ∧ t ≤ ly ∧ OfBox W.heap.size wr (Q : Int) va vc (uniq (joinP n r (xs.take i) ys ++ meetRow n r (x : Int) (ys.take t))) ∧ W.grownBy wr none)
      case atStart => exact ⟨0, va, vc, rfl, rfl, Nat.zero_le _, by simpa [meetRow] using HBO.out, HWO.out⟩
      case round =>
        obtain ⟨t, va, vc, rfl, hgk, ht, hbx, hgr⟩ := hrel
        obtain ⟨T, hTT⟩ : ∃ T, joinP n r (xs.take i) ys ++ meetRow n r (x : Int) (ys.take t) = T := ⟨_, rfl⟩
        rw [hTT] at hbx
        have HTT := Lib.hid hTT; clear hTT
        have HBX := Lib.hid hbx; clear hbx
        have HWR := Lib.hid hgr; clear hgr
        have HI := Lib.hid hgk; clear hgk
        have z2 := HWR.out.cell HC.out.2.2.2.2.1 (by simp)
        have z1 := HWR.out.cell HC.out.2.2.1 (by simp)
        have z0 := HWR.out.cell HCE.out (by simp)
        by_cases htn : t < ly
        · have htB : decide (t < ly) = true := by simpa using htn
          have htI : (t : Int) < (ly : Int) := by omega
          obtain ⟨z, hz⟩ : ∃ z, ys[t]? = some z := ⟨_, List.getElem?_eq_getElem (by rw [HH.out.2.2.2.1]; exact htn)⟩
          obtain ⟨b', o', rfl, hcell1⟩ := HH.out.2.1.at hz
          have hzb' := HH.out.2.2.2.2.2 z (List.mem_of_getElem? hz)
          obtain ⟨y, rfl⟩ : ∃ y : Nat, z = (y : Int) := ⟨z.toNat, by omega⟩
          obtain ⟨q', hq'⟩ : ∃ q, y / r = q := ⟨_, rfl⟩
          have hqi' : (y : Int) / (r : Int) = (q' : Int) := by rw [← hq']; rfl
          have hq2' : q' ≤ 2000 := by rw [← hq']; exact Nat.le_trans (Nat.div_le_self _ _) (by omega)
          have hwq' : IntKind.i64.wrap (q' : Int) = (q' : Int) := IntWalk.i64_in _ (by omega)
          have z3 := HWR.out.cell hcell1 (by simp)
          by_cases hmq : m = q'
          · obtain ⟨s, hs⟩ : ∃ s, y % r = s := ⟨_, rfl⟩
            have hsi : (y : Int) % (r : Int) = (s : Int) := by omega
            have hsr : s < r := by rw [← hs]; exact Nat.mod_lt _ (by omega)
            have hmod2 : (y : Int).tmod (r : Int) = (s : Int) := by rw [← hsi, Int.tmod_eq_emod_of_nonneg (by omega)]
            obtain ⟨V, hV⟩ : ∃ V, P + s = V := ⟨_, rfl⟩
            have hwV : IntKind.i64.wrap ((P : Int) + (s : Int)) = (V : Int) := by rw [IntWalk.i64_in _ (by omega)]; omega
            have hyes := meet_take_yes (n := n) (r := r) (x := (x : Int)) hz (by rw [HXI.out.1, hqi', hmq])
            rw [HXI.out.2.1, HXI.out.2.2, hsi, show (P : Int) + (s : Int) = (V : Int) by omega] at hyes
            have hty : uniq (joinP n r (xs.take i) ys ++ meetRow n r (x : Int) (ys.take (t + 1))) = addL (uniq T) (V : Int) := by rw [hyes, ← List.append_assoc, HTT.out, uniq_snoc]
            have HLE := Lib.hid (show (uniq T).length ≤ 9999 by
              have h1 := uniq_len T
              have h2 := joinP_len n r ys (xs.take i)
              have h3 := meetRow_len n r (x : Int) (ys.take t)
              rw [← HTT.out, List.length_append] at h1
              rw [List.length_take] at h2 h3
              rw [HH.out.2.2.1, HH.out.2.2.2.1] at h2
              have h4 : min i lx * ly ≤ 98 * 99 := Nat.mul_le_mul (by omega) hly
              rw [← HTT.out]
              omega)
            have HAD := Lib.hid (fun (U : World) (g : wr.grownBy U none) => add_calls (uniq T) va vc (W.heap.size + 1) (V : Int) U (HBX.out.grown g).sp (HBX.out.grown g).low (by have := HLE.out; omega) (uniq_up T))
            rw [← hty] at HAD
            obtain ⟨p, hp⟩ : ∃ p, (uniq T).length = p := ⟨_, rfl⟩
            obtain ⟨p2, hp2⟩ : ∃ p, (uniq (joinP n r (xs.take i) ys ++ meetRow n r (x : Int) (ys.take (t + 1)))).length = p := ⟨_, rfl⟩
            rw [hp, hp2] at HAD
            have HP := Lib.hid (And.intro hp hp2)
            clear hp hp2 hty hyes hz hs hV hq' hsi hzb'
            have hmB : decide ((m : Int) = (q' : Int)) = true := decide_eq_true (by omega)
            have hmC : ((m : Int) == (q' : Int)) = true := by simp; omega
            subst hmq
            go_wp2_with fail
            go_quiet (fail)
            go_wp2_with fail
            clear z0 z1 z2 z3
            have gq : wr.grownBy (wr.drewN nq) none := grown_drewN _ _ _
            have HBX0 := HBX
            replace HBX := Lib.hid (HBX0.out.grown gq)
            replace HWR := Lib.hid (HWR.out.trans gq)
            replace HAD := Lib.hid (fun (U : World) (g : (wr.drewN nq).grownBy U none) => HAD.out U (gq.trans g))
            clear HBX0 gq
            obtain ⟨wq, hwq⟩ : ∃ z, wr.drewN nq = z := ⟨_, rfl⟩
            rw [hwq] at HBX HWR HAD ⊢
            clear hwq
            have HS := Lib.hid (fun (Wh : World) (hWh : W.grownBy Wh none) => (⟨hWh, hWh.cell HCE.out (by simp), hWh.cell HC.out.2.2.1 (by simp), hWh.cell hcell1 (by simp), hWh.cell HC.out.2.2.2.2.1 (by simp)⟩ : (fun Wh : World => W.grownBy Wh none ∧ Wh.cell? ⟨b, o + i, none⟩ = some (.int .i64 (x : Int)) ∧ Wh.cell? ⟨w.heap.size, 1, none⟩ = some (.slice (some ⟨b, o, none⟩) lx xc) ∧ Wh.cell? ⟨b', o' + t, none⟩ = some (.int .i64 (y : Int)) ∧ Wh.cell? ⟨w.heap.size + 1, 1, none⟩ = some (.slice (some ⟨b', o', none⟩) ly yc)) Wh))
            have hdr : W.grownBy wq.drew none := World.grownBy.trans HWR.out (⟨rfl, rfl, rfl, Nat.le_refl _, fun _ _ _ => rfl⟩ : wq.grownBy wq.drew none)
            refine wp_region_held_drew (S := (fun Wh : World => W.grownBy Wh none ∧ Wh.cell? ⟨b, o + i, none⟩ = some (.int .i64 (x : Int)) ∧ Wh.cell? ⟨w.heap.size, 1, none⟩ = some (.slice (some ⟨b, o, none⟩) lx xc) ∧ Wh.cell? ⟨b', o' + t, none⟩ = some (.int .i64 (y : Int)) ∧ Wh.cell? ⟨w.heap.size + 1, 1, none⟩ = some (.slice (some ⟨b', o', none⟩) ly yc))) (by kernel_rfl) (HS.out _ hdr) (fun hHeld => ?_)
            refine wpAnyH_take (i := 0) (oi := { dst := some 62, op := Op.fieldAddr 27 (Operand.tmp 9) 1, type := 0, pos := "ref.go:137", after := #[], guard := none }) (v := ?_) rfl (by kernel_rfl) (by kernel_rfl) (by kernel_rfl) (fun _ _ _ h => h) (Or.inl ⟨by rfl, ?_⟩) (by assumption) ?_
            rotate_left 1
            · (intro W hSW; (try dsimp only at hSW); first | (go_simp; done) | (go_simp; with_reducible rfl))
            try simp only [Act.put, List.setIfInBounds_toArray, List.set_cons_zero, List.set_cons_succ]
            refine wpAnyH_take (i := 2) (oi := { dst := some 64, op := Op.fieldAddr 27 (Operand.tmp 4) 1, type := 0, pos := "ref.go:137", after := #[], guard := none }) (v := ?_) rfl (by kernel_rfl) (by kernel_rfl) (by kernel_rfl) (fun _ _ _ h => h) (Or.inl ⟨by rfl, ?_⟩) (by assumption) ?_
            rotate_left 1
            · (intro W hSW; (try dsimp only at hSW); first | (go_simp; done) | (go_simp; with_reducible rfl))
            try simp only [Act.put, List.setIfInBounds_toArray, List.set_cons_zero, List.set_cons_succ]
            refine wpAnyH_take (i := 3) (oi := { dst := some 65, op := Op.load 25 (Operand.tmp 64), type := 25, pos := "ref.go:137", after := #[{ on := 2, ground := Ground.data }], guard := none }) (v := ?_) rfl (by kernel_rfl) (by kernel_rfl) (by kernel_rfl) (fun _ _ _ h => h) (Or.inl ⟨by rfl, ?_⟩) (by assumption) ?_
            rotate_left 1
            · (intro W hSW; (try dsimp only at hSW); first | (go_simp; done) | (go_simp; with_reducible rfl))
            try simp only [Act.put, List.setIfInBounds_toArray, List.set_cons_zero, List.set_cons_succ]
            refine wpAnyH_take (i := 4) (oi := { dst := some 66, op := Op.move (Operand.tmp 11), type := 3, pos := "ref.go:137", after := #[], guard := none }) (v := ?_) rfl (by kernel_rfl) (by kernel_rfl) (by kernel_rfl) (fun _ _ _ h => h) (Or.inl ⟨by rfl, ?_⟩) (by assumption) ?_
            rotate_left 1
            · (intro W hSW; (try dsimp only at hSW); first | (go_simp; done) | (go_simp; with_reducible rfl))
            try simp only [Act.put, List.setIfInBounds_toArray, List.set_cons_zero, List.set_cons_succ]
            refine wpAnyH_take (i := 5) (oi := { dst := some 67, op := Op.indexAddr 25 (Operand.tmp 65) (Operand.tmp 66), type := 0, pos := "ref.go:137", after := #[{ on := 3, ground := Ground.data }, { on := 4, ground := Ground.data }], guard := none }) (v := ?_) rfl (by kernel_rfl) (by kernel_rfl) (by kernel_rfl) (fun _ _ _ h => h) (Or.inl ⟨by rfl, ?_⟩) (by assumption) ?_
            rotate_left 1
            · (intro W hSW; (try dsimp only at hSW); first | (go_simp; done) | (go_simp; with_reducible rfl))
            try simp only [Act.put, List.setIfInBounds_toArray, List.set_cons_zero, List.set_cons_succ]
            refine wpAnyH_take (i := 6) (oi := { dst := some 68, op := Op.load 3 (Operand.tmp 67), type := 3, pos := "ref.go:137", after := #[{ on := 5, ground := Ground.data }], guard := none }) (v := ?_) rfl (by kernel_rfl) (by kernel_rfl) (by kernel_rfl) (fun _ _ _ h => h) (Or.inl ⟨by rfl, ?_⟩) (by assumption) ?_
            rotate_left 1
            · (intro W hSW; (try dsimp only at hSW); first | (go_simp; done) | (go_simp; with_reducible rfl))
            try simp only [Act.put, List.setIfInBounds_toArray, List.set_cons_zero, List.set_cons_succ]
            refine wpAnyH_take (i := 7) (oi := { dst := some 69, op := Op.move (Operand.tmp 0), type := 3, pos := "ref.go:137", after := #[], guard := none }) (v := ?_) rfl (by kernel_rfl) (by kernel_rfl) (by kernel_rfl) (fun _ _ _ h => h) (Or.inl ⟨by rfl, ?_⟩) (by assumption) ?_
            rotate_left 1
            · (intro W hSW; (try dsimp only at hSW); first | (go_simp; done) | (go_simp; with_reducible rfl))
            try simp only [Act.put, List.setIfInBounds_toArray, List.set_cons_zero, List.set_cons_succ]
            refine wpAnyH_take (i := 8) (oi := { dst := some 70, op := Op.binOp BinOp.quo 3 (Operand.tmp 68) (Operand.tmp 69) 3, type := 3, pos := "ref.go:137", after := #[{ on := 6, ground := Ground.data }, { on := 7, ground := Ground.data }], guard := none }) (v := ?_) rfl (by kernel_rfl) (by kernel_rfl) (by kernel_rfl) (fun _ _ _ h => h) (Or.inl ⟨by rfl, ?_⟩) (by assumption) ?_
            rotate_left 1
            · (intro W hSW; (try dsimp only at hSW); first | (go_simp; done) | (go_simp; with_reducible rfl))
            try simp only [Act.put, List.setIfInBounds_toArray, List.set_cons_zero, List.set_cons_succ]
            refine wpAnyH_take (i := 9) (oi := { dst := some 71, op := Op.move (Operand.tmp 10), type := 3, pos := "ref.go:137", after := #[], guard := none }) (v := ?_) rfl (by kernel_rfl) (by kernel_rfl) (by kernel_rfl) (fun _ _ _ h => h) (Or.inl ⟨by rfl, ?_⟩) (by assumption) ?_
            rotate_left 1
            · (intro W hSW; (try dsimp only at hSW); first | (go_simp; done) | (go_simp; with_reducible rfl))
            try simp only [Act.put, List.setIfInBounds_toArray, List.set_cons_zero, List.set_cons_succ]
            refine wpAnyH_take (i := 10) (oi := { dst := some 72, op := Op.binOp BinOp.mul 3 (Operand.tmp 70) (Operand.tmp 71) 3, type := 3, pos := "ref.go:137", after := #[{ on := 8, ground := Ground.data }, { on := 9, ground := Ground.data }], guard := none }) (v := ?_) rfl (by kernel_rfl) (by kernel_rfl) (by kernel_rfl) (fun _ _ _ h => h) (Or.inl ⟨by rfl, ?_⟩) (by assumption) ?_
            rotate_left 1
            · (intro W hSW; (try dsimp only at hSW); first | (go_simp; done) | (go_simp; with_reducible rfl))
            try simp only [Act.put, List.setIfInBounds_toArray, List.set_cons_zero, List.set_cons_succ]
            refine wpAnyH_take (i := 11) (oi := { dst := some 73, op := Op.fieldAddr 27 (Operand.tmp 5) 1, type := 0, pos := "ref.go:137", after := #[], guard := none }) (v := ?_) rfl (by kernel_rfl) (by kernel_rfl) (by kernel_rfl) (fun _ _ _ h => h) (Or.inl ⟨by rfl, ?_⟩) (by assumption) ?_
            rotate_left 1
            · (intro W hSW; (try dsimp only at hSW); first | (go_simp; done) | (go_simp; with_reducible rfl))
            try simp only [Act.put, List.setIfInBounds_toArray, List.set_cons_zero, List.set_cons_succ]
            refine wpAnyH_take (i := 12) (oi := { dst := some 74, op := Op.load 25 (Operand.tmp 73), type := 25, pos := "ref.go:137", after := #[{ on := 11, ground := Ground.data }], guard := none }) (v := ?_) rfl (by kernel_rfl) (by kernel_rfl) (by kernel_rfl) (fun _ _ _ h => h) (Or.inl ⟨by rfl, ?_⟩) (by assumption) ?_
            rotate_left 1
            · (intro W hSW; (try dsimp only at hSW); first | (go_simp; done) | (go_simp; with_reducible rfl))
            try simp only [Act.put, List.setIfInBounds_toArray, List.set_cons_zero, List.set_cons_succ]
            refine wpAnyH_take (i := 13) (oi := { dst := some 75, op := Op.move (Operand.tmp 12), type := 3, pos := "ref.go:137", after := #[], guard := none }) (v := ?_) rfl (by kernel_rfl) (by kernel_rfl) (by kernel_rfl) (fun _ _ _ h => h) (Or.inl ⟨by rfl, ?_⟩) (by assumption) ?_
            rotate_left 1
            · (intro W hSW; (try dsimp only at hSW); first | (go_simp; done) | (go_simp; with_reducible rfl))
            try simp only [Act.put, List.setIfInBounds_toArray, List.set_cons_zero, List.set_cons_succ]
            refine wpAnyH_take (i := 14) (oi := { dst := some 76, op := Op.indexAddr 25 (Operand.tmp 74) (Operand.tmp 75), type := 0, pos := "ref.go:137", after := #[{ on := 12, ground := Ground.data }, { on := 13, ground := Ground.data }], guard := none }) (v := ?_) rfl (by kernel_rfl) (by kernel_rfl) (by kernel_rfl) (fun _ _ _ h => h) (Or.inl ⟨by rfl, ?_⟩) (by assumption) ?_
            rotate_left 1
            · (intro W hSW; (try dsimp only at hSW); first | (go_simp; done) | (go_simp; with_reducible rfl))
            try simp only [Act.put, List.setIfInBounds_toArray, List.set_cons_zero, List.set_cons_succ]
            refine wpAnyH_take (i := 15) (oi := { dst := some 77, op := Op.load 3 (Operand.tmp 76), type := 3, pos := "ref.go:137", after := #[{ on := 14, ground := Ground.data }], guard := none }) (v := ?_) rfl (by kernel_rfl) (by kernel_rfl) (by kernel_rfl) (fun _ _ _ h => h) (Or.inl ⟨by rfl, ?_⟩) (by assumption) ?_
            rotate_left 1
            · (intro W hSW; (try dsimp only at hSW); first | (go_simp; done) | (go_simp; with_reducible rfl))
            try simp only [Act.put, List.setIfInBounds_toArray, List.set_cons_zero, List.set_cons_succ]
            refine wpAnyH_take (i := 16) (oi := { dst := some 78, op := Op.move (Operand.tmp 10), type := 3, pos := "ref.go:137", after := #[], guard := none }) (v := ?_) rfl (by kernel_rfl) (by kernel_rfl) (by kernel_rfl) (fun _ _ _ h => h) (Or.inl ⟨by rfl, ?_⟩) (by assumption) ?_
            rotate_left 1
            · (intro W hSW; (try dsimp only at hSW); first | (go_simp; done) | (go_simp; with_reducible rfl))
            try simp only [Act.put, List.setIfInBounds_toArray, List.set_cons_zero, List.set_cons_succ]
            refine wpAnyH_take (i := 17) (oi := { dst := some 79, op := Op.binOp BinOp.rem 3 (Operand.tmp 77) (Operand.tmp 78) 3, type := 3, pos := "ref.go:137", after := #[{ on := 15, ground := Ground.data }, { on := 16, ground := Ground.data }], guard := none }) (v := ?_) rfl (by kernel_rfl) (by kernel_rfl) (by kernel_rfl) (fun _ _ _ h => h) (Or.inl ⟨by rfl, ?_⟩) (by assumption) ?_
            rotate_left 1
            · (intro W hSW; (try dsimp only at hSW); first | (go_simp; done) | (go_simp; with_reducible rfl))
            try simp only [Act.put, List.setIfInBounds_toArray, List.set_cons_zero, List.set_cons_succ]
            refine wpAnyH_take (i := 18) (oi := { dst := some 80, op := Op.binOp BinOp.add 3 (Operand.tmp 72) (Operand.tmp 79) 3, type := 3, pos := "ref.go:137", after := #[{ on := 10, ground := Ground.data }, { on := 17, ground := Ground.data }], guard := none }) (v := ?_) rfl (by kernel_rfl) (by kernel_rfl) (by kernel_rfl) (fun _ _ _ h => h) (Or.inl ⟨by rfl, ?_⟩) (by assumption) ?_
            rotate_left 1
            · (intro W hSW; (try dsimp only at hSW); first | (go_simp; done) | (go_simp; with_reducible rfl))
            try simp only [Act.put, List.setIfInBounds_toArray, List.set_cons_zero, List.set_cons_succ]
            refine wpAnyH_ready (rs := [1]) (by kernel_rfl) (by simp) ?_
            refine (AllReadyH.cons (o := { dst := some 63, op := Op.load 25 (Operand.tmp 62), type := 25, pos := "ref.go:137", after := #[{ on := 0, ground := Ground.data }], guard := none }) rfl (fun K hK => ?_) AllReadyH.nil)
            rw [if_pos (by rfl)]
            have hrow := HBX.out.c1
            rw [HP.out.1] at hrow
            go_simp
            clear hrow
            refine hK.out _ _ (HS.out _ hdr) (fun hHeld => ?_)
            clear hK K
            try simp only [Act.put, List.setIfInBounds_toArray, List.set_cons_zero, List.set_cons_succ]
            refine wpAnyH_ready (rs := [19]) (by kernel_rfl) (by simp) ?_
            refine (AllReadyH.cons (o := { dst := some 81, op := Op.call { callee := Callee.value (Operand.func 42), args := #[Operand.tmp 63, Operand.tmp 80], argTypes := #[25, 3] }, type := 25, pos := "ref.go:137", after := #[{ on := 1, ground := Ground.data }, { on := 18, ground := Ground.data }], guard := none }) rfl (fun K hK => ?_) AllReadyH.nil)
            rw [if_pos (by rfl)]
            go_simp
            go_at_call 42
            refine (HAD.out wq.drew (⟨rfl, rfl, rfl, Nat.le_refl _, fun _ _ _ => rfl⟩ : wq.grownBy wq.drew none)).mono ?_
            rintro e wc2 ⟨a', c', rfl, hsA, gc2⟩
            have hgr2 := World.grownBy.trans hdr gc2
            go_wp2_with fail
            refine hK.out _ _ (HS.out _ hgr2) (fun hHeld => ?_)
            clear hK K
            try simp only [Act.put, List.setIfInBounds_toArray, List.set_cons_zero, List.set_cons_succ]
            refine wpAnyH_take (i := 20) (oi := { dst := some 82, op := Op.fieldAddr 27 (Operand.tmp 9) 1, type := 0, pos := "ref.go:137", after := #[{ on := 0, ground := Ground.phase }, { on := 1, ground := Ground.phase }, { on := 2, ground := Ground.phase }, { on := 3, ground := Ground.phase }, { on := 4, ground := Ground.phase }, { on := 5, ground := Ground.phase }, { on := 6, ground := Ground.phase }, { on := 7, ground := Ground.phase }, { on := 8, ground := Ground.phase }, { on := 9, ground := Ground.phase }, { on := 10, ground := Ground.phase }, { on := 11, ground := Ground.phase }, { on := 12, ground := Ground.phase }, { on := 13, ground := Ground.phase }, { on := 14, ground := Ground.phase }, { on := 15, ground := Ground.phase }, { on := 16, ground := Ground.phase }, { on := 17, ground := Ground.phase }, { on := 18, ground := Ground.phase }, { on := 19, ground := Ground.phase }], guard := none }) (v := ?_) rfl (by kernel_rfl) (by kernel_rfl) (by kernel_rfl) (fun _ _ _ h => h) (Or.inl ⟨by rfl, ?_⟩) (by assumption) ?_
            rotate_left 1
            · (intro W hSW; (try dsimp only at hSW); first | (go_simp; done) | (go_simp; with_reducible rfl))
            try simp only [Act.put, List.setIfInBounds_toArray, List.set_cons_zero, List.set_cons_succ]
            refine wpAnyH_ready (rs := [21]) (by kernel_rfl) (by simp) ?_
            refine (AllReadyH.cons (o := { dst := none, op := Op.store 25 (Operand.tmp 82) (Operand.tmp 81), type := 0, pos := "ref.go:137", after := #[{ on := 20, ground := Ground.data }, { on := 19, ground := Ground.data }, { on := 19, ground := Ground.chain }, { on := 0, ground := Ground.phase }, { on := 1, ground := Ground.phase }, { on := 2, ground := Ground.phase }, { on := 3, ground := Ground.phase }, { on := 4, ground := Ground.phase }, { on := 5, ground := Ground.phase }, { on := 6, ground := Ground.phase }, { on := 7, ground := Ground.phase }, { on := 8, ground := Ground.phase }, { on := 9, ground := Ground.phase }, { on := 10, ground := Ground.phase }, { on := 11, ground := Ground.phase }, { on := 12, ground := Ground.phase }, { on := 13, ground := Ground.phase }, { on := 14, ground := Ground.phase }, { on := 15, ground := Ground.phase }, { on := 16, ground := Ground.phase }, { on := 17, ground := Ground.phase }, { on := 18, ground := Ground.phase }, { on := 19, ground := Ground.phase }], guard := none }) rfl (fun K hK => ?_) AllReadyH.nil)
            rw [if_pos (by rfl)]
            have hbg := HBX.out.grown (World.grownBy.trans (⟨rfl, rfl, rfl, Nat.le_refl _, fun _ _ _ => rfl⟩ : wq.grownBy wq.drew none) gc2)
            have q1 := hbg.c1
            have q2 := hbg.f1
            go_simp
            clear q1 q2
            have hst := hbg.set hsA
            rw [HP.out.2] at hst
            have hgs := grown_own hgr2 (grown_set wc2 W.heap.size 1 (.slice a' p2 c')) (fun k hk => by cases hk; exact Nat.le_refl _)
            clear hbg
            refine hK.out _ _ (HS.out _ hgs) (fun hHeld => ?_)
            clear hK K
            try simp only [Act.put, List.setIfInBounds_toArray, List.set_cons_zero, List.set_cons_succ]
            refine wpAnyH_done (by kernel_rfl) ?_ _
            have hEND := hgs
            clear hHeld
            have HE := Lib.hid (And.intro hst hgs)
            clear hst hgs hEND hsA
            go_wp2_with fail
            go_roundg (ly - (t + 1))
            case measure => rw [HI.out]; omega
            case rel => exact ⟨t + 1, _, _, rfl, rfl, by omega, HE.out.1, HE.out.2⟩
          · have hno := meet_take_no (n := n) (r := r) (x := (x : Int)) hz (by rw [HXI.out.1, hqi']; omega)
            have HNO := Lib.hid (show joinP n r (xs.take i) ys ++ meetRow n r (x : Int) (ys.take (t + 1)) = T by rw [hno, HTT.out])
            have hmB : decide ((m : Int) = (q' : Int)) = false := decide_eq_false (by omega)
            have hmC : ((m : Int) == (q' : Int)) = false := by simp; omega
            have hmD : decide (m = q') = false := decide_eq_false hmq
            clear hno hz hq' hzb'
            go_wp2_with fail
            go_quiet (fail)
            go_wp2_with fail
            clear z0 z1 z2 z3
            have gq : wr.grownBy (wr.drewN nq) none := grown_drewN _ _ _
            go_roundg (ly - (t + 1))
            case measure => rw [HI.out]; omega
            case rel => exact ⟨t + 1, _, _, rfl, rfl, by omega, by rw [HNO.out]; exact HBX.out.grown gq, HWR.out.trans gq⟩
        · have hte : t = ly := by omega
          subst hte
          have htB : decide (t < t) = false := by simp
          have hall : ys.take t = ys := List.take_of_length_le (by rw [HH.out.2.2.2.1]; exact Nat.le_refl _)
          rw [hall] at HTT
          clear hall
          go_wp2_with fail
          clear z0 z1 z2
          go_roundg (lx - (i + 1))
          case measure => rw [HIO.out]; omega
          case rel => exact ⟨i + 1, _, _, rfl, rfl, by omega, by rw [HPT.out, HTT.out]; exact HBX.out, HWR.out⟩
    · have hie : i = lx := by omega
      subst hie
      have hinB : decide (i < i) = false := by simp
      have hall : xs.take i = xs := List.take_of_length_le (by rw [HH.out.2.2.1]; exact Nat.le_refl _)
      rw [hall] at HBO
      clear hall
      have r0 := HBO.out.c0
      have r1 := HBO.out.c1
      rw [HP9.out] at r1
      have hcs := HC.out
      have m0 := HWO.out.cell hcs.2.2.2.2.2.1 (by simp)
      have m1 := HWO.out.cell hcs.2.2.2.2.2.2.1 (by simp)
      have f0 := (grown_frozen HWO.out (show w.heap.size + 2 < W.heap.size by have := HG.out.2; omega) 0).trans hcs.2.2.2.2.2.2.2.1
      have f1 := (grown_frozen HWO.out (show w.heap.size + 2 < W.heap.size by have := HG.out.2; omega) 1).trans hcs.2.2.2.2.2.2.2.2
      clear hcs
      go_wp2_with fail
      refine bodyPost_ret (results16 _ _ (w.heap.size + 2) va p9 vc (Q : Int) 0 rfl rfl (by rw [World.cell?_setCell_other _ _ _ _ (by intro e; injection e with _ e; cases e)]; exact World.cell?_setCell_same _ _ _ m0) (World.cell?_setCell_same _ _ _ (by rw [World.cell?_setCell_other _ _ _ _ (by intro e; injection e with _ e; cases e)]; exact m1))) rfl ⟨va, vc, rfl, ?_, ?_⟩
      · have hz2 : ((wr.setCell ⟨w.heap.size + 2, 0, none⟩ (.int .i64 (Q : Int))).setCell ⟨w.heap.size + 2, 1, none⟩ (.slice va p9 vc)).heap.size = wr.heap.size := by simp [World.setCell]
        have h1 := (HBO.out.sp.off (grown_set _ (w.heap.size + 2) 0 (.int .i64 (Q : Int))) (fun x e => by cases e; have := HG.out.2; exact .inl (by omega))).off (grown_set _ (w.heap.size + 2) 1 (.slice va p9 vc)) (fun x e => by cases e; have := HG.out.2; exact .inl (by omega))
        exact h1.wide (by have := HG.out.2; omega) (by rw [hz2]; exact Nat.le_refl _) (Nat.le_refl _)
      · exact grown_own (grown_own (HG.out.1.trans HWO.out) (grown_set _ (w.heap.size + 2) 0 _) (fun k hk => by cases hk; omega)) (grown_set _ (w.heap.size + 2) 1 _) (fun k hk => by cases hk; omega)
end Go.Proofs.Ytkoigonbncpbaaa

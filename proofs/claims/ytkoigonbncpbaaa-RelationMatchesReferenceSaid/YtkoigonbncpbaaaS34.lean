/- The reference's Override. -/
import Derived.Test.YtkoigonbncpbaaaS14
import Derived.Test.YtkoigonbncpbaaaB10
namespace Go.Proofs.Ytkoigonbncpbaaa
open Go.RowKit Go.Shelf

def coverB (h : Nat) (x : Int) (ys : List Int) : Bool := decide (x / (h : Int) ∈ divL h ys)
def restL (h : Nat) (xs ys : List Int) : List Int := xs.filter fun x => !coverB h x ys
theorem rest_keep (h : Nat) (xs ys : List Int) : restL h xs ys = keepL h xs ys := rfl
theorem cover_take {h : Nat} {x y : Int} {ys : List Int} {i : Nat} (hz : ys[i]? = some y) : coverB h x (ys.take (i + 1)) = (coverB h x (ys.take i) || decide (x / (h : Int) = y / (h : Int))) := by
  unfold coverB
  rw [div_take hz]
  simp only [List.mem_append, List.mem_singleton, Bool.decide_or]
theorem rest_take {h : Nat} {xs ys : List Int} {i : Nat} {x : Int} (hz : xs[i]? = some x) : restL h (xs.take (i + 1)) ys = if coverB h x ys then restL h (xs.take i) ys else restL h (xs.take i) ys ++ [x] := by
  unfold restL
  rw [List.take_add_one, hz, List.filter_append, Option.toList_some]
  cases hc : coverB h x ys <;> simp [hc]
theorem rest_len (h : Nat) (xs ys : List Int) : (restL h xs ys).length ≤ xs.length := List.length_filter_le _ _
theorem uniq_over {h : Nat} {xs ys : List Int} (hx : Up xs) (hy : Up ys) : uniq (ys ++ restL h xs ys) = overL h xs ys := by
  refine up_ext (uniq_up _) (merge_up _ _ _ (hx.filter _) hy) fun z => ?_
  rw [mem_uniq, List.mem_append]
  show _ ↔ z ∈ unionL (keepL h xs ys) ys
  rw [mem_union (show Up (keepL h xs ys) from hx.filter _) hy, rest_keep]
  exact Or.comm

theorem results34 (tmps : Array Value) (w : World) (b : Nat) (a : Option Addr) (n c : Nat) (x : Int) (ht : tmps.getD 6 undef = .pointer (some ⟨b, 0, none⟩)) (h0 : w.cell? ⟨b, 0, none⟩ = some (.int .i64 x)) (h1 : w.cell? ⟨b, 1, none⟩ = some (.slice a n c)) :
    (results Try.f34 tmps).run Try.prog w = .ok (.agg #[.int .i64 x, .slice a n c]) w := by
  have ht' : tmps[6]?.getD undef = .pointer (some ⟨b, 0, none⟩) := by simpa using ht
  simp [results, ht', go_sem, h0, h1, Result.andThen]

set_option maxRecDepth 100000 in
set_option maxHeartbeats 8000000 in
theorem rOverride_calls (n k j : Nat) (xs ys : List Int) (xa ya : Option Addr) (xc yc : Nat) (w : World) (h : IntsW w xa xc xs) (h' : IntsW w ya yc ys) (hl : xs.length ≤ 900) (hl' : ys.length ≤ 900) (hn1 : 1 ≤ n) (hn2 : n ≤ 12) (hj : 1 ≤ j) (hj3 : j ≤ 3)
    (hx : ∀ x ∈ xs, 0 ≤ x ∧ x ≤ 2000) (hy : ∀ y ∈ ys, 0 ≤ y ∧ y ≤ 2000) :
    Calls Try.prog 34 #[.int .i64 (n : Int), .agg #[.int .i64 (k : Int), .slice xa xs.length xc], .agg #[.int .i64 (j : Int), .slice ya ys.length yc]] w fun e w' => ∃ a c, e = .returned (.agg #[.int .i64 (k : Int), .slice a (uniq (ys ++ restL (n ^ (j - 1)) xs ys)).length c]) ∧ Span w.heap.size w'.heap.size w' (fun W => IntsW W a c (uniq (ys ++ restL (n ^ (j - 1)) xs ys))) ∧ w.grownBy w' none := by
  obtain ⟨i0, hi0, hz0, hz1, hz2⟩ := info_parts info3
  obtain ⟨lx, hnx⟩ : ∃ l, xs.length = l := ⟨_, rfl⟩
  obtain ⟨ly, hny⟩ : ∃ l, ys.length = l := ⟨_, rfl⟩
  rw [hnx, hny]
  have hg1 := World.grownBy_alloc w (.cells #[.int .i64 (k : Int), .slice xa lx xc] 27) none
  have hg2 := World.grownBy_alloc (w.alloc (.cells #[.int .i64 (k : Int), .slice xa lx xc] 27)) (.cells #[.int .i64 (j : Int), .slice ya ly yc] 27) none
  have hg3 := World.grownBy_alloc ((w.alloc (.cells #[.int .i64 (k : Int), .slice xa lx xc] 27)).alloc (.cells #[.int .i64 (j : Int), .slice ya ly yc] 27)) (.cells #[.int .i64 0, .slice none 0 0] 27) none
  have hg := (hg1.trans hg2).trans hg3
  have hc := six_cells w (.int .i64 (k : Int)) (.slice xa lx xc) (.int .i64 (j : Int)) (.slice ya ly yc) (.int .i64 0) (.slice none 0 0) 27 27 27
  have hsz : (((w.alloc (.cells #[.int .i64 (k : Int), .slice xa lx xc] 27)).alloc (.cells #[.int .i64 (j : Int), .slice ya ly yc] 27)).alloc (.cells #[.int .i64 0, .slice none 0 0] 27)).heap.size = w.heap.size + 3 := by simp
  obtain ⟨W, hW⟩ : ∃ W, ((w.alloc (.cells #[.int .i64 (k : Int), .slice xa lx xc] 27)).alloc (.cells #[.int .i64 (j : Int), .slice ya ly yc] 27)).alloc (.cells #[.int .i64 0, .slice none 0 0] 27) = W := ⟨_, rfl⟩
  rw [hW] at hg hc hsz
  have HG := Lib.hid (And.intro hg hsz)
  have HC := Lib.hid hc
  clear hg hg1 hg2 hg3 hsz
  obtain ⟨hlt, c0, c1, d0, d1, e0, e1, ef0, ef1⟩ := hc
  obtain ⟨r, hr⟩ : ∃ r, n ^ (j - 1) = r := ⟨_, rfl⟩
  have hrB : r ≤ 144 := by
    rw [← hr]
    have h1 : n ^ (j - 1) ≤ 12 ^ (j - 1) := Nat.pow_le_pow_left hn2 _
    have h2 : 12 ^ (j - 1) ≤ 12 ^ 2 := Nat.pow_le_pow_right (by omega) (by omega)
    omega
  have hr1 : 1 ≤ r := by rw [← hr]; exact Nat.pow_pos (by omega)
  have HPW := Lib.hid (fun (U : World) => power9_calls n (j - 1) U hn2 (by omega))
  rw [hr] at HPW ⊢
  clear hr
  have hwj : IntKind.i64.wrap ((j : Int) - 1) = ((j - 1 : Nat) : Int) := by rw [IntWalk.i64_in _ (by omega)]; omega
  obtain ⟨j1, hj1⟩ : ∃ z, j - 1 = z := ⟨_, rfl⟩
  rw [hj1] at HPW hwj
  clear hj1
  have HH := Lib.hid (And.intro (h.grown HG.out.1) (And.intro (h'.grown HG.out.1) (And.intro hnx (And.intro hny (And.intro hx hy)))))
  have hlx : lx ≤ 900 := by omega
  have hly : ly ≤ 900 := by omega
  clear h h' hx hy hnx hny hl hl'
  obtain ⟨p2, hp2⟩ : ∃ p2, (uniq (ys ++ restL r xs ys)).length = p2 := ⟨_, rfl⟩
  rw [hp2]
  have HP2 := Lib.hid hp2
  clear hp2
  have d1' := (World.grownBy_alloc W (.cells #[] 3) none).cell d1 (by simp)
  go_enter Try.func34, Try.ntmps34
  go_wp2_with (first | (go_at_call 39; refine (HPW.out _).mono ?_; rintro e w2 ⟨rfl, hw2⟩; rw [hw2]; clear hw2 w2) | (at_builtin; refine append_ints rfl _ _ rfl W.heap.size _ 0 [] rfl (World.ownsRow_made W #[] 0 (Nat.le_refl _) (Nat.zero_le _) rfl) ya ly yc ys rfl HH.out.2.2.2.1 (HH.out.2.1.grown (World.grownBy_alloc W _ none)) (by omega) (World.grownBy.size (World.grownBy_alloc W (.cells #[] 3) none)) ?_))
  intro v1 x1 ho1 hg1
  replace ho1 : x1.ownsRow W.heap.size 3 1 v1 ly (intCells ys) := by simpa [intCells] using ho1
  obtain ⟨va1, vc1, rfl⟩ := own_shape ho1
  have HO1 := Lib.hid ho1; clear ho1
  have HG1 : Hid (W.grownBy x1 none) := Lib.hid (grown_own (World.grownBy_alloc W _ none) hg1 (fun k hk => by simp [Value.ownBlock] at hk; omega))
  clear hg1 hW hlt c0 c1 d0 d1 d1' e0 e1 ef0 ef1 hwj
  go_wp2_with fail
  go_loopg [8, 9] lx (fun g s8 s9 wr => ∃ (i p : Nat), s9 = .int .i64 (i : Int) ∧ g = lx - i ∧ i ≤ lx ∧ (ys ++ restL r (xs.take i) ys).length = p ∧ wr.ownsRow W.heap.size 3 1 s8 p (intCells (ys ++ restL r (xs.take i) ys)) ∧ W.grownBy wr none)
  case atStart => exact ⟨0, ly, rfl, rfl, Nat.zero_le _, by simp [restL]; exact HH.out.2.2.2.1, by simpa [restL] using HO1.out, HG1.out⟩
  case round =>
    obtain ⟨i, p, rfl, hgk, hi, hp, hown, hgr⟩ := hrel
    obtain ⟨va, vc, rfl⟩ := own_shape hown
    have HP := Lib.hid hp; clear hp
    have HOW := Lib.hid hown; clear hown
    have HWO := Lib.hid hgr; clear hgr
    have HIO := Lib.hid hgk; clear hgk
    have z1 := HWO.out.cell HC.out.2.2.1 (by simp)
    by_cases hin : i < lx
    · have hinB : decide (i < lx) = true := by simpa using hin
      have hinI : (i : Int) < (lx : Int) := by omega
      obtain ⟨z, hz⟩ : ∃ z, xs[i]? = some z := ⟨_, List.getElem?_eq_getElem (by rw [HH.out.2.2.1]; exact hin)⟩
      obtain ⟨b, o, rfl, hcell0⟩ := HH.out.1.at hz
      have hzb := HH.out.2.2.2.2.1 z (List.mem_of_getElem? hz)
      obtain ⟨x, rfl⟩ : ∃ x : Nat, z = (x : Int) := ⟨z.toNat, by omega⟩
      have HRT := Lib.hid (rest_take (h := r) (ys := ys) hz)
      have HCE := Lib.hid hcell0
      have hx2 : x ≤ 2000 := by omega
      obtain ⟨q, hq⟩ : ∃ q, x / r = q := ⟨_, rfl⟩
      have hqi : (x : Int) / (r : Int) = (q : Int) := by rw [← hq]; rfl
      have hq2 : q ≤ 2000 := by rw [← hq]; exact Nat.le_trans (Nat.div_le_self _ _) (by omega)
      have hwq : IntKind.i64.wrap (q : Int) = (q : Int) := IntWalk.i64_in _ (by omega)
      have hr0 : r ≠ 0 := by omega
      have HPB := Lib.hid (show p ≤ 1800 by have h1 := HP.out; have h2 := rest_len r (xs.take i) ys; have h3 := HH.out.2.2.2.1; have h4 := HH.out.2.2.1; rw [List.length_append] at h1; rw [List.length_take] at h2; omega)
      clear hz hcell0 hq hzb
      go_wp2_with fail
      clear z1
      obtain ⟨wo, rfl⟩ : ∃ wo, wo = wr := ⟨_, rfl⟩
      go_loopg [10, 11] ly (fun g s10 s11 wr => ∃ (t : Nat) (c : Bool), s10 = .bool c ∧ s11 = .int .i64 (t : Int) ∧ g = ly - t ∧ t ≤ ly ∧ coverB r (x : Int) (ys.take t) = c ∧ wo.grownBy wr none)
      case atStart => exact ⟨0, false, rfl, rfl, rfl, Nat.zero_le _, rfl, grown_refl _ _⟩
      case round =>
        obtain ⟨t, c, rfl, rfl, hgk, ht, hco, hwr⟩ := hrel
        have HOI := Lib.hid (own_grown HOW.out hwr)
        have HWI := Lib.hid (HWO.out.trans hwr)
        have HWD := Lib.hid hwr
        clear hwr
        have HI := Lib.hid hgk; clear hgk
        have HCO := Lib.hid hco; clear hco
        have z2 := HWI.out.cell HC.out.2.2.2.2.1 (by simp)
        have z1 := HWI.out.cell HC.out.2.2.1 (by simp)
        have z0 := HWI.out.cell HCE.out (by simp)
        by_cases htn : t < ly
        · have htB : decide (t < ly) = true := by simpa using htn
          have htI : (t : Int) < (ly : Int) := by omega
          obtain ⟨z, hz⟩ : ∃ z, ys[t]? = some z := ⟨_, List.getElem?_eq_getElem (by rw [HH.out.2.2.2.1]; exact htn)⟩
          obtain ⟨b', o', rfl, hcell1⟩ := HH.out.2.1.at hz
          have hzb' := HH.out.2.2.2.2.2 z (List.mem_of_getElem? hz)
          obtain ⟨y, rfl⟩ : ∃ y : Nat, z = (y : Int) := ⟨z.toNat, by omega⟩
          have hct := cover_take (h := r) (x := (x : Int)) hz
          obtain ⟨q', hq'⟩ : ∃ q, y / r = q := ⟨_, rfl⟩
          have hqi' : (y : Int) / (r : Int) = (q' : Int) := by rw [← hq']; rfl
          have hq2' : q' ≤ 2000 := by rw [← hq']; exact Nat.le_trans (Nat.div_le_self _ _) (by omega)
          have hwq' : IntKind.i64.wrap (q' : Int) = (q' : Int) := IntWalk.i64_in _ (by omega)
          rw [HCO.out, hqi, hqi'] at hct
          have HCT := Lib.hid hct
          have z3 := HWI.out.cell hcell1 (by simp)
          clear hz hct hq'
          have hr0' : r ≠ 0 := hr0
          cases c with
          | true =>
            go_wp2_with fail
            go_quiet (fail)
            go_wp2_with fail
            go_roundg (ly - (t + 1))
            case measure => rw [HI.out]; omega
            case rel => exact ⟨t + 1, true, rfl, rfl, rfl, by omega, by rw [HCT.out]; rfl, HWD.out.trans (grown_drewN _ _ _)⟩
          | false =>
            obtain ⟨B, hB⟩ : ∃ B, decide (q = q') = B := ⟨_, rfl⟩
            have hB2 : decide ((q : Int) = (q' : Int)) = B := by rw [← hB]; exact decide_eq_decide.2 Int.ofNat_inj
            have HBB := Lib.hid hB2
            have hB3 : ((q : Int) == (q' : Int)) = B := by rw [← hB2]; rfl
            clear hB2
            go_wp2_with fail
            go_quiet (fail)
            go_wp2_with fail
            go_roundg (ly - (t + 1))
            case measure => rw [HI.out]; omega
            case rel => exact ⟨t + 1, B, rfl, rfl, rfl, by omega, by rw [HCT.out, HBB.out]; rfl, HWD.out.trans (grown_drewN _ _ _)⟩
        · have hte : t = ly := by omega
          subst hte
          have htB : decide (t < t) = false := by simp
          have hall : ys.take t = ys := List.take_of_length_le (by rw [HH.out.2.2.2.1]; exact Nat.le_refl _)
          rw [hall] at HCO
          clear hall
          cases c with
          | true =>
            go_wp2_with fail
            clear z0 z1 z2
            go_roundg (lx - (i + 1))
            case measure => rw [HIO.out]; omega
            case rel => exact ⟨i + 1, p, rfl, rfl, by omega, by rw [HRT.out, HCO.out]; exact HP.out, by rw [HRT.out, HCO.out]; exact HOI.out, HWI.out⟩
          | false =>
            go_wp2_with (at_builtin; refine wpList_append_own_at _ rfl _ _ 25 rfl W.heap.size 3 i0 (.int .i64 0) 1 8 Try.underlying25 hi0 hz0 hz1 hz2 rfl (by decide) _ p (intCells (ys ++ restL r (xs.take i) ys)) rfl (HOI.out.alloc _) ⟨wr.heap.size, 0, none⟩ 1 1 [.int .i64 (x : Int)] rfl rfl (cell_one_new _ _ _) (ints_oneCell .i64 [(x : Int)]) (by have := HPB.out; unfold maxLen; omega) (by have := HPB.out; omega) (by have := World.grownBy.size HWI.out; simp; omega) ?_)
            intro v' w6 hown' hgrow6 _ hat6
            clear z0 z1 z2
            have hgs := grown_own (World.grownBy.trans HWI.out (World.grownBy_alloc wr _ none)) hgrow6 (fun x hx => (HOI.out.lt x hx).1)
            have hown2 : w6.ownsRow W.heap.size 3 1 v' (p + 1) (intCells (ys ++ restL r (xs.take (i + 1)) ys)) := by rw [HRT.out, HCO.out]; simp only [Bool.false_eq_true, if_false]; simpa [intCells, List.append_assoc] using hown'
            have hlen : (ys ++ restL r (xs.take (i + 1)) ys).length = p + 1 := by rw [HRT.out, HCO.out]; simp only [Bool.false_eq_true, if_false]; rw [← List.append_assoc, List.length_append, HP.out]; rfl
            have HE := Lib.hid (And.intro hlen (And.intro hown2 hgs))
            clear hown' hgrow6 hat6 hgs hown2 hlen
            go_wp2_with fail
            go_roundg (lx - (i + 1))
            case measure => rw [HIO.out]; omega
            case rel => exact ⟨i + 1, p + 1, rfl, rfl, by omega, HE.out.1, HE.out.2.1, HE.out.2.2⟩
    · have hie : i = lx := by omega
      subst hie
      have hinB : decide (i < i) = false := by simp
      have hall : xs.take i = xs := List.take_of_length_le (by rw [HH.out.2.2.1]; exact Nat.le_refl _)
      rw [hall] at HOW HP
      clear hall
      have hown := HOW.out
      rw [← HP.out] at hown
      obtain ⟨a2, c2, hsh, hi2⟩ := ints_span hown
      injection hsh with ha1 hle1 hc1
      clear hle1
      subst ha1 hc1
      have hlen2 : (ys ++ restL r xs ys).length ≤ 10000 := by have h2 := rest_len r xs ys; have h3 := HH.out.2.2.2.1; have h4 := HH.out.2.2.1; rw [List.length_append]; omega
      have HOF := Lib.hid (of_calls (k : Int) (ys ++ restL r xs ys) va vc wr hi2.here.weak hlen2)
      rw [HP.out] at HOF
      have hp2 := HP2.out
      have hof : uniq (ys ++ restL r xs ys) = ofTo (ys ++ restL r xs ys) p := by rw [← HP.out]
      rw [← hof, hp2] at HOF
      clear hown hi2 hlen2 hp2 hof
      have z0 := HWO.out.cell HC.out.2.1 (by simp)
      go_wp2_with fail
      clear z0 z1
      refine (HOF.out).mono ?_
      rintro e w3 ⟨a', c', rfl, hi, g3⟩
      have g := World.grownBy.trans HWO.out g3
      have m0 := g.cell HC.out.2.2.2.2.2.1 (by simp)
      have m1 := g.cell HC.out.2.2.2.2.2.2.1 (by simp)
      have f0 := (grown_frozen g HC.out.1 0).trans HC.out.2.2.2.2.2.2.2.1
      have f1 := (grown_frozen g HC.out.1 1).trans HC.out.2.2.2.2.2.2.2.2
      have HI3 := Lib.hid hi
      have HG3 := Lib.hid g
      clear hi g
      go_wp2_with fail
      have hret := ret_rel (p := p2) (k := (k : Int)) (B := w.heap.size + 2) (HI3.out.wide (by have := HG.out.2; have := HWO.out.size; omega) (Nat.le_refl _) (Nat.le_refl _)) (by omega) (HG.out.1.trans HG3.out)
      refine bodyPost_ret (results34 _ _ (w.heap.size + 2) a' p2 c' (k : Int) rfl (by rw [World.cell?_setCell_other _ _ _ _ (by intro e; injection e with _ e; cases e)]; exact World.cell?_setCell_same _ _ _ m0) (World.cell?_setCell_same _ _ _ (by rw [World.cell?_setCell_other _ _ _ _ (by intro e; injection e with _ e; cases e)]; exact m1))) rfl ⟨a', c', rfl, hret⟩
end Go.Proofs.Ytkoigonbncpbaaa

/- Texts of the proof: SC. -/
import Derived.Test.YthdhmflodiincaaCD27
import Derived.Test.YthdhmflodiincaaCD17
import Derived.Deep.DeepCutAuto
set_option maxRecDepth 100000
set_option maxHeartbeats 8000000
namespace Go.Proofs.Ythdhmflodiincaa
open Lib (hid)
open Go.RowKit Go.Maps

theorem resS41 (tmps : Array Value) (w : World) (b c : Nat) (a : Option Addr) (n d : Nat) (x y : Value) (ht : tmps.getD 8 undef = .pointer (some ⟨b, 0, none⟩)) (hu : tmps.getD 9 undef = .pointer (some ⟨c, 0, none⟩)) (h0 : w.cell? ⟨b, 0, none⟩ = some (.slice a n d)) (h1 : w.cell? ⟨c, 0, none⟩ = some x) (h2 : w.cell? ⟨c, 1, none⟩ = some y) :
  (results Try.f41 tmps).run Try.prog w = .ok (.tuple #[.agg #[.slice a n d], .agg #[x, y]]) w := by
 have ht' : tmps[8]?.getD undef = .pointer (some ⟨b, 0, none⟩) := by simpa using ht
 have hu' : tmps[9]?.getD undef = .pointer (some ⟨c, 0, none⟩) := by simpa using hu
 simp [results, ht', hu', go_sem, h0, h1, h2, Result.andThen]
theorem rep_snoc (k : Nat) : intCells (List.replicate (k + 1) 1) = intCells (List.replicate k 1) ++ [.int .i64 1] := by
 unfold intCells
 rw [List.replicate_succ', List.map_append]
 rfl
theorem RJ.laid {w W : World} {b0 b1 b2 b3 b4 br bm : Nat} {ka kb km : Int} {aa ab am : Option Addr} {na ca nb cb tot nm cm : Nat} {g : List Gt} {t : Int → Int} (h : RJ w b0 b1 b2 b3 b4 br ka kb aa ab na ca nb cb tot g t W) (hm : MF W bm km am nm cm) (hb : w.heap.size ≤ bm ∧ bm ≠ b1 ∧ bm ≠ b2 ∧ bm ≠ b4 ∧ bm ≠ br) (u v : Value) : RJ w b0 b1 b2 b3 b4 br ka kb aa ab na ca nb cb tot g t (laidX W bm u v) := by
 obtain ⟨ac, cc, h1, h2⟩ := h.c
 exact ⟨MF.grows h.gw hb.1 _ _, ⟨ac, cc, hm.cf _ _ h1, hm.gates _ _ h2⟩, hm.mf _ _ h.x hb.2.1, hm.mf _ _ h.y hb.2.2.1, hm.cf _ _ h.r, hm.mf _ _ h.s hb.2.2.2.1, h.m.laid hb.2.2.2.2 _ _⟩
theorem rjoin_calls (gs : List Gt) (a b : List Cl) (n k j rest total : Nat) (gF : List Gt) (mF : List Cl) (xa : Option Addr) (xc : Nat) (aa : Option Addr) (na ca : Nat) (ba : Option Addr) (nb cb : Nat) (w : World)
  (eF : (mjoinP (n : Int) (rest : Int) total a b).run gs = (gF, mF)) (h : GatesW w xa xc gs) (hma : CellsW w aa ca a) (hna : a.length = na) (hmb : CellsW w ba cb b) (hnb : b.length = nb) (hG : Good gs) (hMa : Mat gs a) (hMb : Mat gs b) (hl : gs.length + 2 * (na * nb) ≤ 880) (hla : na ≤ 200) (hlb : nb ≤ 200)
  (hn1 : 1 ≤ n) (hn4 : n ≤ 4) (hk1 : 1 ≤ k) (hj1 : 1 ≤ j) (hj3 : j ≤ 3) (hk3 : k ≤ 3) (hr : rest = n ^ (j - 1)) (htt : total = n ^ (k + j - 2)) (hra : ∀ c ∈ a, 0 ≤ c.1 ∧ c.1 ≤ 10000) (hrb : ∀ c ∈ b, 0 ≤ c.1 ∧ c.1 ≤ 10000) (hjr : ∀ p ∈ jPairs (n : Int) (rest : Int) a b, 0 ≤ jr (n : Int) (rest : Int) p ∧ jr (n : Int) (rest : Int) p < (total : Int)) :
  Calls Try.prog 41 #[.agg #[.slice xa gs.length xc], .int .i64 (n : Int), .agg #[.int .i64 (k : Int), .slice aa na ca], .agg #[.int .i64 (j : Int), .slice ba nb cb]] w (AnsM w gF ((k : Int) + (j : Int) - 2) mF) := by
 obtain ⟨W, b0, b1, b2, b3, b4, hW, hbs, hgW, hcW, hxW, hyW, hrW, hsW⟩ := boxes5j w xa gs xc (k : Int) (j : Int) aa ba na ca nb cb h
 have HN := hid (show a.length = na ∧ b.length = nb from ⟨hna, hnb⟩)
 have HL := hid (And.intro hl (And.intro hla hlb))
 have ht256 : 1 ≤ total ∧ total ≤ 256 := by
  rw [htt]
  refine ⟨Nat.one_le_pow _ _ hn1, ?_⟩
  have h1 : n ^ (k + j - 2) ≤ 4 ^ (k + j - 2) := Nat.pow_le_pow_left hn4 _
  have h2 : 4 ^ (k + j - 2) ≤ 4 ^ 4 := Nat.pow_le_pow_right (by omega) (by omega)
  omega
 have HT := hid ht256
 have HGM := hid (And.intro hG (And.intro hMa hMb))
 have HC := hid (And.intro hma hmb)
 have HRG := hid (And.intro hra (And.intro hrb hjr))
 have HNK := hid (show 1 ≤ n ∧ n ≤ 4 ∧ 1 ≤ j ∧ j ≤ 3 ∧ k ≤ 3 ∧ 1 ≤ k from ⟨hn1, hn4, hj1, hj3, hk3, hk1⟩)
 have HRS := hid (show 1 ≤ rest ∧ rest ≤ 16 from by rw [hr]; exact jpow_le hn1 hn4 hj3)
 have HB := hid (show w.heap.size ≤ b0 ∧ b0 < b1 ∧ b1 < b2 ∧ b2 < b3 ∧ b3 < b4 ∧ W.heap.size = b4 + 1 from by omega)
 have HBS := hid hbs
 have HBX := hid (And.intro hgW (And.intro hcW (And.intro hxW (And.intro hyW (And.intro hrW hsW)))))
 have HPW := hid (fun (U : World) => rpower_calls n (j - 1) U (by omega) (by omega))
 have HPT := hid (fun (U : World) => rpower_calls n (k + j - 2) U (by omega) (by omega))
 rw [← hr] at HPW
 rw [← htt] at HPT
 obtain ⟨ng, hng⟩ : ∃ z, gs.length = z := ⟨_, rfl⟩
 have HNG := hid hng
 rw [hng] at hl hW ⊢
 have HW := hid hW
 obtain ⟨tE, hfE⟩ : ∃ z : List Gt × (Int → Int), (foldP (jF (n : Int) (rest : Int)) (jPairs (n : Int) (rest : Int) a b) fun _ => 1).run gs = z := ⟨_, rfl⟩
 obtain ⟨gE, tE⟩ := tE
 rw [run_mjoin hfE] at eF
 injection eF with e0 e1
 subst e0 e1
 have HFE := hid hfE
 have w1 : IntKind.i64.wrap ((j : Int) - 1) = ((j - 1 : Nat) : Int) := by rw [IntWalk.i64_in _ (by omega)]; omega
 have w2 : IntKind.i64.wrap ((k : Int) + (j : Int)) = ((k + j : Nat) : Int) := by rw [IntWalk.i64_in _ (by omega)]; omega
 have w3 : IntKind.i64.wrap (((k + j : Nat) : Int) - 2) = ((k + j - 2 : Nat) : Int) := by rw [IntWalk.i64_in _ (by omega)]; omega
 have HAR := hid (show ((k + j - 2 : Nat) : Int) = (k : Int) + (j : Int) - 2 from by omega)
 obtain ⟨kj, hkj⟩ : ∃ z, k + j = z := ⟨_, rfl⟩
 obtain ⟨kj2, hkj2⟩ : ∃ z, k + j - 2 = z := ⟨_, rfl⟩
 obtain ⟨j1, hjj⟩ : ∃ z, j - 1 = z := ⟨_, rfl⟩
 rw [hkj2] at HPT HAR
 rw [hjj] at w1 HPW
 rw [hkj] at w2 w3
 rw [show kj - 2 = kj2 from by omega] at w3
 clear hW hng h hma hna hmb hnb hG hMa hMb hl hla hlb hra hrb hjr hbs hgW hcW hxW hyW hrW hsW hfE hr htt ht256 hkj hkj2 hjj
 go_enter Try.func41, Try.ntmps41
 go_upto_region 1 with fail
 rw [HW.out]
 obtain ⟨e0, e1, e2, e3, e4, _⟩ := HBS.out
 rw [e4, e3, e2, e1, e0]
 clear e0 e1 e2 e3 e4
 have q0 := HBX.out.2.2.1.1
 have q1 := HBX.out.2.2.2.1.1
 go_wp2_with fail
 go_at_call 88
 refine (HPW.out _).mono ?_
 rintro e w9 ⟨rfl, hw9⟩
 rw [hw9]
 clear hw9 w9
 go_wp2_with fail
 go_at_call 88
 refine (HPT.out _).mono ?_
 rintro e w9 ⟨rfl, hw9⟩
 rw [hw9]
 clear hw9 w9
 go_wp2_with fail
 have HWR := hid (And.intro w2 w3)
 clear q0 q1 w1 w2 w3
 obtain ⟨i0, hi0, hz0, hz1, hz2⟩ := info_parts info3
 obtain ⟨BZ, hBZ⟩ : ∃ z, W.heap.size = z := ⟨_, rfl⟩
 have HBZ := hid hBZ
 clear hBZ
 go_loopg [12, 13] total (fun gk s12 s13 wr => ∃ (i : Nat) (ra : Option Addr) (rc : Nat), s12 = .slice ra i rc ∧ s13 = .int .i64 (i : Int) ∧ gk = total - i ∧ i ≤ total ∧ wr.ownsRow BZ 3 1 (.slice ra i rc) i (intCells (List.replicate i 1)) ∧ W.grownBy wr none ∧ BZ ≤ wr.heap.size)
 case atStart => exact ⟨0, _, _, rfl, rfl, rfl, Nat.zero_le _, World.ownsRow_nil _ _ _ _, grown_refl _ _, by rw [HBZ.out]; exact Nat.le_refl _⟩
 case round =>
  obtain ⟨k1, ra, rc, rfl, rfl, hgk, hk, hown, hgr, hbz⟩ := hrel
  have HI := hid hgk
  have HOW := hid hown
  have HGR := hid hgr
  have HZR := hid hbz
  clear hgk hown hgr hbz
  by_cases hkn : k1 < total
  ·
   have f1 : decide (k1 < total) = true := decide_eq_true hkn
   have f2 : decide ((k1 : Int) < (total : Int)) = true := decide_eq_true (by omega)
   have hk1 : IntKind.i64.wrap ((k1 : Int) + 1) = ((k1 + 1 : Nat) : Int) := by rw [IntWalk.i64_in _ (by have := HT.out; omega)]; omega
   obtain ⟨Lk, hLk⟩ : ∃ L, intCells (List.replicate k1 1) = L := ⟨_, rfl⟩
   have HST := hid (rep_snoc k1)
   rw [hLk] at HST HOW
   clear hLk
   go_wp2_with (at_builtin; refine wpList_append_own_at _ rfl _ _ 31 rfl BZ 3 i0 (.int .i64 0) 1 8 Try.underlying31 hi0 hz0 hz1 hz2 rfl (by decide) _ k1 Lk rfl (HOW.out.alloc _) ⟨wr.heap.size, 0, none⟩ 1 1 [.int .i64 1] rfl rfl (cell_one_new _ _ _) (fun u hu => by simp at hu; subst hu; rfl) (by have := HT.out; unfold maxLen; omega) (by have := HT.out; omega) (by have := HZR.out; simp; omega) ?_)
   intro v' w6 hown' hgrow6 _ hat6
   obtain ⟨rgA, rcA, rfl⟩ := own_shape hown'
   have haA := gAl wr (.cells #[.int .i64 1] 3) none
   have HG6 := hid (grown_own (gT HGR.out haA) hgrow6 (fun x e => by have h1 := (HOW.out.lt x e).1; have h2 := HBZ.out; omega))
   have HO6 := hid (show w6.ownsRow BZ 3 1 (.slice rgA (k1 + 1) rcA) (k1 + 1) (intCells (List.replicate (k1 + 1) 1)) from by rw [HST.out]; exact hown')
   have HZ6 := hid (Nat.le_trans HZR.out (Nat.le_trans haA.size hgrow6.size))
   clear hown' hgrow6 haA hat6
   go_wp2_with fail
   go_roundg (total - (k1 + 1))
   case measure => rw [HI.out]; omega
   case rel => exact ⟨k1 + 1, rgA, rcA, rfl, rfl, rfl, by omega, HO6.out, HG6.out, HZ6.out⟩
  ·
   have f1 : decide (k1 < total) = false := decide_eq_false hkn
   have f2 : decide ((k1 : Int) < (total : Int)) = false := decide_eq_false (by omega)
   obtain rfl : k1 = total := by omega
   obtain ⟨br, era, hta, hbr, hct⟩ := own_ta HOW.out (by have := HT.out; omega)
   subst era
   have HBR := hid (show w.heap.size ≤ br ∧ b0 < br ∧ b1 < br ∧ b2 < br ∧ b3 < br ∧ b4 < br from by have h1 := HBZ.out; have h2 := HB.out; omega)
   have HR0 := hid (show RJ w b0 b1 b2 b3 b4 br (k : Int) (j : Int) aa ba na ca nb cb k1 gs (fun _ => 1) wr from
    ⟨gT HBX.out.1 HGR.out, by obtain ⟨ac, cc, h1, h2⟩ := HBX.out.2.1; exact ⟨ac, cc, h1.grown HGR.out, h2.grown HGR.out⟩, HBX.out.2.2.1.grown HGR.out, HBX.out.2.2.2.1.grown HGR.out, HBX.out.2.2.2.2.1.grown HGR.out, HBX.out.2.2.2.2.2.grown HGR.out, hta⟩)
   have HCT := hid hct
   clear hkn hk hta hbr hct
   go_wp2_with fail
   clear f1 f2
   go_loopg [14] na (fun gk s14 wr => ∃ (i : Nat) (g : List Gt) (t : Int → Int), s14 = .int .i64 (i : Int) ∧ gk = na - i ∧ i ≤ na ∧ RJ w b0 b1 b2 b3 b4 br (k : Int) (j : Int) aa ba na ca nb cb k1 g t wr ∧ (foldP (jF (n : Int) (rest : Int)) (jPairs (n : Int) (rest : Int) (a.drop i) b) t).run g = (gE, tE) ∧ (Good g ∧ gs <+: g ∧ g.length ≤ gs.length + 2 * (i * nb)) ∧ ∀ q, Ok g (t q))
   case atStart => exact ⟨0, gs, _, rfl, rfl, Nat.zero_le _, HR0.out, HFE.out, ⟨HGM.out.1, List.prefix_refl _, by omega⟩, fun _ => (one_ok HGM.out.1).1⟩
   case round =>
    obtain ⟨i, g, t, rfl, hgi, hi, hrb, hrun, hgd, hok⟩ := hrel
    have HI := hid hgi
    have HR := hid hrb
    have HU := hid (And.intro hrun (And.intro hgd hok))
    clear hgi hrb hrun hgd hok
    by_cases hin : i < na
    ·
     have f1 : decide (i < na) = true := decide_eq_true hin
     have f2 : decide ((i : Int) < (na : Int)) = true := decide_eq_true (by omega)
     obtain ⟨x, hx⟩ : ∃ r, a[i]? = some r := ⟨_, List.getElem?_eq_getElem (by rw [HN.out.1]; exact hin)⟩
     have hrx := HRG.out.1 x (List.mem_of_getElem? hx)
     obtain ⟨xr, hxr⟩ : ∃ z : Nat, x.1 = (z : Int) := ⟨x.1.toNat, by omega⟩
     have HXR := hid (And.intro hxr (And.intro (show xr ≤ 10000 by omega) hx))
     have HU0 := hid (show (foldP (jF (n : Int) (rest : Int)) (jRow (n : Int) (rest : Int) x (b.drop 0) ++ jPairs (n : Int) (rest : Int) (a.drop (i + 1)) b) t).run g = (gE, tE) from by rw [List.drop_zero, ← jpairs_drop hx]; exact HU.out.1)
     have q0 := HR.out.x.2.1
     clear hx hrx hxr
     go_wp2_with fail
     clear f1 f2 q0
     go_loopg [15] nb (fun gk s15 wr => ∃ (jy : Nat) (g : List Gt) (t : Int → Int), s15 = .int .i64 (jy : Int) ∧ gk = nb - jy ∧ jy ≤ nb ∧ RJ w b0 b1 b2 b3 b4 br (k : Int) (j : Int) aa ba na ca nb cb k1 g t wr ∧ (foldP (jF (n : Int) (rest : Int)) (jRow (n : Int) (rest : Int) x (b.drop jy) ++ jPairs (n : Int) (rest : Int) (a.drop (i + 1)) b) t).run g = (gE, tE) ∧ (Good g ∧ gs <+: g ∧ g.length ≤ gs.length + 2 * (i * nb + jy)) ∧ ∀ q, Ok g (t q))
     case atStart => exact ⟨0, g, t, rfl, rfl, Nat.zero_le _, HR.out, HU0.out, HU.out.2.1, HU.out.2.2⟩
     case round =>
      clear HR HU HU0 g t
      obtain ⟨jy, g, t, rfl, hgj, hj, hrb, hrun, ⟨hgd, hpx, hgl⟩, hok⟩ := hrel
      have HJ := hid hgj
      have HR := hid hrb
      clear hgj hrb
      by_cases hjn : jy < nb
      ·
       have f1 : decide (jy < nb) = true := decide_eq_true hjn
       have f2 : decide ((jy : Int) < (nb : Int)) = true := decide_eq_true (by omega)
       have hi0 : (0 : Int) ≤ (i : Int) := by omega
       have hi1 : (i : Int) < (na : Int) := by omega
       have hj0 : (0 : Int) ≤ (jy : Int) := by omega
       have hj1 : (jy : Int) < (nb : Int) := by omega
       have w3 : IntKind.i64.wrap ((jy : Int) + 1) = ((jy + 1 : Nat) : Int) := by rw [IntWalk.i64_in _ (by have := HL.out; omega)]; omega
       obtain ⟨y, hy⟩ : ∃ r, b[jy]? = some r := ⟨_, List.getElem?_eq_getElem (by rw [HN.out.2]; exact hjn)⟩
       have hry := HRG.out.2.1 y (List.mem_of_getElem? hy)
       obtain ⟨yr, hyr⟩ : ∃ z : Nat, y.1 = (z : Int) := ⟨y.1.toNat, by omega⟩
       have HYR := hid (And.intro hyr (And.intro (show yr ≤ 10000 by omega) hy))
       obtain ⟨bar, oa, rfl, x0, x1⟩ := (HC.out.1.grown HR.out.gw).at HXR.out.2.2
       obtain ⟨bb, ob, rfl, y0, y1⟩ := (HC.out.2.grown HR.out.gw).at hy
       rw [HXR.out.1] at x0
       rw [hyr] at y0
       have HRUN := hid (And.intro hrun (And.intro hgd (And.intro hpx (And.intro hgl hok))))
       have q0 := HR.out.x.2.1
       have q1 := HR.out.y.2.1
       clear hy hry hyr hrun hgd hpx hgl hok
       go_upto_region 15 with fail
       have g5 := gAl wr (.cells #[.int .i64 (xr : Int), .int .i64 x.2] 71) none
       have hc5 := one_cells wr (.int .i64 (xr : Int)) (.int .i64 x.2) 71
       obtain ⟨U, hU⟩ : ∃ z, wr.alloc (.cells #[.int .i64 (xr : Int), .int .i64 x.2] 71) = z := ⟨_, rfl⟩
       rw [hU] at g5 hc5 ⊢
       obtain ⟨bx, hbx⟩ : ∃ z, wr.heap.size = z := ⟨_, rfl⟩
       rw [hbx] at hc5 ⊢
       have y2 := g5.cell y0 (by simp)
       have y3 := g5.cell y1 (by simp)
       have q2 := g5.cell q1 (by simp)
       have z0 := hc5.2.1
       have z1 := hc5.2.2.1
       clear hU hbx hc5 x0 x1 y0 y1 q0 q1
       go_upto_region 16 with fail
       have g6 := gAl U (.cells #[.int .i64 (yr : Int), .int .i64 y.2] 71) none
       have hc6 := one_cells U (.int .i64 (yr : Int)) (.int .i64 y.2) 71
       obtain ⟨Y, hY⟩ : ∃ z, U.alloc (.cells #[.int .i64 (yr : Int), .int .i64 y.2] 71) = z := ⟨_, rfl⟩
       rw [hY] at g6 hc6 ⊢
       obtain ⟨bY, hbY⟩ : ∃ z, U.heap.size = z := ⟨_, rfl⟩
       rw [hbY] at hc6 ⊢
       have c0 := g6.cell z0 (by simp)
       have c1 := g6.cell z1 (by simp)
       have c2 := hc6.2.1
       have c3 := hc6.2.2.1
       have HGY := hid (gT g5 g6)
       clear hY hbY hc6 y2 y3 q2 z0 z1 g5 g6
       obtain ⟨a1, ha1⟩ : ∃ z, xr % n = z := ⟨_, rfl⟩
       obtain ⟨a2, ha2⟩ : ∃ z, yr / rest = z := ⟨_, rfl⟩
       obtain ⟨V0, hV0⟩ : ∃ z, xr / n * rest + yr % rest = z := ⟨_, rfl⟩
       have hjr := jr_nat (n := n) (rest := rest) HXR.out.1 HYR.out.1
       rw [hV0] at hjr
       obtain ⟨q1, hq1⟩ : ∃ z, xr / n = z := ⟨_, rfl⟩
       obtain ⟨q2, hq2⟩ : ∃ z, yr % rest = z := ⟨_, rfl⟩
       obtain ⟨P1, hP1⟩ : ∃ z, q1 * rest = z := ⟨_, rfl⟩
       have f3 : (xr : Int) / (n : Int) = (q1 : Int) := by rw [← hq1]; rfl
       have e2 : (yr : Int) / (rest : Int) = (a2 : Int) := by rw [← ha2]; rfl
       have hm1 : (xr : Int).tmod (n : Int) = (a1 : Int) := by rw [Int.tmod_eq_emod_of_nonneg (by omega), ← ha1]; rfl
       have hm2 : (yr : Int).tmod (rest : Int) = (q2 : Int) := by rw [Int.tmod_eq_emod_of_nonneg (by omega), ← hq2]; rfl
       have hq1' : q1 ≤ 10000 := by rw [← hq1]; exact Nat.le_trans (Nat.div_le_self _ _) HXR.out.2.1
       have hq2' : q2 ≤ 10000 := by rw [← hq2]; exact Nat.le_trans (Nat.mod_le _ _) HYR.out.2.1
       have ha2' : a2 ≤ 10000 := by rw [← ha2]; exact Nat.le_trans (Nat.div_le_self _ _) HYR.out.2.1
       have hP1' : P1 ≤ 10000 * 16 := by rw [← hP1]; exact Nat.mul_le_mul hq1' HRS.out.2
       rw [hq1, hq2, hP1] at hV0
       have hw2 : IntKind.i64.wrap (a2 : Int) = (a2 : Int) := IntWalk.i64_in _ (by omega)
       have hw4 : IntKind.i64.wrap (q1 : Int) = (q1 : Int) := IntWalk.i64_in _ (by omega)
       have hw5 : IntKind.i64.wrap ((q1 : Int) * (rest : Int)) = (P1 : Int) := by rw [show (q1 : Int) * (rest : Int) = (P1 : Int) by rw [← hP1]; simp]; exact IntWalk.i64_in _ (by omega)
       have hw6 : IntKind.i64.wrap ((P1 : Int) + (q2 : Int)) = (V0 : Int) := by rw [IntWalk.i64_in _ (by omega)]; omega
       have hn0 : n ≠ 0 := by omega
       have hr0 : rest ≠ 0 := by have := HRS.out; omega
       have HJR := hid (And.intro hjr (show x.1 % (n : Int) = (a1 : Int) ∧ y.1 / (rest : Int) = (a2 : Int) from ⟨by rw [HXR.out.1, ← ha1]; rfl, by rw [HYR.out.1]; exact e2⟩))
       clear ha1 ha2 hV0 hjr hq1 hq2 hP1
       by_cases hmt : a1 = a2
       ·
        have hyes : x.1 % (n : Int) = y.1 / (rest : Int) := by rw [HJR.out.2.1, HJR.out.2.2, hmt]
        have hin2 : (x, y) ∈ jPairs (n : Int) (rest : Int) a b := List.mem_filter.2 ⟨List.mem_flatMap.2 ⟨x, List.mem_of_getElem? HXR.out.2.2, List.mem_map.2 ⟨y, List.mem_of_getElem? HYR.out.2.2, rfl⟩⟩, by simp [hyes]⟩
        have hrk := HRG.out.2.2 _ hin2
        rw [HJR.out.1] at hrk
        have hvk : V0 < k1 := by omega
        have f4 : decide ((k1 : Int) ≤ (V0 : Int)) = false := decide_eq_false (by omega)
        have f5 : decide (k1 ≤ V0) = false := decide_eq_false (by omega)
        have HYES := hid hyes
        clear hyes hin2 hrk
        go_quiet (fail)
        obtain ⟨Z, hZ⟩ : ∃ z, Y.drewN nq = z := ⟨_, rfl⟩
        have hgZ : Y.grownBy Z none := by rw [← hZ]; exact grown_drewN Y nq none
        rw [hZ]
        have HGZ := hid (gT HGY.out hgZ)
        have c4 := hgZ.cell c0 (by simp)
        have c5 := hgZ.cell c1 (by simp)
        have c6 := hgZ.cell c2 (by simp)
        have c7 := hgZ.cell c3 (by simp)
        clear hZ hgZ c0 c1 c2 c3
        go_wp2_with fail
        go_quiet (fail)
        obtain ⟨Z2, hZ2⟩ : ∃ z, Z.drewN nq = z := ⟨_, rfl⟩
        have hgZ2 : Z.grownBy Z2 none := by rw [← hZ2]; exact grown_drewN Z nq none
        rw [hZ2]
        have HG2 := hid (gT HGZ.out hgZ2)
        have HCC := hid (And.intro (hgZ2.cell c4 (by simp)) (And.intro (hgZ2.cell c5 (by simp)) (And.intro (hgZ2.cell c6 (by simp)) (hgZ2.cell c7 (by simp)))))
        clear hZ2 hgZ2 c4 c5 c6 c7
        have hrun := HRUN.out.1
        rw [jdrop_yes _ HYR.out.2.2 HYES.out, run_foldP_cons, run_jF, HJR.out.1] at hrun
        have hgd := HRUN.out.2.1
        have hpx := HRUN.out.2.2.1
        have hgl := HRUN.out.2.2.2.1
        have hok := HRUN.out.2.2.2.2
        have hox : Ok g x.2 := ((HGM.out.2.1.grow hpx).2 x (List.mem_of_getElem? HXR.out.2.2)).1
        have hoy : Ok g y.2 := ((HGM.out.2.2.grow hpx).2 y (List.mem_of_getElem? HYR.out.2.2)).1
        have hbd := jp_lt hin hjn
        have HBD := hid (show g.length ≤ gs.length + 2 * (i * nb + jy) ∧ gs.length + 2 * (i * nb + jy) + 2 ≤ 880 from by have h1 := HNG.out; have h2 := HL.out.1; omega)
        obtain ⟨qq, hqq⟩ : ∃ z, andC g x.2 y.2 = z := ⟨_, rfl⟩
        obtain ⟨g1, u⟩ := qq
        have h1 := step_and hgd x.2 y.2
        have h2 := and_ok hgd (by have := HBD.out; omega) hox hoy
        have h3 := @and_len g x.2 y.2
        rw [hqq] at h1 h2 h3 hrun
        simp only at hrun
        have h3' : g1.length ≤ g.length + 1 := h3
        have ht1 : Ok g1 (t (V0 : Int)) := by have h9 := h1.pre.length_le; have h8 := hok (V0 : Int); unfold Ok at h8 ⊢; simp only at h9; omega
        obtain ⟨qr, hqr⟩ : ∃ z, orC g1 (t (V0 : Int)) u = z := ⟨_, rfl⟩
        obtain ⟨g2, t2⟩ := qr
        have h4 := step_or h1.good (t (V0 : Int)) u
        have h5 := or_ok h1.good (by have := HBD.out; omega) ht1 h2
        have h6 := @or_len g1 (t (V0 : Int)) u
        rw [hqr] at h4 h5 h6 hrun
        simp only at hrun
        have h6' : g2.length ≤ g1.length + 1 := h6
        have hpl : g.length ≤ g2.length := Nat.le_trans h1.pre.length_le h4.pre.length_le
        have HNX := hid (show (foldP (jF (n : Int) (rest : Int)) (jRow (n : Int) (rest : Int) x (b.drop (jy + 1)) ++ jPairs (n : Int) (rest : Int) (a.drop (i + 1)) b) (fun q => if q = (V0 : Int) then t2 else t q)).run g2 = (gE, tE) ∧ (Good g2 ∧ gs <+: g2 ∧ g2.length ≤ gs.length + 2 * (i * nb + (jy + 1))) ∧ ∀ q, Ok g2 ((fun q => if q = (V0 : Int) then t2 else t q) q) from
         ⟨hrun, ⟨h4.good, hpx.trans (h1.pre.trans h4.pre), by have := HBD.out; omega⟩, fun q => by
          show Ok g2 (if q = (V0 : Int) then t2 else t q)
          split
          · exact h5
          ·
           have h8 := hok q
           unfold Ok at h8 ⊢
           omega⟩)
        have HXY := hid (show x.2 ≤ 9223372036854775807 ∧ y.2 ≤ 9223372036854775807 ∧ t (V0 : Int) ≤ 9223372036854775807 ∧ u ≤ 9223372036854775807 ∧ g.length ≤ 880 ∧ g1.length ≤ 881 from by
         have h7 := HBD.out
         unfold Ok at hox hoy ht1 h2
         simp only at h2
         omega)
        have HQQ := hid (And.intro hqq hqr)
        have HGD := hid (And.intro hgd h1.good)
        have hru := HR.out.grown HG2.out
        obtain ⟨ac, cc, hcf, hgr⟩ := hru.c
        have HRU := hid hru
        have HGR2 := hid hgr
        have q0 := hcf.1
        have c0 := HCC.out.2.1
        have c1 := HCC.out.2.2.2
        clear hrun hgd hpx hgl hok hox hoy hbd hqq hqr h1 h2 h3 h3' ht1 h4 h5 h6 h6' hpl hru hcf hgr hm1 hm2 e2 f3 hq1' hq2' ha2' hP1' hw2 hw4 hw5 hw6
        go_wp2_with fail
        go_at_call 82
        refine (rand_at x.2 y.2 HQQ.out.1 HGD.out.1 (by have := HXY.out; omega) HXY.out.1 HXY.out.2.1 HGR2.out).mono ?_
        rintro e wA ⟨aA, cA, rfl, hgA, gA⟩
        have HGA := hid (And.intro hgA gA)
        clear hgA gA q0 c0 c1
        go_upto_region 19 with fail
        have hb9 := CF.new wA aA g1.length cA
        have gb9 := gAl wA (.cells #[.slice aA g1.length cA] 30) none
        obtain ⟨B1, hB1⟩ : ∃ z, wA.alloc (.cells #[.slice aA g1.length cA] 30) = z := ⟨_, rfl⟩
        rw [hB1] at hb9 gb9 ⊢
        obtain ⟨b9, hb9e⟩ : ∃ z, wA.heap.size = z := ⟨_, rfl⟩
        rw [hb9e] at hb9 ⊢
        have HGB := hid (gT HGA.out.2 gb9)
        have HB9 := hid (And.intro hb9 (HGA.out.1.grown gb9))
        have HRB := hid (HRU.out.grown HGB.out)
        have hv0 : (0 : Int) ≤ (V0 : Int) := by omega
        have hv1 : (V0 : Int) < (k1 : Int) := by omega
        clear hB1 hb9e hb9 gb9
        go_cut [21, 22] (fun s0 s1 wx => ∃ b a c, s0 = .pointer (some ⟨b, 0, none⟩) ∧ s1 = .int .i64 t2 ∧ B1.heap.size ≤ b ∧ CB wx b a c g2 ∧ B1.grownBy wx none)
        case first =>
         have HS := hid (fun (Wh : World) (hWh : B1.grownBy Wh none) => (⟨hWh, hWh.cell HB9.out.1.1 (by simp), hWh.cell (HRB.out.m.cells V0 hvk) (by simp)⟩ : (fun Wh : World => B1.grownBy Wh none ∧ Wh.cell? ⟨b9, 0, none⟩ = some (.slice aA g1.length cA) ∧ Wh.cell? ⟨br, V0, none⟩ = some (.int .i64 (t (V0 : Int)))) Wh))
         have hdr : B1.grownBy B1.drew none := ⟨rfl, rfl, rfl, Nat.le_refl _, fun _ _ _ => rfl⟩
         refine wp_region_held_drew (S := (fun Wh : World => B1.grownBy Wh none ∧ Wh.cell? ⟨b9, 0, none⟩ = some (.slice aA g1.length cA) ∧ Wh.cell? ⟨br, V0, none⟩ = some (.int .i64 (t (V0 : Int))))) (by kernel_rfl) (HS.out _ hdr) (fun hH => ?_)
         refine wpAnyH_take (i := 0) (oi := { dst := some 105, op := Op.load 30 (Operand.tmp 19), type := 30, pos := "ref.go:155", after := #[], guard := none }) (v := ?_) rfl (by kernel_rfl) (by kernel_rfl) (by kernel_rfl) (fun _ _ _ h => h) (Or.inl ⟨by rfl, ?_⟩) (by assumption) ?_
         rotate_left 1
         · (intro W h; (try dsimp only at h); go_simp <;> with_reducible rfl)
         try simp only [Act.put, sA, sB, sC]
         refine wpAnyH_take (i := 1) (oi := { dst := some 106, op := Op.move (Operand.tmp 12), type := 31, pos := "ref.go:155", after := #[], guard := none }) (v := ?_) rfl (by kernel_rfl) (by kernel_rfl) (by kernel_rfl) (fun _ _ _ h => h) (Or.inl ⟨by rfl, ?_⟩) (by assumption) ?_
         rotate_left 1
         · (intro W h; (try dsimp only at h); go_simp <;> with_reducible rfl)
         try simp only [Act.put, sA, sB, sC]
         refine wpAnyH_take (i := 2) (oi := { dst := some 107, op := Op.move (Operand.tmp 18), type := 3, pos := "ref.go:155", after := #[], guard := none }) (v := ?_) rfl (by kernel_rfl) (by kernel_rfl) (by kernel_rfl) (fun _ _ _ h => h) (Or.inl ⟨by rfl, ?_⟩) (by assumption) ?_
         rotate_left 1
         · (intro W h; (try dsimp only at h); go_simp <;> with_reducible rfl)
         try simp only [Act.put, sA, sB, sC]
         refine wpAnyH_take (i := 3) (oi := { dst := some 108, op := Op.indexAddr 31 (Operand.tmp 106) (Operand.tmp 107), type := 0, pos := "ref.go:155", after := #[{ on := 1, ground := Ground.data }, { on := 2, ground := Ground.data }], guard := none }) (v := ?_) rfl (by kernel_rfl) (by kernel_rfl) (by kernel_rfl) (fun _ _ _ h => h) (Or.inl ⟨by rfl, ?_⟩) (by assumption) ?_
         rotate_left 1
         · (intro W h; (try dsimp only at h); go_simp <;> with_reducible rfl)
         try simp only [Act.put, sA, sB, sC]
         refine wpAnyH_take (i := 4) (oi := { dst := some 109, op := Op.load 3 (Operand.tmp 108), type := 3, pos := "ref.go:155", after := #[{ on := 3, ground := Ground.data }], guard := none }) (v := ?_) rfl (by kernel_rfl) (by kernel_rfl) (by kernel_rfl) (fun _ _ _ h => h) (Or.inl ⟨by rfl, ?_⟩) (by assumption) ?_
         rotate_left 1
         · (intro W h; (try dsimp only at h); go_simp <;> with_reducible rfl)
         try simp only [Act.put, sA, sB, sC]
         refine wpAnyH_take (i := 5) (oi := { dst := some 110, op := Op.move (Operand.tmp 20), type := 3, pos := "ref.go:155", after := #[], guard := none }) (v := ?_) rfl (by kernel_rfl) (by kernel_rfl) (by kernel_rfl) (fun _ _ _ h => h) (Or.inl ⟨by rfl, ?_⟩) (by assumption) ?_
         rotate_left 1
         · (intro W h; (try dsimp only at h); go_simp <;> with_reducible rfl)
         try simp only [Act.put, sA, sB, sC]
         refine wpAnyH_ready (rs := [6, 10]) (by kernel_rfl) (by simp) ?_
         refine (AllReadyH.cons (o := { dst := some 111, op := Op.call { callee := Callee.value (Operand.func 78), args := #[Operand.tmp 105, Operand.tmp 109, Operand.tmp 110], argTypes := #[30, 3, 3] }, type := 43, pos := "ref.go:155", after := #[{ on := 0, ground := Ground.data }, { on := 4, ground := Ground.data }, { on := 5, ground := Ground.data }], guard := none }) rfl (fun K hK => ?_) (AllReadyH.cons (o := { dst := some 21, op := Op.alloc 30, type := 0, pos := "ref.go:155", after := #[], guard := none }) rfl (fun K hK => ?_) AllReadyH.nil))
         ·
          rw [if_pos (by rfl)]
          go_simp
          go_at_call 78
          refine (ror_at (t (V0 : Int)) u HQQ.out.2 HGD.out.2 (by have := HXY.out; omega) HXY.out.2.2.1 HXY.out.2.2.2.1 (HB9.out.2.grown hdr)).mono ?_
          rintro e wM ⟨aM, cM, rfl, hr, gM⟩
          have hgM := gT hdr gM
          go_wp2_with fail
          refine hK.out _ _ (HS.out _ hgM) (fun hH => ?_)
          clear hK K
          try simp only [Act.put, sA, sB, sC]
          refine wpAnyH_take (i := 7) (oi := { dst := some 104, op := Op.move (Operand.tmp 111), type := 43, pos := "ref.go:155", after := #[{ on := 6, ground := Ground.data }], guard := none }) (v := ?_) rfl (by kernel_rfl) (by kernel_rfl) (by kernel_rfl) (fun _ _ _ h => h) (Or.inl ⟨by rfl, ?_⟩) (by assumption) ?_
          rotate_left 1
          · (intro W h; (try dsimp only at h); go_simp <;> with_reducible rfl)
          try simp only [Act.put, sA, sB, sC]
          refine wpAnyH_take (i := 8) (oi := { dst := some 112, op := Op.extract (Operand.tmp 104) 0, type := 30, pos := "ref.go:155", after := #[{ on := 7, ground := Ground.data }], guard := none }) (v := ?_) rfl (by kernel_rfl) (by kernel_rfl) (by kernel_rfl) (fun _ _ _ h => h) (Or.inl ⟨by rfl, ?_⟩) (by assumption) ?_
          rotate_left 1
          · (intro W h; (try dsimp only at h); go_simp <;> with_reducible rfl)
          try simp only [Act.put, sA, sB, sC]
          refine wpAnyH_take (i := 9) (oi := { dst := some 113, op := Op.extract (Operand.tmp 104) 1, type := 3, pos := "ref.go:155", after := #[{ on := 7, ground := Ground.data }, { on := 11, ground := Ground.gcOnly Departure.lateStores }], guard := none }) (v := ?_) rfl (by kernel_rfl) (by kernel_rfl) (by kernel_rfl) (fun _ _ _ h => h) (Or.inl ⟨by rfl, ?_⟩) (by assumption) ?_
          rotate_left 1
          · (intro W h; (try dsimp only at h); go_simp <;> with_reducible rfl)
          try simp only [Act.put, sA, sB, sC]
          refine wpAnyH_ready (rs := [10]) (by kernel_rfl) (by simp) ?_
          refine (AllReadyH.cons (o := { dst := some 21, op := Op.alloc 30, type := 0, pos := "ref.go:155", after := #[], guard := none }) rfl (fun K hK => ?_) AllReadyH.nil)
          rw [if_pos (by rfl)]
          go_simp
          have hgA : B1.grownBy (World.alloc wM (.cells #[.slice none 0 0] 30)) none := gT hgM (gAl wM (.cells #[.slice none 0 0] 30) none)
          have hz : BoxZ (World.alloc wM (.cells #[.slice none 0 0] 30)) (wM.heap.size) := BoxZ.new wM
          have hge0 : B1.heap.size ≤ wM.heap.size := World.grownBy.size hgM
          have hge : ∀ p, wM.heap.size = p → B1.heap.size ≤ p := fun p e => by rw [← e]; exact hge0
          clear hge0
          replace hr := hr.grown (gAl wM (.cells #[.slice none 0 0] 30) none)
          obtain ⟨WA, hWA⟩ : ∃ z, World.alloc wM (.cells #[.slice none 0 0] 30) = z := ⟨_, rfl⟩
          rw [hWA] at hgA hz ⊢
          rw [hWA] at hr
          clear hWA
          obtain ⟨pA, hpA⟩ : ∃ p, wM.heap.size = p := ⟨_, rfl⟩
          replace hge := hge pA hpA
          rw [hpA] at hz ⊢
          clear hpA
          refine hK.out _ _ (HS.out _ hgA) (fun hH => ?_)
          clear hK K
          try simp only [Act.put, sA, sB, sC]
          refine wpAnyH_ready (rs := [11]) (by kernel_rfl) (by simp) ?_
          refine (AllReadyH.cons (o := { dst := none, op := Op.store 30 (Operand.tmp 21) (Operand.tmp 112), type := 0, pos := "ref.go:155", after := #[{ on := 10, ground := Ground.data }, { on := 8, ground := Ground.data }, { on := 6, ground := Ground.chain }, { on := 0, ground := Ground.phase }, { on := 1, ground := Ground.phase }, { on := 2, ground := Ground.phase }, { on := 3, ground := Ground.phase }, { on := 4, ground := Ground.phase }, { on := 5, ground := Ground.phase }, { on := 6, ground := Ground.phase }, { on := 7, ground := Ground.phase }, { on := 8, ground := Ground.phase }, { on := 9, ground := Ground.textOnly Departure.lateStores }, { on := 10, ground := Ground.phase }], guard := none }) rfl (fun K hK => ?_) AllReadyH.nil)
          rw [if_pos (by rfl)]
          have z0 := hz.1
          have zf := hz.2
          go_simp
          clear z0 zf
          have hcb := CB.put hr hz.1 hz.2
          have hgS := grown_own hgA (grown_set WA pA 0 (.slice aM g2.length cM)) (fun k hk => by cases hk; exact hge)
          obtain ⟨WS, hWS⟩ : ∃ z, World.setCell WA ⟨pA, 0, none⟩ (.slice aM g2.length cM) = z := ⟨_, rfl⟩
          rw [hWS] at hcb hgS  ⊢
          clear hWS
          refine hK.out _ _ (HS.out _ hgS) (fun hH => ?_)
          clear hK K
          try simp only [Act.put, sA, sB, sC]
          refine wpAnyH_take (i := 12) (oi := { dst := some 22, op := Op.assign (Operand.tmp 113), type := 3, pos := "ref.go:155", after := #[{ on := 9, ground := Ground.data }, { on := 11, ground := Ground.chain }, { on := 0, ground := Ground.phase }, { on := 1, ground := Ground.phase }, { on := 2, ground := Ground.phase }, { on := 3, ground := Ground.phase }, { on := 4, ground := Ground.phase }, { on := 5, ground := Ground.phase }, { on := 6, ground := Ground.phase }, { on := 7, ground := Ground.phase }, { on := 8, ground := Ground.phase }, { on := 9, ground := Ground.phase }, { on := 10, ground := Ground.phase }, { on := 11, ground := Ground.phase }], guard := none }) (v := ?_) rfl (by kernel_rfl) (by kernel_rfl) (by kernel_rfl) (fun _ _ _ h => h) (Or.inl ⟨by rfl, ?_⟩) (by assumption) ?_
          rotate_left 1
          · (intro W h; (try dsimp only at h); go_simp <;> with_reducible rfl)
          try simp only [Act.put, sA, sB, sC]
          refine wpAnyH_done (by kernel_rfl) ?_ _
          have hEND := hgS
          clear hH
          go_wp2_with fail
          go_meet
          exact ⟨pA, aM, cM, rfl, rfl, hge, hcb, hEND⟩
         ·
          rw [if_pos (by rfl)]
          go_simp
          have hgA : B1.grownBy ((World.alloc B1 (.cells #[.slice none 0 0] 30)).drew) none := gT (gAl B1 (.cells #[.slice none 0 0] 30) none) (⟨rfl, rfl, rfl, Nat.le_refl _, fun _ _ _ => rfl⟩ : (World.alloc B1 (.cells #[.slice none 0 0] 30)).grownBy (World.alloc B1 (.cells #[.slice none 0 0] 30)).drew none)
          have hz : BoxZ ((World.alloc B1 (.cells #[.slice none 0 0] 30)).drew) (B1.heap.size) := (BoxZ.new B1).grown (⟨rfl, rfl, rfl, Nat.le_refl _, fun _ _ _ => rfl⟩ : (World.alloc B1 (.cells #[.slice none 0 0] 30)).grownBy (World.alloc B1 (.cells #[.slice none 0 0] 30)).drew none)
          have hge0 : B1.heap.size ≤ B1.heap.size := Nat.le_refl _
          have hge : ∀ p, B1.heap.size = p → B1.heap.size ≤ p := fun p e => by rw [← e]; exact hge0
          clear hge0
          obtain ⟨WA, hWA⟩ : ∃ z, (World.alloc B1 (.cells #[.slice none 0 0] 30)).drew = z := ⟨_, rfl⟩
          rw [hWA] at hgA hz ⊢
          clear hWA
          obtain ⟨pA, hpA⟩ : ∃ p, B1.heap.size = p := ⟨_, rfl⟩
          replace hge := hge pA hpA
          rw [hpA] at hz ⊢
          clear hpA
          refine hK.out _ _ (HS.out _ hgA) (fun hH => ?_)
          clear hK K
          try simp only [Act.put, sA, sB, sC]
          refine wpAnyH_ready (rs := [6]) (by kernel_rfl) (by simp) ?_
          refine (AllReadyH.cons (o := { dst := some 111, op := Op.call { callee := Callee.value (Operand.func 78), args := #[Operand.tmp 105, Operand.tmp 109, Operand.tmp 110], argTypes := #[30, 3, 3] }, type := 43, pos := "ref.go:155", after := #[{ on := 0, ground := Ground.data }, { on := 4, ground := Ground.data }, { on := 5, ground := Ground.data }], guard := none }) rfl (fun K hK => ?_) AllReadyH.nil)
          rw [if_pos (by rfl)]
          go_simp
          go_at_call 78
          refine (ror_at (t (V0 : Int)) u HQQ.out.2 HGD.out.2 (by have := HXY.out; omega) HXY.out.2.2.1 HXY.out.2.2.2.1 (HB9.out.2.grown hgA)).mono ?_
          rintro e wM ⟨aM, cM, rfl, hr, gM⟩
          have hgM := gT hgA gM
          replace hz := hz.grown gM
          go_wp2_with fail
          refine hK.out _ _ (HS.out _ hgM) (fun hH => ?_)
          clear hK K
          try simp only [Act.put, sA, sB, sC]
          refine wpAnyH_take (i := 7) (oi := { dst := some 104, op := Op.move (Operand.tmp 111), type := 43, pos := "ref.go:155", after := #[{ on := 6, ground := Ground.data }], guard := none }) (v := ?_) rfl (by kernel_rfl) (by kernel_rfl) (by kernel_rfl) (fun _ _ _ h => h) (Or.inl ⟨by rfl, ?_⟩) (by assumption) ?_
          rotate_left 1
          · (intro W h; (try dsimp only at h); go_simp <;> with_reducible rfl)
          try simp only [Act.put, sA, sB, sC]
          refine wpAnyH_take (i := 8) (oi := { dst := some 112, op := Op.extract (Operand.tmp 104) 0, type := 30, pos := "ref.go:155", after := #[{ on := 7, ground := Ground.data }], guard := none }) (v := ?_) rfl (by kernel_rfl) (by kernel_rfl) (by kernel_rfl) (fun _ _ _ h => h) (Or.inl ⟨by rfl, ?_⟩) (by assumption) ?_
          rotate_left 1
          · (intro W h; (try dsimp only at h); go_simp <;> with_reducible rfl)
          try simp only [Act.put, sA, sB, sC]
          refine wpAnyH_take (i := 9) (oi := { dst := some 113, op := Op.extract (Operand.tmp 104) 1, type := 3, pos := "ref.go:155", after := #[{ on := 7, ground := Ground.data }, { on := 11, ground := Ground.gcOnly Departure.lateStores }], guard := none }) (v := ?_) rfl (by kernel_rfl) (by kernel_rfl) (by kernel_rfl) (fun _ _ _ h => h) (Or.inl ⟨by rfl, ?_⟩) (by assumption) ?_
          rotate_left 1
          · (intro W h; (try dsimp only at h); go_simp <;> with_reducible rfl)
          try simp only [Act.put, sA, sB, sC]
          refine wpAnyH_ready (rs := [11]) (by kernel_rfl) (by simp) ?_
          refine (AllReadyH.cons (o := { dst := none, op := Op.store 30 (Operand.tmp 21) (Operand.tmp 112), type := 0, pos := "ref.go:155", after := #[{ on := 10, ground := Ground.data }, { on := 8, ground := Ground.data }, { on := 6, ground := Ground.chain }, { on := 0, ground := Ground.phase }, { on := 1, ground := Ground.phase }, { on := 2, ground := Ground.phase }, { on := 3, ground := Ground.phase }, { on := 4, ground := Ground.phase }, { on := 5, ground := Ground.phase }, { on := 6, ground := Ground.phase }, { on := 7, ground := Ground.phase }, { on := 8, ground := Ground.phase }, { on := 9, ground := Ground.textOnly Departure.lateStores }, { on := 10, ground := Ground.phase }], guard := none }) rfl (fun K hK => ?_) AllReadyH.nil)
          rw [if_pos (by rfl)]
          have z0 := hz.1
          have zf := hz.2
          go_simp
          clear z0 zf
          have hcb := CB.put hr hz.1 hz.2
          have hgS := grown_own hgM (grown_set wM pA 0 (.slice aM g2.length cM)) (fun k hk => by cases hk; exact hge)
          obtain ⟨WS, hWS⟩ : ∃ z, World.setCell wM ⟨pA, 0, none⟩ (.slice aM g2.length cM) = z := ⟨_, rfl⟩
          rw [hWS] at hcb hgS  ⊢
          clear hWS
          refine hK.out _ _ (HS.out _ hgS) (fun hH => ?_)
          clear hK K
          try simp only [Act.put, sA, sB, sC]
          refine wpAnyH_take (i := 12) (oi := { dst := some 22, op := Op.assign (Operand.tmp 113), type := 3, pos := "ref.go:155", after := #[{ on := 9, ground := Ground.data }, { on := 11, ground := Ground.chain }, { on := 0, ground := Ground.phase }, { on := 1, ground := Ground.phase }, { on := 2, ground := Ground.phase }, { on := 3, ground := Ground.phase }, { on := 4, ground := Ground.phase }, { on := 5, ground := Ground.phase }, { on := 6, ground := Ground.phase }, { on := 7, ground := Ground.phase }, { on := 8, ground := Ground.phase }, { on := 9, ground := Ground.phase }, { on := 10, ground := Ground.phase }, { on := 11, ground := Ground.phase }], guard := none }) (v := ?_) rfl (by kernel_rfl) (by kernel_rfl) (by kernel_rfl) (fun _ _ _ h => h) (Or.inl ⟨by rfl, ?_⟩) (by assumption) ?_
          rotate_left 1
          · (intro W h; (try dsimp only at h); go_simp <;> with_reducible rfl)
          try simp only [Act.put, sA, sB, sC]
          refine wpAnyH_done (by kernel_rfl) ?_ _
          have hEND := hgS
          clear hH
          go_wp2_with fail
          go_meet
          exact ⟨pA, aM, cM, rfl, rfl, hge, hcb, hEND⟩
        case rest =>
         obtain ⟨bn, an, cn, rfl, rfl, hbn, hcb, hgx⟩ := hcut
         obtain ⟨U, hU⟩ : ∃ z, z = wc := ⟨_, rfl⟩
         rw [← hU] at hcb hgx ⊢
         clear hU
         have hru := HRB.out.grown hgx
         have HCB := hid hcb
         obtain ⟨ac', cc', hcf, _⟩ := hru.c
         have HRU2 := hid hru
         have q0 := hcb.1
         have q1 := hcf.1
         have q2 := hcf.2
         clear hcb hgx hru hbn hcf
         go_upto_region 21 with fail
         clear q0 q1 q2
         have hr2 := HRU2.out.setC (by have := HB.out; have := HBR.out; omega) HCB.out.2.2
         obtain ⟨V, hV⟩ : ∃ z, U.setCell ⟨b0, 0, none⟩ (.slice an g2.length cn) = z := ⟨_, rfl⟩
         rw [hV] at hr2 ⊢
         have HR3 := hid (hr2.setT HBR.out hvk t2)
         have q0 := hr2.m.cells V0 hvk
         have q1 := hr2.m.fr V0
         clear hV hr2
         go_wp2_with fail
         go_roundg (nb - (jy + 1))
         case measure => rw [HJ.out]; omega
         case rel => exact ⟨jy + 1, g2, _, rfl, rfl, by omega, HR3.out, HNX.out⟩
       ·
        go_quiet (fail)
        obtain ⟨Z, hZ⟩ : ∃ z, Y.drewN nq = z := ⟨_, rfl⟩
        have hgZ : Y.grownBy Z none := by rw [← hZ]; exact grown_drewN Y nq none
        rw [hZ]
        have HGZ := hid (gT HGY.out hgZ)
        have HC4 := hid (And.intro (hgZ.cell c0 (by simp)) (hgZ.cell c2 (by simp)))
        have hno : ¬ x.1 % (n : Int) = y.1 / (rest : Int) := by rw [HJR.out.2.1, HJR.out.2.2]; omega
        have e9 : b.drop jy = y :: b.drop (jy + 1) := by
         obtain ⟨hj9, hv9⟩ := List.getElem?_eq_some_iff.1 HYR.out.2.2
         rw [List.drop_eq_getElem_cons hj9, hv9]
        have hrun := HRUN.out.1
        rw [e9, jRow_no hno] at hrun
        have HNX := hid (show (foldP (jF (n : Int) (rest : Int)) (jRow (n : Int) (rest : Int) x (b.drop (jy + 1)) ++ jPairs (n : Int) (rest : Int) (a.drop (i + 1)) b) t).run g = (gE, tE) ∧ (Good g ∧ gs <+: g ∧ g.length ≤ gs.length + 2 * (i * nb + (jy + 1))) ∧ ∀ q, Ok g (t q) from ⟨hrun, ⟨HRUN.out.2.1, HRUN.out.2.2.1, by have := HRUN.out.2.2.2.1; omega⟩, HRUN.out.2.2.2.2⟩)
        clear hZ hgZ c0 c1 c2 c3 hno e9 hrun
        have f4 : ((a1 : Int) == (a2 : Int)) = false := beq_eq_false_iff_ne.2 (by omega)
        have f5 : ((a1 : Int) != (a2 : Int)) = true := by simp [bne, f4]
        have f6 : decide ((a1 : Int) = (a2 : Int)) = false := decide_eq_false (by omega)
        go_wp2_with fail
        have HS := hid (fun (Wh : World) (hWh : Z.grownBy Wh none) => (⟨hWh, hWh.cell HC4.out.1 (by simp), hWh.cell HC4.out.2 (by simp)⟩ : (fun Wh : World => Z.grownBy Wh none ∧ Wh.cell? ⟨bx, 0, none⟩ = some (.int .i64 (xr : Int)) ∧ Wh.cell? ⟨bY, 0, none⟩ = some (.int .i64 (yr : Int))) Wh))
        have hdr : Z.grownBy Z.drew none := ⟨rfl, rfl, rfl, Nat.le_refl _, fun _ _ _ => rfl⟩
        refine wp_region_held_drew (S := (fun Wh : World => Z.grownBy Wh none ∧ Wh.cell? ⟨bx, 0, none⟩ = some (.int .i64 (xr : Int)) ∧ Wh.cell? ⟨bY, 0, none⟩ = some (.int .i64 (yr : Int)))) (by kernel_rfl) (HS.out _ hdr) (fun hH => ?_)
        refine wpAnyH_take (i := 0) (oi := { dst := some 81, op := Op.fieldAddr 71 (Operand.tmp 16) 0, type := 0, pos := "ref.go:151", after := #[], guard := none }) (v := ?_) rfl (by kernel_rfl) (by kernel_rfl) (by kernel_rfl) (fun _ _ _ h => h) (Or.inl ⟨by rfl, ?_⟩) (by assumption) ?_
        rotate_left 1
        · (intro W h; (try dsimp only at h); go_simp <;> with_reducible rfl)
        try simp only [Act.put, sA, sB, sC]
        refine wpAnyH_take (i := 1) (oi := { dst := some 82, op := Op.load 3 (Operand.tmp 81), type := 3, pos := "ref.go:151", after := #[{ on := 0, ground := Ground.data }], guard := none }) (v := ?_) rfl (by kernel_rfl) (by kernel_rfl) (by kernel_rfl) (fun _ _ _ h => h) (Or.inl ⟨by rfl, ?_⟩) (by assumption) ?_
        rotate_left 1
        · (intro W h; (try dsimp only at h); go_simp <;> with_reducible rfl)
        try simp only [Act.put, sA, sB, sC]
        refine wpAnyH_take (i := 2) (oi := { dst := some 83, op := Op.move (Operand.tmp 1), type := 3, pos := "ref.go:151", after := #[], guard := none }) (v := ?_) rfl (by kernel_rfl) (by kernel_rfl) (by kernel_rfl) (fun _ _ _ h => h) (Or.inl ⟨by rfl, ?_⟩) (by assumption) ?_
        rotate_left 1
        · (intro W h; (try dsimp only at h); go_simp <;> with_reducible rfl)
        try simp only [Act.put, sA, sB, sC]
        refine wpAnyH_take (i := 3) (oi := { dst := some 84, op := Op.binOp BinOp.rem 3 (Operand.tmp 82) (Operand.tmp 83) 3, type := 3, pos := "ref.go:151", after := #[{ on := 1, ground := Ground.data }, { on := 2, ground := Ground.data }], guard := none }) (v := ?_) rfl (by kernel_rfl) (by kernel_rfl) (by kernel_rfl) (fun _ _ _ h => h) (Or.inl ⟨by rfl, ?_⟩) (by assumption) ?_
        rotate_left 1
        · (intro W h; (try dsimp only at h); go_simp <;> with_reducible rfl)
        try simp only [Act.put, sA, sB, sC]
        refine wpAnyH_take (i := 4) (oi := { dst := some 85, op := Op.fieldAddr 71 (Operand.tmp 17) 0, type := 0, pos := "ref.go:151", after := #[], guard := none }) (v := ?_) rfl (by kernel_rfl) (by kernel_rfl) (by kernel_rfl) (fun _ _ _ h => h) (Or.inl ⟨by rfl, ?_⟩) (by assumption) ?_
        rotate_left 1
        · (intro W h; (try dsimp only at h); go_simp <;> with_reducible rfl)
        try simp only [Act.put, sA, sB, sC]
        refine wpAnyH_take (i := 5) (oi := { dst := some 86, op := Op.load 3 (Operand.tmp 85), type := 3, pos := "ref.go:151", after := #[{ on := 4, ground := Ground.data }], guard := none }) (v := ?_) rfl (by kernel_rfl) (by kernel_rfl) (by kernel_rfl) (fun _ _ _ h => h) (Or.inl ⟨by rfl, ?_⟩) (by assumption) ?_
        rotate_left 1
        · (intro W h; (try dsimp only at h); go_simp <;> with_reducible rfl)
        try simp only [Act.put, sA, sB, sC]
        refine wpAnyH_take (i := 6) (oi := { dst := some 87, op := Op.move (Operand.tmp 10), type := 3, pos := "ref.go:151", after := #[], guard := none }) (v := ?_) rfl (by kernel_rfl) (by kernel_rfl) (by kernel_rfl) (fun _ _ _ h => h) (Or.inl ⟨by rfl, ?_⟩) (by assumption) ?_
        rotate_left 1
        · (intro W h; (try dsimp only at h); go_simp <;> with_reducible rfl)
        try simp only [Act.put, sA, sB, sC]
        refine wpAnyH_take (i := 7) (oi := { dst := some 88, op := Op.binOp BinOp.quo 3 (Operand.tmp 86) (Operand.tmp 87) 3, type := 3, pos := "ref.go:151", after := #[{ on := 5, ground := Ground.data }, { on := 6, ground := Ground.data }], guard := none }) (v := ?_) rfl (by kernel_rfl) (by kernel_rfl) (by kernel_rfl) (fun _ _ _ h => h) (Or.inl ⟨by rfl, ?_⟩) (by assumption) ?_
        rotate_left 1
        · (intro W h; (try dsimp only at h); go_simp <;> with_reducible rfl)
        try simp only [Act.put, sA, sB, sC]
        refine wpAnyH_take (i := 8) (oi := { dst := some 89, op := Op.binOp BinOp.neq 3 (Operand.tmp 84) (Operand.tmp 88) 3, type := 4, pos := "ref.go:151", after := #[{ on := 3, ground := Ground.data }, { on := 7, ground := Ground.data }], guard := none }) (v := ?_) rfl (by kernel_rfl) (by kernel_rfl) (by kernel_rfl) (fun _ _ _ h => h) (Or.inl ⟨by rfl, ?_⟩) (by assumption) ?_
        rotate_left 1
        · (intro W h; (try dsimp only at h); go_simp <;> with_reducible rfl)
        try simp only [Act.put, sA, sB, sC]
        refine wpAnyH_take (i := 9) (oi := { dst := some 90, op := Op.move (Operand.tmp 89), type := 4, pos := "ref.go:151", after := #[{ on := 8, ground := Ground.data }], guard := none }) (v := ?_) rfl (by kernel_rfl) (by kernel_rfl) (by kernel_rfl) (fun _ _ _ h => h) (Or.inl ⟨by rfl, ?_⟩) (by assumption) ?_
        rotate_left 1
        · (intro W h; (try dsimp only at h); go_simp <;> with_reducible rfl)
        try simp only [Act.put, sA, sB, sC]
        refine wpAnyH_take (i := 10) (oi := { dst := some 91, op := Op.move (Operand.tmp 18), type := 3, pos := "ref.go:151", after := #[{ on := 9, ground := Ground.guard }], guard := some (9, false) }) (v := undef) rfl (by kernel_rfl) (by kernel_rfl) (by kernel_rfl) (fun _ _ _ h => h) (Or.inr ⟨by rfl, rfl⟩) (by assumption) ?_
        try simp only [Act.put, sA, sB, sC]
        refine wpAnyH_take (i := 11) (oi := { dst := some 92, op := Op.move (Operand.tmp 11), type := 3, pos := "ref.go:151", after := #[{ on := 9, ground := Ground.guard }], guard := some (9, false) }) (v := undef) rfl (by kernel_rfl) (by kernel_rfl) (by kernel_rfl) (fun _ _ _ h => h) (Or.inr ⟨by rfl, rfl⟩) (by assumption) ?_
        try simp only [Act.put, sA, sB, sC]
        refine wpAnyH_take (i := 12) (oi := { dst := some 93, op := Op.binOp BinOp.geq 3 (Operand.tmp 91) (Operand.tmp 92) 3, type := 4, pos := "ref.go:151", after := #[{ on := 10, ground := Ground.data }, { on := 11, ground := Ground.data }, { on := 9, ground := Ground.guard }], guard := some (9, false) }) (v := undef) rfl (by kernel_rfl) (by kernel_rfl) (by kernel_rfl) (fun _ _ _ h => h) (Or.inr ⟨by rfl, rfl⟩) (by assumption) ?_
        try simp only [Act.put, sA, sB, sC]
        refine wpAnyH_take (i := 13) (oi := { dst := some 94, op := Op.pick (Operand.tmp 90) (Operand.const (Value.bool true)) (Operand.tmp 93), type := 4, pos := "ref.go:151", after := #[{ on := 9, ground := Ground.data }, { on := 12, ground := Ground.data }], guard := none }) (v := ?_) rfl (by kernel_rfl) (by kernel_rfl) (by kernel_rfl) (fun _ _ _ h => h) (Or.inl ⟨by rfl, ?_⟩) (by assumption) ?_
        rotate_left 1
        · (intro W h; (try dsimp only at h); go_simp <;> with_reducible rfl)
        try simp only [Act.put, sA, sB, sC]
        refine wpAnyH_done (by kernel_rfl) ?_ _
        have hEND := hdr
        clear hH
        have HRZ := hid (HR.out.grown (gT HGZ.out hEND))
        clear hEND HS
        go_wp2_with fail
        go_roundg (nb - (jy + 1))
        case measure => rw [HJ.out]; omega
        case rel => exact ⟨jy + 1, g, t, rfl, rfl, by omega, HRZ.out, HNX.out⟩
      ·
       have f1 : decide (jy < nb) = false := decide_eq_false hjn
       have f2 : decide ((jy : Int) < (nb : Int)) = false := decide_eq_false (by omega)
       obtain rfl : jy = nb := by omega
       have w3 : IntKind.i64.wrap ((i : Int) + 1) = ((i + 1 : Nat) : Int) := by rw [IntWalk.i64_in _ (by have := HL.out; omega)]; omega
       have HFE2 := hid (show (foldP (jF (n : Int) (rest : Int)) (jPairs (n : Int) (rest : Int) (a.drop (i + 1)) b) t).run g = (gE, tE) ∧ (Good g ∧ gs <+: g ∧ g.length ≤ gs.length + 2 * ((i + 1) * jy)) ∧ ∀ q, Ok g (t q) from by
        rw [List.drop_eq_nil_of_le (by rw [HN.out.2]; exact Nat.le_refl _), jRow_nil, List.nil_append] at hrun
        rw [show (i + 1) * jy = i * jy + jy from Nat.succ_mul _ _]
        exact ⟨hrun, ⟨hgd, hpx, hgl⟩, hok⟩)
       have q1 := HR.out.y.2.1
       clear hjn hj hrun hgd hpx hgl hok
       go_wp2_with fail
       clear q1
       go_roundg (na - (i + 1))
       case measure => rw [HI.out]; omega
       case rel => exact ⟨i + 1, g, t, rfl, rfl, by omega, HR.out, HFE2.out⟩
    ·
     have f1 : decide (i < na) = false := decide_eq_false hin
     have f2 : decide ((i : Int) < (na : Int)) = false := decide_eq_false (by omega)
     obtain rfl : i = na := by omega
     have e9 := HU.out.1
     rw [List.drop_eq_nil_of_le (by rw [HN.out.1]; exact Nat.le_refl _)] at e9
     have e8 : (g, t) = (gE, tE) := e9
     injection e8 with e1 e2
     have HEQ := hid (And.intro e1 e2)
     have q0 := HR.out.x.2.1
     clear e9 e1 e2 hin hi
     go_upto_region 22 with fail
     clear q0 f1 f2
     have q0 := HR.out.x.1
     have q1 := HR.out.y.1
     have w2 := HWR.out.1
     have w3 := HWR.out.2
     go_upto_region 23 with fail
     clear q0 q1 w2 w3
     have hm := MF.new wr (kj2 : Int) none 0 0
     have gm := gAl wr (.cells #[.int .i64 (kj2 : Int), .slice none 0 0] 26) none
     obtain ⟨V, hV⟩ : ∃ z, wr.alloc (.cells #[.int .i64 (kj2 : Int), .slice none 0 0] 26) = z := ⟨_, rfl⟩
     rw [hV] at hm gm ⊢
     obtain ⟨bm, hbm⟩ : ∃ z, wr.heap.size = z := ⟨_, rfl⟩
     rw [hbm] at hm ⊢
     have HBM := hid (show w.heap.size ≤ bm ∧ bm ≠ b1 ∧ bm ≠ b2 ∧ bm ≠ b4 ∧ bm ≠ br ∧ bm ≠ b3 from by have h1 := HR.out.m.ty.lt; have h2 := HBR.out; omega)
     have HRV := hid (HR.out.grown gm)
     have HMV := hid hm
     clear hV hbm hm gm
     go_wp2_with fail
     go_loopg [24] k1 (fun gk s24 wr => ∃ (qi : Nat) (am : Option Addr) (nm cm : Nat), s24 = .int .i64 (qi : Int) ∧ gk = k1 - qi ∧ qi ≤ k1 ∧ RJ w b0 b1 b2 b3 b4 br (k : Int) (j : Int) aa ba i ca nb cb k1 g t wr ∧ MF wr bm (kj2 : Int) am nm cm ∧ (ofTabL t (ranksTo qi)).length = nm ∧ CellsW wr am cm (ofTabL t (ranksTo qi)))
     case atStart => exact ⟨0, none, 0, 0, rfl, rfl, Nat.zero_le _, HRV.out, HMV.out, rfl, ⟨Nat.le_refl _, .inl rfl⟩⟩
     case round =>
      clear HR HRV HMV HU
      obtain ⟨q, am, nm, cm, rfl, hgq, hq, hrj, hmf, hlm, hcm⟩ := hrel
      have HI := hid hgq
      have HR := hid hrj
      have HMM := hid (And.intro hmf (And.intro hlm hcm))
      clear hgq hrj hmf hlm hcm
      by_cases hqn : q < k1
      ·
       have f1 : decide (q < k1) = true := decide_eq_true hqn
       have f2 : decide ((q : Int) < (k1 : Int)) = true := decide_eq_true (by omega)
       have hv0 : (0 : Int) ≤ (q : Int) := by omega
       have hv1 : (q : Int) < (k1 : Int) := by omega
       have w3 : IntKind.i64.wrap ((q : Int) + 1) = ((q + 1 : Nat) : Int) := by rw [IntWalk.i64_in _ (by have := HT.out; omega)]; omega
       obtain ⟨l, hl⟩ : ∃ z, ofTabL t (ranksTo q) = z := ⟨_, rfl⟩
       have hsu := ofTabL_succ t q
       have hln := ofTabL_len t q
       rw [hl] at hsu hln HMM
       obtain ⟨r, hr⟩ : ∃ z, t (q : Int) = z := ⟨_, rfl⟩
       rw [hr] at hsu
       have HSU := hid hsu
       have HLN := hid (show l.length ≤ 256 from by have := HT.out; omega)
       have HTR := hid hr
       have HTQ := hid (show wr.cell? ⟨br, q, none⟩ = some (.int .i64 r) from by rw [← hr]; exact HR.out.m.cells q hqn)
       clear hl hsu hln hr
       go_upto_region 26 with fail
       clear f1 f2
       have HS := hid (fun (Wh : World) (hWh : Wh.cell? ⟨br, q, none⟩ = some (.int .i64 r)) => (hWh : (fun Wh : World => Wh.cell? ⟨br, q, none⟩ = some (.int .i64 r)) Wh))
       have hdr : wr.grownBy wr.drew none := ⟨rfl, rfl, rfl, Nat.le_refl _, fun _ _ _ => rfl⟩
       refine wp_region_held_drew (S := (fun Wh : World => Wh.cell? ⟨br, q, none⟩ = some (.int .i64 r))) (by kernel_rfl) (HS.out _ (World.grownBy.cell hdr HTQ.out (by simp))) (fun hH => ?_)
       refine wpAnyH_take (i := 1) (oi := { dst := some 132, op := Op.move (Operand.tmp 24), type := 3, pos := "ref.go:162", after := #[], guard := none }) (v := ?_) rfl (by kernel_rfl) (by kernel_rfl) (by kernel_rfl) (fun _ _ _ h => h) (Or.inl ⟨by rfl, ?_⟩) (by assumption) ?_
       rotate_left 1
       · (intro W h; (try dsimp only at h); go_simp <;> with_reducible rfl)
       try simp only [Act.put, sA, sB, sC]
       refine wpAnyH_take (i := 2) (oi := { dst := some 133, op := Op.move (Operand.tmp 12), type := 31, pos := "ref.go:162", after := #[], guard := none }) (v := ?_) rfl (by kernel_rfl) (by kernel_rfl) (by kernel_rfl) (fun _ _ _ h => h) (Or.inl ⟨by rfl, ?_⟩) (by assumption) ?_
       rotate_left 1
       · (intro W h; (try dsimp only at h); go_simp <;> with_reducible rfl)
       try simp only [Act.put, sA, sB, sC]
       refine wpAnyH_take (i := 3) (oi := { dst := some 134, op := Op.move (Operand.tmp 24), type := 3, pos := "ref.go:162", after := #[], guard := none }) (v := ?_) rfl (by kernel_rfl) (by kernel_rfl) (by kernel_rfl) (fun _ _ _ h => h) (Or.inl ⟨by rfl, ?_⟩) (by assumption) ?_
       rotate_left 1
       · (intro W h; (try dsimp only at h); go_simp <;> with_reducible rfl)
       try simp only [Act.put, sA, sB, sC]
       refine wpAnyH_take (i := 4) (oi := { dst := some 135, op := Op.indexAddr 31 (Operand.tmp 133) (Operand.tmp 134), type := 0, pos := "ref.go:162", after := #[{ on := 2, ground := Ground.data }, { on := 3, ground := Ground.data }], guard := none }) (v := ?_) rfl (by kernel_rfl) (by kernel_rfl) (by kernel_rfl) (fun _ _ _ h => h) (Or.inl ⟨by rfl, ?_⟩) (by assumption) ?_
       rotate_left 1
       · (intro W h; (try dsimp only at h); go_simp <;> with_reducible rfl)
       try simp only [Act.put, sA, sB, sC]
       refine wpAnyH_take (i := 5) (oi := { dst := some 136, op := Op.load 3 (Operand.tmp 135), type := 3, pos := "ref.go:162", after := #[{ on := 4, ground := Ground.data }], guard := none }) (v := ?_) rfl (by kernel_rfl) (by kernel_rfl) (by kernel_rfl) (fun _ _ _ h => h) (Or.inl ⟨by rfl, ?_⟩) (by assumption) ?_
       rotate_left 1
       · (intro W h; (try dsimp only at h); go_simp <;> with_reducible rfl)
       try simp only [Act.put, sA, sB, sC]
       refine wpAnyH_ready (rs := [0]) (by kernel_rfl) (by simp) ?_
       refine (AllReadyH.cons (o := { dst := some 131, op := Op.load 26 (Operand.tmp 23), type := 26, pos := "ref.go:162", after := #[], guard := none }) rfl (fun K hK => ?_) AllReadyH.nil)
       rw [if_pos (by rfl)]
       have p0 := (HMM.out.1.grown hdr).1
       have p1 := (HMM.out.1.grown hdr).2.1
       go_simp
       clear p0 p1
       refine hK.out _ _ (HS.out _ (World.grownBy.cell hdr HTQ.out (by simp))) (fun hH => ?_)
       clear hK K
       try simp only [Act.put, sA, sB, sC]
       refine wpAnyH_ready (rs := [6]) (by kernel_rfl) (by simp) ?_
       refine (AllReadyH.cons (o := { dst := some 137, op := Op.call { callee := Callee.value (Operand.func 80), args := #[Operand.tmp 131, Operand.tmp 132, Operand.tmp 136], argTypes := #[26, 3, 3] }, type := 26, pos := "ref.go:162", after := #[{ on := 0, ground := Ground.data }, { on := 1, ground := Ground.data }, { on := 5, ground := Ground.data }], guard := none }) rfl (fun K hK => ?_) AllReadyH.nil)
       rw [if_pos (by rfl)]
       go_simp
       go_at_call 80
       refine (with_calls l (kj2 : Int) (q : Int) r am nm cm _ (HMM.out.2.2.grown hdr) HMM.out.2.1 (by have := HMM.out.2.1; have := HLN.out; omega)).mono ?_
       rintro e wc2 ⟨aN, nN, cN, rfl, hlN, hcN, gc2⟩
       have hgr2 := gT hdr gc2
       go_wp2_with fail
       refine hK.out _ _ (HS.out _ (World.grownBy.cell hgr2 HTQ.out (by simp))) (fun hH => ?_)
       clear hK K
       try simp only [Act.put, sA, sB, sC]
       refine wpAnyH_ready (rs := [7]) (by kernel_rfl) (by simp) ?_
       refine (AllReadyH.cons (o := { dst := none, op := Op.store 26 (Operand.tmp 23) (Operand.tmp 137), type := 0, pos := "ref.go:162", after := #[{ on := 6, ground := Ground.data }, { on := 6, ground := Ground.chain }, { on := 0, ground := Ground.phase }, { on := 1, ground := Ground.phase }, { on := 2, ground := Ground.phase }, { on := 3, ground := Ground.phase }, { on := 4, ground := Ground.phase }, { on := 5, ground := Ground.phase }, { on := 6, ground := Ground.phase }], guard := none }) rfl (fun K hK => ?_) AllReadyH.nil)
       rw [if_pos (by rfl)]
       have hr3 := HR.out.grown hgr2
       have hm2 := HMM.out.1.grown hgr2
       have p0 := hm2.1
       have p1 := hm2.2.1
       have p2 := hm2.2.2.1
       have p3 := hm2.2.2.2
       go_simp
       clear p0 p1 p2 p3
       have hr4 := hr3.laid hm2 (by have := HBM.out; omega) (.int .i64 (kj2 : Int)) (.slice aN nN cN)
       have hn2 := hm2.put (kj2 : Int) aN nN cN
       have hnc := hm2.cells (.int .i64 (kj2 : Int)) (.slice aN nN cN) hcN
       unfold laidX at hr4 hn2 hnc
       obtain ⟨WS, hWS⟩ : ∃ z, (wc2.setCell ⟨bm, 0, none⟩ (.int .i64 (kj2 : Int))).setCell ⟨bm, 1, none⟩ (.slice aN nN cN) = z := ⟨_, rfl⟩
       rw [hWS] at hr4 hn2 hnc ⊢
       clear hWS
       have htq : WS.cell? ⟨br, q, none⟩ = some (.int .i64 r) := by rw [← HTR.out]; exact hr4.m.cells q hqn
       refine hK.out _ _ (HS.out _ htq) (fun hH => ?_)
       clear hK K
       try simp only [Act.put, sA, sB, sC]
       refine wpAnyH_done (by kernel_rfl) ?_ _
       have hEND := hr4
       clear hH
       have HNN := hid (And.intro hr4 (And.intro hn2 (And.intro hlN hnc)))
       clear hr4 hn2 hlN hnc htq hEND hm2 hr3 hcN HS
       go_wp2_with fail
       go_roundg (k1 - (q + 1))
       case measure => rw [HI.out]; omega
       case rel => exact ⟨q + 1, aN, nN, cN, rfl, rfl, by omega, HNN.out.1, HNN.out.2.1, by rw [HSU.out]; exact HNN.out.2.2.1, by rw [HSU.out]; exact HNN.out.2.2.2⟩
      ·
       have f1 : decide (q < k1) = false := decide_eq_false hqn
       have f2 : decide ((q : Int) < (k1 : Int)) = false := decide_eq_false (by omega)
       obtain rfl : q = k1 := by omega
       obtain ⟨ac, cc, hcf, hgr⟩ := HR.out.c
       have HCF := hid (And.intro hcf hgr)
       clear hqn hq hcf hgr
       go_upto_region 27 with fail
       clear f1 f2
       have HS := hid (fun (Wh : World) (hWh : (CF Wh b0 ac g.length cc ∧ MF Wh bm (kj2 : Int) am nm cm)) => (⟨hWh.1.1, hWh.2.1, hWh.2.2.1⟩ : (fun Wh : World => Wh.cell? ⟨b0, 0, none⟩ = some (.slice ac g.length cc) ∧ Wh.cell? ⟨bm, 0, none⟩ = some (.int .i64 (kj2 : Int)) ∧ Wh.cell? ⟨bm, 1, none⟩ = some (.slice am nm cm)) Wh))
       have hdr : wr.grownBy wr.drew none := ⟨rfl, rfl, rfl, Nat.le_refl _, fun _ _ _ => rfl⟩
       refine wp_region_held_drew (S := (fun Wh : World => Wh.cell? ⟨b0, 0, none⟩ = some (.slice ac g.length cc) ∧ Wh.cell? ⟨bm, 0, none⟩ = some (.int .i64 (kj2 : Int)) ∧ Wh.cell? ⟨bm, 1, none⟩ = some (.slice am nm cm))) (by kernel_rfl) (HS.out _ ⟨HCF.out.1.grown hdr, HMM.out.1.grown hdr⟩) (fun hH => ?_)
       refine wpAnyH_take (i := 0) (oi := { dst := some 138, op := Op.load 30 (Operand.tmp 4), type := 30, pos := "ref.go:164", after := #[], guard := none }) (v := ?_) rfl (by kernel_rfl) (by kernel_rfl) (by kernel_rfl) (fun _ _ _ h => h) (Or.inl ⟨by rfl, ?_⟩) (by assumption) ?_
       rotate_left 1
       · (intro W h; (try dsimp only at h); go_simp <;> with_reducible rfl)
       try simp only [Act.put, sA, sB, sC]
       refine wpAnyH_take (i := 1) (oi := { dst := some 139, op := Op.load 26 (Operand.tmp 23), type := 26, pos := "ref.go:164", after := #[{ on := 2, ground := Ground.gcOnly Departure.lateStores }], guard := none }) (v := ?_) rfl (by kernel_rfl) (by kernel_rfl) (by kernel_rfl) (fun _ _ _ h => h) (Or.inl ⟨by rfl, ?_⟩) (by assumption) ?_
       rotate_left 1
       · (intro W h; (try dsimp only at h); go_simp <;> with_reducible rfl)
       try simp only [Act.put, sA, sB, sC]
       refine wpAnyH_ready (rs := [2]) (by kernel_rfl) (by simp) ?_
       refine (AllReadyH.cons (o := { dst := none, op := Op.store 30 (Operand.tmp 8) (Operand.tmp 138), type := 0, pos := "ref.go:164", after := #[{ on := 0, ground := Ground.data }, { on := 0, ground := Ground.phase }, { on := 1, ground := Ground.textOnly Departure.lateStores }], guard := none }) rfl (fun K hK => ?_) AllReadyH.nil)
       rw [if_pos (by rfl)]
       obtain ⟨wd, hwd⟩ : ∃ z, World.drew wr = z := ⟨_, rfl⟩
       rw [hwd] at hdr ⊢
       clear hwd
       have hr1 := HR.out.grown hdr
       have c1 := hr1.r.1
       have c2 := hr1.r.2
       go_simp
       clear c1 c2
       have hg1 := hr1.r.put ac g.length cc
       have hc1 := hr1.r.cf (.slice ac g.length cc) (HCF.out.1.grown hdr) (by have := HB.out; omega)
       have hm1 := hr1.r.mf (.slice ac g.length cc) (HMM.out.1.grown hdr)
       have hs1 := hr1.r.mf (.slice ac g.length cc) hr1.s
       have hgr1 := hr1.r.gates (.slice ac g.length cc) (HCF.out.2.grown hdr)
       have hcl1 := hr1.r.cells (.slice ac g.length cc) (HMM.out.2.2.grown hdr)
       have hgw1 := CF.grows hr1.gw (by have := HB.out; omega) (.slice ac g.length cc) (b := b3)
       obtain ⟨W6, hW6⟩ : ∃ z, wd.setCell ⟨b3, 0, none⟩ (.slice ac g.length cc) = z := ⟨_, rfl⟩
       rw [hW6] at hg1 hc1 hm1 hs1 hgr1 hcl1 hgw1 ⊢
       clear hW6 hr1
       refine hK.out _ _ (HS.out _ ⟨hc1, hm1⟩) (fun hH => ?_)
       clear hK K
       try simp only [Act.put, sA, sB, sC]
       refine wpAnyH_ready (rs := [3]) (by kernel_rfl) (by simp) ?_
       refine (AllReadyH.cons (o := { dst := none, op := Op.store 26 (Operand.tmp 9) (Operand.tmp 139), type := 0, pos := "ref.go:164", after := #[{ on := 1, ground := Ground.data }, { on := 2, ground := Ground.chain }, { on := 0, ground := Ground.phase }, { on := 1, ground := Ground.phase }, { on := 2, ground := Ground.phase }], guard := none }) rfl (fun K hK => ?_) AllReadyH.nil)
       rw [if_pos (by rfl)]
       have c1 := hs1.1
       have c2 := hs1.2.1
       have c3 := hs1.2.2.1
       have c4 := hs1.2.2.2
       go_simp
       clear c1 c2 c3 c4
       have hs2 := hs1.put (kj2 : Int) am nm cm
       have hc2 := hs1.cf (.int .i64 (kj2 : Int)) (.slice am nm cm) hc1
       have hg2 := hs1.cf (.int .i64 (kj2 : Int)) (.slice am nm cm) hg1
       have hm2 := hs1.mf (.int .i64 (kj2 : Int)) (.slice am nm cm) hm1 (by have := HBM.out; omega)
       have hgr2 := hs1.gates (.int .i64 (kj2 : Int)) (.slice am nm cm) hgr1
       have hcl2 := hs1.cells (.int .i64 (kj2 : Int)) (.slice am nm cm) hcl1
       have hgw2 := MF.grows hgw1 (by have := HB.out; omega) (.int .i64 (kj2 : Int)) (.slice am nm cm) (b := b4)
       unfold laidX at hs2 hc2 hg2 hm2 hgr2 hcl2 hgw2
       obtain ⟨W7, hW7⟩ : ∃ z, (W6.setCell ⟨b4, 0, none⟩ (.int .i64 (kj2 : Int))).setCell ⟨b4, 1, none⟩ (.slice am nm cm) = z := ⟨_, rfl⟩
       rw [hW7] at hs2 hc2 hg2 hm2 hgr2 hcl2 hgw2 ⊢
       clear hW7
       refine hK.out _ _ (HS.out _ ⟨hc2, hm2⟩) (fun hH => ?_)
       clear hK K
       try simp only [Act.put, sA, sB, sC]
       refine wpAnyH_done (by kernel_rfl) ?_ _
       have hEND := hgw2
       clear hH
       go_wp2_with fail
       refine bodyPost_ret (resS41 _ _ b3 b4 _ _ _ _ _ rfl rfl hg2.1 hs2.1 hs2.2.1) rfl ?_
       rw [← HEQ.out.1, ← HEQ.out.2, ← HAR.out]
       exact ⟨ac, cc, am, nm, cm, rfl, HMM.out.2.1, hgr2, hcl2, hgw2⟩
end Go.Proofs.Ythdhmflodiincaa

/- Texts of the proof: P10. -/
import Derived.Test.YthdhmflodiincaaCD20
import Derived.Test.YthdhmflodiincaaCD23
import Derived.Test.YthdhmflodiincaaCD24
import Derived.Test.YthdhmflodiincaaCD25
import Derived.Deep.DeepCutAuto
set_option maxRecDepth 100000
set_option maxHeartbeats 8000000
namespace Go.Proofs.Ythdhmflodiincaa
open Go.RowKit Go.Maps

theorem value0_at {g : List Gt} {m : List Cl} {na : Nat} {xa ma : Option Addr} {xc mc : Nat} {w : World} (ar : Int) (hna : m.length = na) (hG : Good g) (hl : g.length ≤ 1000) (hok : ∀ c ∈ m, Ok g c.2) (hn : na ≤ 1000) (h : GatesW w xa xc g) (hm : CellsW w ma mc m) :
    Calls Try.prog 34 #[.agg #[.slice xa g.length xc], .agg #[.int .i64 ar, .slice ma na mc], .slice none 0 0] w fun e w' => ∃ b nv d, e = .returned (.agg #[.int .i64 ar, .slice b nv d]) ∧ (valL g [] m).length = nv ∧ IntsW w' b d (valL g [] m) ∧ w.grownBy w' none := by
  subst hna
  have h1 := mvalue_calls g m [] ar xa xc ma mc none 0 w h hm ⟨Nat.le_refl _, .inl rfl⟩ hl hn (by simp) (good_bounds hG (by omega)) (fun x hx => by have := hok x hx; unfold Ok at this; omega)
  rw [valE_valL hok] at h1
  refine h1.mono fun e w' he => ?_
  obtain ⟨b, d, rfl, hi, hg⟩ := he
  exact ⟨b, _, d, rfl, rfl, hi.weak, hg⟩
theorem const_sq {n : Nat} {g : List Gt} {A : List Cl} {v : List Bool} (hA : Sq n g A) : Sq n hN ((valL g v A).map fun z => (z, 0)) := by
  have hp := val_pairs hA v
  have hu := val_up (g := g) hA.1.1 v
  refine ⟨⟨?_, fun c hc => ?_⟩, fun c hc => ?_⟩
  · unfold UpM
    rw [List.map_map]
    have e : ((fun c : Cl => c.1) ∘ fun z : Int => ((z, 0) : Cl)) = id := rfl
    rw [e, List.map_id]
    exact hu
  · obtain ⟨z, _, rfl⟩ := List.mem_map.1 hc
    exact ⟨show Ok hN 0 by unfold Ok hN; decide, show (0 : Int) ≠ 1 by decide⟩
  · obtain ⟨z, hz, rfl⟩ := List.mem_map.1 hc
    obtain ⟨u, v, hu, hv, rfl⟩ := hp z hz
    have h := rank_lt hu hv
    have e : ((u * n + v : Nat) : Int) = (u : Int) * n + v := by rw [Int.natCast_add, Int.natCast_mul]
    show 0 ≤ ((u * n + v : Nat) : Int) ∧ ((u * n + v : Nat) : Int) < _
    rw [e]
    exact h
theorem const_c0 {l : List Int} : C0 (l.map fun z => (z, 0)) := fun c hc => by
  obtain ⟨z, _, rfl⟩ := List.mem_map.1 hc
  rfl
theorem valid15_at {g : List Gt} {n : Nat} {m : List Cl} {na : Nat} {xa ma : Option Addr} {xc mc : Nat} {w : World} (hs : Sq n g m) (hna : m.length = na) (hl : g.length ≤ 1000) (hn : na ≤ 1000) (hm : CellsW w ma mc m) :
    Calls Try.prog 16 #[.agg #[.slice xa g.length xc], .agg #[.int .i64 2, .slice ma na mc]] w fun e w' => e = .returned (.bool true) ∧ w.grownBy w' none := by
  subst hna
  have h1 := mvalid_calls g m 2 xa xc ma mc w hm hl hn
  rw [validM_of hs.1 (fun c hc => (hs.2 c hc).1) (by decide) (by decide)] at h1
  exact h1
theorem smP_len {n : Nat} {gs : List Gt} {a : List Cl} : (smP n gs a).1.length = min (stQ n gs a (sqR n)).1.length (stS n gs a (n - 1)).1.length := by
  unfold smP
  split
  · rename_i h
    exact (Nat.min_eq_right (by omega)).symm
  · exact (Nat.min_eq_left (by omega)).symm
theorem stQ_okL {n : Nat} {gs : List Gt} {a : List Cl} (hG : Good gs) (ha : Sq n gs a) (hn : n ≤ 4) (hl : gs.length ≤ 1000) : Good (stQ n gs a (sqR n)).1 ∧ gs <+: (stQ n gs a (sqR n)).1 ∧ (stQ n gs a (sqR n)).1.length ≤ gs.length + roundC n * 2 ∧ Sq n (stQ n gs a (sqR n)).1 (stQ n gs a (sqR n)).2 ∧ True := by
  obtain ⟨q1, q2, q3, q4, q5⟩ := stQ_ok hG ha hn hl (sqR n) (Nat.le_trans (sqR_le n) (by decide))
  exact ⟨q1, q2, Nat.le_trans q3 (Nat.add_le_add_left (Nat.mul_le_mul_left _ (sqR_le n)) _), q4, trivial⟩
theorem stS_okL {n : Nat} {gs : List Gt} {a : List Cl} (hG : Good gs) (ha : Sq n gs a) (hn : n ≤ 4) (hl : gs.length ≤ 1000) : Good (stS n gs a (n - 1)).1 ∧ gs <+: (stS n gs a (n - 1)).1 ∧ (stS n gs a (n - 1)).1.length ≤ gs.length + roundC n * 3 ∧ Sq n (stS n gs a (n - 1)).1 (stS n gs a (n - 1)).2 ∧ True := by
  obtain ⟨q1, q2, q3, q4, q5⟩ := stS_ok hG ha hn hl (n - 1) (by omega)
  exact ⟨q1, q2, Nat.le_trans q3 (Nat.add_le_add_left (Nat.mul_le_mul_left _ (by omega)) _), q4, trivial⟩
theorem extends15_calls (s : Nat) (l : List Stp) (X : List Nat) (nl nx : Nat) (sa xa : Option Addr) (sc xc : Nat) (w : World) (hs : s < 256) (hnl : l.length = nl) (hnx : X.length = nx)
    (hl : StpsW w sa sc l) (ho : ∀ s ∈ l, StpOk s) (hx : U8W w xa xc X) (hxb : ∀ z ∈ X, z < 256) (hxm : (X.length : Int) ≤ 9223372036854775807) :
    Calls Try.prog 10 #[.int .u8 (s : Int), .slice sa nl sc, .slice xa nx xc] w fun e w' => e = .returned (.bool true) ∧ w.grownBy w' none := by
  have HG := Lib.hid (grown_refl w none)
  obtain ⟨n, hn⟩ : ∃ z, s % 4 + 1 = z := ⟨_, rfl⟩
  have HNK := Lib.hid (show 1 ≤ n ∧ n ≤ 4 ∧ s < 256 ∧ s % 4 + 1 = n from by omega)
  clear hn
  have HL := Lib.hid hl
  have HX := Lib.hid hx
  have HSO := Lib.hid ho
  have HXB := Lib.hid (And.intro hxb hxm)
  have HLN := Lib.hid (And.intro hnl hnx)
  clear hl hx ho hxb hxm hnl hnx hs
  go_enter Try.func10, Try.ntmps10
  go_wp2_with fail
  refine (head15_calls _).mono ?_
  rintro e V1 ⟨rfl, g⟩
  replace HL := Lib.hid (HL.out.grown g)
  replace HX := Lib.hid (HX.out.grown g)
  replace HG := Lib.hid (World.grownBy.trans HG.out g)
  clear g
  by_cases hbig : 20 < nl
  · have f1 : decide (20 < nl) = true := decide_eq_true hbig
    have f2 : decide ((20 : Int) < (nl : Int)) = true := decide_eq_true (by omega)
    go_wp2_with fail
    go_ret
    exact ⟨rfl, HG.out⟩
  · have f1 : decide (20 < nl) = false := decide_eq_false hbig
    have f2 : decide ((20 : Int) < (nl : Int)) = false := decide_eq_false (by omega)
    obtain ⟨qb, hqb⟩ : ∃ z, buildC l = z := ⟨_, rfl⟩
    obtain ⟨g, refs⟩ := qb
    have hbu := built l (by rw [HLN.out.1]; omega)
    rw [hqb] at hbu
    have HBU := Lib.hid (show Good g ∧ g.length ≤ 61 ∧ refs.length ≤ 20 ∧ ∀ r ∈ refs, Ok g r from ⟨hbu.good, by have h1 := hbu.len; have h2 := HLN.out.1; simp only at h1; omega, by have h1 := hbu.refs; have h2 := HLN.out.1; simp only at h1; omega, hbu.ok⟩)
    obtain ⟨t, ht⟩ : ∃ z, min (n ^ 2) nx = z := ⟨_, rfl⟩
    have hT : t ≤ n ^ 2 := by rw [← ht]; exact Nat.min_le_left _ _
    have hM := made_mat HBU.out.1.pos HBU.out.2.2.2 X t
    have hR := (madeC_all refs X t).2
    obtain ⟨A, hA⟩ : ∃ z, madeC refs X t = z := ⟨_, rfl⟩
    rw [hA] at hM hR
    have HMA := Lib.hid (show Sq n g A from ⟨hM, fun c hc => ⟨(hR c hc).1, by have h1 := (hR c hc).2.1; have h3 : (t : Int) ≤ ((n ^ 2 : Nat) : Int) := Int.ofNat_le.2 hT; rw [Nat.pow_two, Int.natCast_mul] at h3; exact Int.lt_of_lt_of_le h1 h3⟩⟩)
    have HBC := Lib.hid (fun (U : World) (hU : w.grownBy U none) (h1 : StpsW U sa sc l) (h2 : U8W U xa xc X) => made15_calls s n l X g refs A nl nx g.length sa xa sc xc U HNK.out.2.2.1 HNK.out.2.2.2 HLN.out.1 HLN.out.2 rfl (by omega) h1 HSO.out h2 HXB.out.1 (by have := HXB.out.2; omega) hqb (by rw [ht]; exact hA))
    have hrc := roundC_le HNK.out.2.1
    have HRC := Lib.hid (show g.length + roundC n * 2 ≤ 440 from by have := HBU.out.2.1; omega)
    clear hqb hbu hbig hM hR hT ht hA hrc
    go_wp2_with fail
    clear f1 f2
    refine (HBC.out _ HG.out HL.out HX.out).mono ?_
    rintro e V2 ⟨a0, c0, aA, mA, cA, rfl, hlA, hr, hm, g1⟩
    clear HBC HL HX
    replace HG := Lib.hid (World.grownBy.trans HG.out g1)
    clear g1
    go_upto_region 5 with fail
    have h1 := CB.new hr
    have gw := World.grownBy_alloc V2 (.cells #[.slice a0 g.length c0] 30) none
    obtain ⟨V3, hU⟩ : ∃ z, World.alloc V2 (.cells #[.slice a0 g.length c0] 30) = z := ⟨_, rfl⟩
    have hsU : V3.heap.size = V2.heap.size + 1 := by rw [← hU]; simp
    rw [hU] at gw h1 ⊢
    clear hU
    obtain ⟨bc, hbb⟩ : ∃ b, V2.heap.size = b := ⟨_, rfl⟩
    rw [hbb] at h1 hsU ⊢
    clear hbb
    replace hm := hm.grown gw
    replace HG := Lib.hid (World.grownBy.trans HG.out gw)
    clear gw
    have hb := XB.new (2 : Int) hm hlA
    have gw := World.grownBy_alloc V3 (.cells #[.int .i64 2, .slice aA mA cA] 26) none
    obtain ⟨V4, hU⟩ : ∃ z, World.alloc V3 (.cells #[.int .i64 2, .slice aA mA cA] 26) = z := ⟨_, rfl⟩
    rw [hU] at gw hb ⊢
    clear hU
    rw [hsU] at hb
    clear hsU
    obtain ⟨ba, hbb⟩ : ∃ b, bc + 1 = b := ⟨_, rfl⟩
    rw [hbb] at hb ⊢
    clear hbb
    replace h1 := h1.grown gw
    replace HG := Lib.hid (World.grownBy.trans HG.out gw)
    clear gw
    have Hc := Lib.hid h1
    clear h1
    have Ha := Lib.hid hb
    clear hb
    clear hr hm hlA
    have om := smP_len (n := n) (gs := g) (a := A)
    obtain ⟨gq, mq, hgq⟩ : ∃ x y, stQ n g A (sqR n) = (x, y) := ⟨_, _, rfl⟩
    have o := stQ_okL HBU.out.1 HMA.out HNK.out.2.1 (by have := HBU.out; omega)
    rw [hgq] at o om
    have hc := squaring_calls V4 n g A a0 aA c0 cA g.length mA rfl Ha.out.2.2.1 Hc.out.2.2 Ha.out.2.2.2 HBU.out.1 HMA.out HNK.out.1 HNK.out.2.1 HRC.out
    rw [hgq] at hc
    simp only at hc
    have HUgq := Lib.hid (show Good gq ∧ gq.length ≤ 900 ∧ Sq n gq mq ∧ mq.length ≤ 16 ∧ g <+: gq from ⟨o.1, by have h1 := o.2.2.1; have h2 := HRC.out; simp only at h1; omega, o.2.2.2.1, by have h1 := o.2.2.2.1.len; have : n * n ≤ 4 * 4 := Nat.mul_le_mul HNK.out.2.1 HNK.out.2.1; simp only at h1; omega, o.2.1⟩)
    have HCgq := Lib.hid hc
    have HO := Lib.hid om
    clear o hc hgq om
    have qc := Hc.out.1
    have qa := Ha.out.1
    have ra := Ha.out.2.1
    go_wp2_with fail
    clear qc qa ra
    refine (HCgq.out).mono ?_
    rintro e V5 ⟨ad, cd, ae, ne, ce, rfl, hn, hr, hm, g1⟩
    replace Hc := Lib.hid (Hc.out.grown g1)
    replace Ha := Lib.hid (Ha.out.grown g1)
    replace HG := Lib.hid (World.grownBy.trans HG.out g1)
    clear g1
    have qc := Hc.out.1
    have qa := Ha.out.1
    have ra := Ha.out.2.1
    go_upto_region 6 with fail
    clear qc qa ra
    have h1 := CB.new hr
    have gw := World.grownBy_alloc V5 (.cells #[.slice ad gq.length cd] 30) none
    obtain ⟨V6, hU⟩ : ∃ z, World.alloc V5 (.cells #[.slice ad gq.length cd] 30) = z := ⟨_, rfl⟩
    have hsU : V6.heap.size = V5.heap.size + 1 := by rw [← hU]; simp
    rw [hU] at gw h1 ⊢
    clear hU
    obtain ⟨bd, hbb⟩ : ∃ b, V5.heap.size = b := ⟨_, rfl⟩
    rw [hbb] at h1 hsU ⊢
    clear hbb
    replace hm := hm.grown gw
    replace Hc := Lib.hid (Hc.out.grown gw)
    replace Ha := Lib.hid (Ha.out.grown gw)
    replace HG := Lib.hid (World.grownBy.trans HG.out gw)
    clear gw
    have hb := XB.new (2 : Int) hm hn
    have gw := World.grownBy_alloc V6 (.cells #[.int .i64 2, .slice ae ne ce] 26) none
    obtain ⟨V7, hU⟩ : ∃ z, World.alloc V6 (.cells #[.int .i64 2, .slice ae ne ce] 26) = z := ⟨_, rfl⟩
    rw [hU] at gw hb ⊢
    clear hU
    rw [hsU] at hb
    clear hsU
    obtain ⟨be, hbb⟩ : ∃ b, bd + 1 = b := ⟨_, rfl⟩
    rw [hbb] at hb ⊢
    clear hbb
    replace h1 := h1.grown gw
    replace Hc := Lib.hid (Hc.out.grown gw)
    replace Ha := Lib.hid (Ha.out.grown gw)
    replace HG := Lib.hid (World.grownBy.trans HG.out gw)
    clear gw
    have Hd := Lib.hid h1
    clear h1
    have He := Lib.hid hb
    clear hb
    clear hr hm hn
    clear HCgq
    have om := HO.out
    clear HO
    obtain ⟨gs, ms, hgs⟩ : ∃ x y, stS n g A (n - 1) = (x, y) := ⟨_, _, rfl⟩
    have o := stS_okL HBU.out.1 HMA.out HNK.out.2.1 (by have := HBU.out; omega)
    rw [hgs] at o om
    have hc := stepwise_calls V7 n g A a0 aA c0 cA g.length mA rfl Ha.out.2.2.1 Hc.out.2.2 Ha.out.2.2.2 HBU.out.1 HMA.out HNK.out.1 HNK.out.2.1 HRC.out
    rw [hgs] at hc
    simp only at hc
    have HUgs := Lib.hid (show Good gs ∧ gs.length ≤ 900 ∧ Sq n gs ms ∧ ms.length ≤ 16 ∧ g <+: gs from ⟨o.1, by have h1 := o.2.2.1; have h2 := HRC.out; simp only at h1; omega, o.2.2.2.1, by have h1 := o.2.2.2.1.len; have : n * n ≤ 4 * 4 := Nat.mul_le_mul HNK.out.2.1 HNK.out.2.1; simp only at h1; omega, o.2.1⟩)
    have HCgs := Lib.hid hc
    have HO := Lib.hid om
    clear o hc hgs om
    have qc := Hc.out.1
    have qa := Ha.out.1
    have ra := Ha.out.2.1
    have qd := Hd.out.1
    have qe := He.out.1
    have re := He.out.2.1
    go_wp2_with fail
    clear qc qa ra qd qe re
    refine (HCgs.out).mono ?_
    rintro e V8 ⟨af, cf, ah, nh, ch, rfl, hn, hr, hm, g1⟩
    replace Hc := Lib.hid (Hc.out.grown g1)
    replace Ha := Lib.hid (Ha.out.grown g1)
    replace Hd := Lib.hid (Hd.out.grown g1)
    replace He := Lib.hid (He.out.grown g1)
    replace HG := Lib.hid (World.grownBy.trans HG.out g1)
    clear g1
    have qc := Hc.out.1
    have qa := Ha.out.1
    have ra := Ha.out.2.1
    have qd := Hd.out.1
    have qe := He.out.1
    have re := He.out.2.1
    go_upto_region 7 with fail
    clear qc qa ra qd qe re
    have h1 := CB.new hr
    have gw := World.grownBy_alloc V8 (.cells #[.slice af gs.length cf] 30) none
    obtain ⟨V9, hU⟩ : ∃ z, World.alloc V8 (.cells #[.slice af gs.length cf] 30) = z := ⟨_, rfl⟩
    have hsU : V9.heap.size = V8.heap.size + 1 := by rw [← hU]; simp
    rw [hU] at gw h1 ⊢
    clear hU
    obtain ⟨bf, hbb⟩ : ∃ b, V8.heap.size = b := ⟨_, rfl⟩
    rw [hbb] at h1 hsU ⊢
    clear hbb
    replace hm := hm.grown gw
    replace Hc := Lib.hid (Hc.out.grown gw)
    replace Ha := Lib.hid (Ha.out.grown gw)
    replace Hd := Lib.hid (Hd.out.grown gw)
    replace He := Lib.hid (He.out.grown gw)
    replace HG := Lib.hid (World.grownBy.trans HG.out gw)
    clear gw
    have hb := XB.new (2 : Int) hm hn
    have gw := World.grownBy_alloc V9 (.cells #[.int .i64 2, .slice ah nh ch] 26) none
    obtain ⟨V10, hU⟩ : ∃ z, World.alloc V9 (.cells #[.int .i64 2, .slice ah nh ch] 26) = z := ⟨_, rfl⟩
    rw [hU] at gw hb ⊢
    clear hU
    rw [hsU] at hb
    clear hsU
    obtain ⟨bh, hbb⟩ : ∃ b, bf + 1 = b := ⟨_, rfl⟩
    rw [hbb] at hb ⊢
    clear hbb
    replace h1 := h1.grown gw
    replace Hc := Lib.hid (Hc.out.grown gw)
    replace Ha := Lib.hid (Ha.out.grown gw)
    replace Hd := Lib.hid (Hd.out.grown gw)
    replace He := Lib.hid (He.out.grown gw)
    replace HG := Lib.hid (World.grownBy.trans HG.out gw)
    clear gw
    have Hf := Lib.hid h1
    clear h1
    have Hh := Lib.hid hb
    clear hb
    clear hr hm hn
    clear HCgs
    have om := HO.out
    clear HO
    obtain ⟨gm, mm, hgm⟩ : ∃ x y, smP n g A = (x, y) := ⟨_, _, rfl⟩
    have o := smP_ok HBU.out.1 HMA.out HNK.out.1 HNK.out.2.1 (by have := HBU.out; omega)
    rw [hgm] at o om
    have hc := smaller_calls V10 n g A a0 aA c0 cA g.length mA rfl Ha.out.2.2.1 Hc.out.2.2 Ha.out.2.2.2 HBU.out.1 HMA.out HNK.out.1 HNK.out.2.1 HRC.out
    rw [hgm] at hc
    simp only at hc
    have HUgm := Lib.hid (show Good gm ∧ gm.length ≤ 900 ∧ Sq n gm mm ∧ mm.length ≤ 16 ∧ g <+: gm from ⟨o.1, by have h1 := o.2.2.1; have h2 := HRC.out; simp only at h1; omega, o.2.2.2.1, by have h1 := o.2.2.2.1.len; have : n * n ≤ 4 * 4 := Nat.mul_le_mul HNK.out.2.1 HNK.out.2.1; simp only at h1; omega, o.2.1⟩)
    have HCgm := Lib.hid hc
    have HO := Lib.hid om
    clear o hc hgm om
    have qc := Hc.out.1
    have qa := Ha.out.1
    have ra := Ha.out.2.1
    have qd := Hd.out.1
    have qe := He.out.1
    have re := He.out.2.1
    have qf := Hf.out.1
    have qh := Hh.out.1
    have rh := Hh.out.2.1
    go_wp2_with fail
    clear qc qa ra qd qe re qf qh rh
    refine (HCgm.out).mono ?_
    rintro e V11 ⟨ai, ci, aj, nj, cj, rfl, hn, hr, hm, g1⟩
    replace Hc := Lib.hid (Hc.out.grown g1)
    replace Ha := Lib.hid (Ha.out.grown g1)
    replace Hd := Lib.hid (Hd.out.grown g1)
    replace He := Lib.hid (He.out.grown g1)
    replace Hf := Lib.hid (Hf.out.grown g1)
    replace Hh := Lib.hid (Hh.out.grown g1)
    replace HG := Lib.hid (World.grownBy.trans HG.out g1)
    clear g1
    have qc := Hc.out.1
    have qa := Ha.out.1
    have ra := Ha.out.2.1
    have qd := Hd.out.1
    have qe := He.out.1
    have re := He.out.2.1
    have qf := Hf.out.1
    have qh := Hh.out.1
    have rh := Hh.out.2.1
    go_upto_region 8 with fail
    clear qc qa ra qd qe re qf qh rh
    have h1 := CB.new hr
    have gw := World.grownBy_alloc V11 (.cells #[.slice ai gm.length ci] 30) none
    obtain ⟨V12, hU⟩ : ∃ z, World.alloc V11 (.cells #[.slice ai gm.length ci] 30) = z := ⟨_, rfl⟩
    have hsU : V12.heap.size = V11.heap.size + 1 := by rw [← hU]; simp
    rw [hU] at gw h1 ⊢
    clear hU
    obtain ⟨bi, hbb⟩ : ∃ b, V11.heap.size = b := ⟨_, rfl⟩
    rw [hbb] at h1 hsU ⊢
    clear hbb
    replace hm := hm.grown gw
    replace Hc := Lib.hid (Hc.out.grown gw)
    replace Ha := Lib.hid (Ha.out.grown gw)
    replace Hd := Lib.hid (Hd.out.grown gw)
    replace He := Lib.hid (He.out.grown gw)
    replace Hf := Lib.hid (Hf.out.grown gw)
    replace Hh := Lib.hid (Hh.out.grown gw)
    replace HG := Lib.hid (World.grownBy.trans HG.out gw)
    clear gw
    have hb := XB.new (2 : Int) hm hn
    have gw := World.grownBy_alloc V12 (.cells #[.int .i64 2, .slice aj nj cj] 26) none
    obtain ⟨V13, hU⟩ : ∃ z, World.alloc V12 (.cells #[.int .i64 2, .slice aj nj cj] 26) = z := ⟨_, rfl⟩
    rw [hU] at gw hb ⊢
    clear hU
    rw [hsU] at hb
    clear hsU
    obtain ⟨bj, hbb⟩ : ∃ b, bi + 1 = b := ⟨_, rfl⟩
    rw [hbb] at hb ⊢
    clear hbb
    replace h1 := h1.grown gw
    replace Hc := Lib.hid (Hc.out.grown gw)
    replace Ha := Lib.hid (Ha.out.grown gw)
    replace Hd := Lib.hid (Hd.out.grown gw)
    replace He := Lib.hid (He.out.grown gw)
    replace Hf := Lib.hid (Hf.out.grown gw)
    replace Hh := Lib.hid (Hh.out.grown gw)
    replace HG := Lib.hid (World.grownBy.trans HG.out gw)
    clear gw
    have Hi := Lib.hid h1
    clear h1
    have Hj := Lib.hid hb
    clear hb
    clear hr hm hn
    clear HCgm
    have om := HO.out
    clear HO
    have HO := Lib.hid om
    clear om
    have hsm := fun (U : World) (hU : World.grownBy V13 U none) => same_at (decide_eq_true (List.prefix_iff_eq_take.1 HUgm.out.2.2.2.2)) (by have := HBU.out; omega) (by rw [List.length_take]; have := HUgm.out; omega) (Hc.out.grown hU).2.2 ((Hi.out.grown hU).2.2.take g.length)
    have hgl := HUgm.out.2.2.2.2.length_le
    rw [List.length_take, Nat.min_eq_left hgl] at hsm
    have HSM := Lib.hid hsm
    clear hsm
    have hcap := Hi.out.2.2.1
    have hle1 := HUgq.out.2.1
    have hle2 := HUgs.out.2.1
    have hle3 := HUgm.out.2.1
    have hng := hgl
    have hmi := HO.out
    clear hgl
    have hcap2 : g.length ≤ ci := Nat.le_trans hng hcap
    have e1 : decide ((gm.length : Int) < (g.length : Int)) = false := decide_eq_false (by omega)
    have e2 : decide (gm.length < g.length) = false := decide_eq_false (by omega)
    have e5 : ¬ ((gm.length : Int) < (g.length : Int)) := by omega
    have e3 : min (gq.length : Int) (gs.length : Int) = (gm.length : Int) := by omega
    have e4 : (0 : Int) ≤ (g.length : Int) := by omega
    clear hmi
    have HS := Lib.hid (fun (Wh : World) (hWh : V13.grownBy Wh none) => (⟨hWh, hWh.cell Hc.out.1 (by simp), hWh.cell Hd.out.1 (by simp), hWh.cell Hf.out.1 (by simp), hWh.cell Hi.out.1 (by simp), hWh.cell He.out.1 (by simp), hWh.cell He.out.2.1 (by simp), hWh.cell Hh.out.1 (by simp), hWh.cell Hh.out.2.1 (by simp), hWh.cell Hj.out.1 (by simp), hWh.cell Hj.out.2.1 (by simp)⟩ : (fun Wh : World => V13.grownBy Wh none ∧ Wh.cell? ⟨bc, 0, none⟩ = some (.slice a0 g.length c0) ∧ Wh.cell? ⟨bd, 0, none⟩ = some (.slice ad gq.length cd) ∧ Wh.cell? ⟨bf, 0, none⟩ = some (.slice af gs.length cf) ∧ Wh.cell? ⟨bi, 0, none⟩ = some (.slice ai gm.length ci) ∧ Wh.cell? ⟨be, 0, none⟩ = some (.int .i64 2) ∧ Wh.cell? ⟨be, 1, none⟩ = some (.slice ae ne ce) ∧ Wh.cell? ⟨bh, 0, none⟩ = some (.int .i64 2) ∧ Wh.cell? ⟨bh, 1, none⟩ = some (.slice ah nh ch) ∧ Wh.cell? ⟨bj, 0, none⟩ = some (.int .i64 2) ∧ Wh.cell? ⟨bj, 1, none⟩ = some (.slice aj nj cj)) Wh))
    have hdr : V13.grownBy V13.drew none := ⟨rfl, rfl, rfl, Nat.le_refl _, fun _ _ _ => rfl⟩
    refine wp_region_held_drew (S := (fun Wh : World => V13.grownBy Wh none ∧ Wh.cell? ⟨bc, 0, none⟩ = some (.slice a0 g.length c0) ∧ Wh.cell? ⟨bd, 0, none⟩ = some (.slice ad gq.length cd) ∧ Wh.cell? ⟨bf, 0, none⟩ = some (.slice af gs.length cf) ∧ Wh.cell? ⟨bi, 0, none⟩ = some (.slice ai gm.length ci) ∧ Wh.cell? ⟨be, 0, none⟩ = some (.int .i64 2) ∧ Wh.cell? ⟨be, 1, none⟩ = some (.slice ae ne ce) ∧ Wh.cell? ⟨bh, 0, none⟩ = some (.int .i64 2) ∧ Wh.cell? ⟨bh, 1, none⟩ = some (.slice ah nh ch) ∧ Wh.cell? ⟨bj, 0, none⟩ = some (.int .i64 2) ∧ Wh.cell? ⟨bj, 1, none⟩ = some (.slice aj nj cj))) (by kernel_rfl) (HS.out _ hdr) (fun hHeld => ?_)
    refine wpAnyH_take (i := 0) (oi := { dst := some 56, op := Op.load 30 (Operand.tmp 11), type := 30, pos := "law.go:133", after := #[], guard := none }) (v := ?_) rfl (by kernel_rfl) (by kernel_rfl) (by kernel_rfl) (fun _ _ _ h => h) (Or.inl ⟨by rfl, ?_⟩) (by assumption) ?_
    rotate_left 1
    · (intro W h; (try dsimp only at h); go_simp <;> with_reducible rfl)
    try simp only [Act.put, sA, sB, sC]
    refine wpAnyH_take (i := 1) (oi := { dst := some 57, op := Op.load 26 (Operand.tmp 12), type := 26, pos := "law.go:133", after := #[], guard := none }) (v := ?_) rfl (by kernel_rfl) (by kernel_rfl) (by kernel_rfl) (fun _ _ _ h => h) (Or.inl ⟨by rfl, ?_⟩) (by assumption) ?_
    rotate_left 1
    · (intro W h; (try dsimp only at h); go_simp <;> with_reducible rfl)
    try simp only [Act.put, sA, sB, sC]
    refine wpAnyH_ready (rs := [2]) (by kernel_rfl) (by simp) ?_
    refine (AllReadyH.cons (o := { dst := some 58, op := Op.call { callee := Callee.value (Operand.func 16), args := #[Operand.tmp 56, Operand.tmp 57], argTypes := #[30, 26] }, type := 4, pos := "law.go:133", after := #[{ on := 0, ground := Ground.data }, { on := 1, ground := Ground.data }], guard := none }) rfl (fun K hK => ?_) AllReadyH.nil)
    rw [if_pos (by rfl)]
    go_simp
    go_at_call 16
    refine (valid15_at HUgq.out.2.2.1 He.out.2.2.1 (by have := HUgq.out; omega) (by have := HUgq.out; have := He.out.2.2.1; omega) (He.out.grown hdr).2.2.2).mono ?_
    rintro e wc1 ⟨rfl, gc1⟩
    have hgr1 := World.grownBy.trans hdr gc1
    go_wp2_with fail
    refine hK.out _ _ (HS.out _ hgr1) (fun hHeld => ?_)
    clear hK K
    try simp only [Act.put, sA, sB, sC]
    refine wpAnyH_take (i := 3) (oi := { dst := some 59, op := Op.unOp UnOp.not 4 (Operand.tmp 58), type := 4, pos := "law.go:133", after := #[{ on := 2, ground := Ground.data }], guard := none }) (v := ?_) rfl (by kernel_rfl) (by kernel_rfl) (by kernel_rfl) (fun _ _ _ h => h) (Or.inl ⟨by rfl, ?_⟩) (by assumption) ?_
    rotate_left 1
    · (intro W h; (try dsimp only at h); go_simp <;> with_reducible rfl)
    try simp only [Act.put, sA, sB, sC]
    refine wpAnyH_take (i := 4) (oi := { dst := some 60, op := Op.move (Operand.tmp 59), type := 4, pos := "law.go:133", after := #[{ on := 3, ground := Ground.data }, { on := 2, ground := Ground.chain }], guard := none }) (v := ?_) rfl (by kernel_rfl) (by kernel_rfl) (by kernel_rfl) (fun _ _ _ h => h) (Or.inl ⟨by rfl, ?_⟩) (by assumption) ?_
    rotate_left 1
    · (intro W h; (try dsimp only at h); go_simp <;> with_reducible rfl)
    try simp only [Act.put, sA, sB, sC]
    refine wpAnyH_take (i := 5) (oi := { dst := some 61, op := Op.load 30 (Operand.tmp 13), type := 30, pos := "law.go:133", after := #[{ on := 4, ground := Ground.guard }], guard := some (4, false) }) (v := ?_) rfl (by kernel_rfl) (by kernel_rfl) (by kernel_rfl) (fun _ _ _ h => h) (Or.inl ⟨by rfl, ?_⟩) (by assumption) ?_
    rotate_left 1
    · (intro W h; (try dsimp only at h); go_simp <;> with_reducible rfl)
    try simp only [Act.put, sA, sB, sC]
    refine wpAnyH_take (i := 6) (oi := { dst := some 62, op := Op.load 26 (Operand.tmp 14), type := 26, pos := "law.go:133", after := #[{ on := 4, ground := Ground.guard }], guard := some (4, false) }) (v := ?_) rfl (by kernel_rfl) (by kernel_rfl) (by kernel_rfl) (fun _ _ _ h => h) (Or.inl ⟨by rfl, ?_⟩) (by assumption) ?_
    rotate_left 1
    · (intro W h; (try dsimp only at h); go_simp <;> with_reducible rfl)
    try simp only [Act.put, sA, sB, sC]
    refine wpAnyH_ready (rs := [7]) (by kernel_rfl) (by simp) ?_
    refine (AllReadyH.cons (o := { dst := some 63, op := Op.call { callee := Callee.value (Operand.func 16), args := #[Operand.tmp 61, Operand.tmp 62], argTypes := #[30, 26] }, type := 4, pos := "law.go:133", after := #[{ on := 5, ground := Ground.data }, { on := 6, ground := Ground.data }, { on := 4, ground := Ground.chain }, { on := 4, ground := Ground.guard }], guard := some (4, false) }) rfl (fun K hK => ?_) AllReadyH.nil)
    rw [if_pos (by rfl)]
    go_simp
    go_at_call 16
    refine (valid15_at HUgs.out.2.2.1 Hh.out.2.2.1 (by have := HUgs.out; omega) (by have := HUgs.out; have := Hh.out.2.2.1; omega) (Hh.out.grown hgr1).2.2.2).mono ?_
    rintro e wc2 ⟨rfl, gc2⟩
    have hgr2 := World.grownBy.trans hgr1 gc2
    go_wp2_with fail
    refine hK.out _ _ (HS.out _ hgr2) (fun hHeld => ?_)
    clear hK K
    try simp only [Act.put, sA, sB, sC]
    refine wpAnyH_take (i := 8) (oi := { dst := some 64, op := Op.unOp UnOp.not 4 (Operand.tmp 63), type := 4, pos := "law.go:133", after := #[{ on := 7, ground := Ground.data }, { on := 4, ground := Ground.guard }], guard := some (4, false) }) (v := ?_) rfl (by kernel_rfl) (by kernel_rfl) (by kernel_rfl) (fun _ _ _ h => h) (Or.inl ⟨by rfl, ?_⟩) (by assumption) ?_
    rotate_left 1
    · (intro W h; (try dsimp only at h); go_simp <;> with_reducible rfl)
    try simp only [Act.put, sA, sB, sC]
    refine wpAnyH_take (i := 9) (oi := { dst := some 65, op := Op.pick (Operand.tmp 60) (Operand.const (Value.bool true)) (Operand.tmp 64), type := 4, pos := "law.go:133", after := #[{ on := 4, ground := Ground.data }, { on := 8, ground := Ground.data }], guard := none }) (v := ?_) rfl (by kernel_rfl) (by kernel_rfl) (by kernel_rfl) (fun _ _ _ h => h) (Or.inl ⟨by rfl, ?_⟩) (by assumption) ?_
    rotate_left 1
    · (intro W h; (try dsimp only at h); go_simp <;> with_reducible rfl)
    try simp only [Act.put, sA, sB, sC]
    refine wpAnyH_take (i := 10) (oi := { dst := some 66, op := Op.move (Operand.tmp 65), type := 4, pos := "law.go:133", after := #[{ on := 9, ground := Ground.data }, { on := 7, ground := Ground.chain }], guard := none }) (v := ?_) rfl (by kernel_rfl) (by kernel_rfl) (by kernel_rfl) (fun _ _ _ h => h) (Or.inl ⟨by rfl, ?_⟩) (by assumption) ?_
    rotate_left 1
    · (intro W h; (try dsimp only at h); go_simp <;> with_reducible rfl)
    try simp only [Act.put, sA, sB, sC]
    refine wpAnyH_take (i := 11) (oi := { dst := some 67, op := Op.load 30 (Operand.tmp 15), type := 30, pos := "law.go:133", after := #[{ on := 10, ground := Ground.guard }], guard := some (10, false) }) (v := ?_) rfl (by kernel_rfl) (by kernel_rfl) (by kernel_rfl) (fun _ _ _ h => h) (Or.inl ⟨by rfl, ?_⟩) (by assumption) ?_
    rotate_left 1
    · (intro W h; (try dsimp only at h); go_simp <;> with_reducible rfl)
    try simp only [Act.put, sA, sB, sC]
    refine wpAnyH_take (i := 12) (oi := { dst := some 68, op := Op.load 26 (Operand.tmp 16), type := 26, pos := "law.go:133", after := #[{ on := 10, ground := Ground.guard }], guard := some (10, false) }) (v := ?_) rfl (by kernel_rfl) (by kernel_rfl) (by kernel_rfl) (fun _ _ _ h => h) (Or.inl ⟨by rfl, ?_⟩) (by assumption) ?_
    rotate_left 1
    · (intro W h; (try dsimp only at h); go_simp <;> with_reducible rfl)
    try simp only [Act.put, sA, sB, sC]
    refine wpAnyH_ready (rs := [13]) (by kernel_rfl) (by simp) ?_
    refine (AllReadyH.cons (o := { dst := some 69, op := Op.call { callee := Callee.value (Operand.func 16), args := #[Operand.tmp 67, Operand.tmp 68], argTypes := #[30, 26] }, type := 4, pos := "law.go:133", after := #[{ on := 11, ground := Ground.data }, { on := 12, ground := Ground.data }, { on := 10, ground := Ground.chain }, { on := 10, ground := Ground.guard }], guard := some (10, false) }) rfl (fun K hK => ?_) AllReadyH.nil)
    rw [if_pos (by rfl)]
    go_simp
    go_at_call 16
    refine (valid15_at HUgm.out.2.2.1 Hj.out.2.2.1 (by have := HUgm.out; omega) (by have := HUgm.out; have := Hj.out.2.2.1; omega) (Hj.out.grown hgr2).2.2.2).mono ?_
    rintro e wc3 ⟨rfl, gc3⟩
    have hgr3 := World.grownBy.trans hgr2 gc3
    go_wp2_with fail
    refine hK.out _ _ (HS.out _ hgr3) (fun hHeld => ?_)
    clear hK K
    try simp only [Act.put, sA, sB, sC]
    refine wpAnyH_take (i := 14) (oi := { dst := some 70, op := Op.unOp UnOp.not 4 (Operand.tmp 69), type := 4, pos := "law.go:133", after := #[{ on := 13, ground := Ground.data }, { on := 10, ground := Ground.guard }], guard := some (10, false) }) (v := ?_) rfl (by kernel_rfl) (by kernel_rfl) (by kernel_rfl) (fun _ _ _ h => h) (Or.inl ⟨by rfl, ?_⟩) (by assumption) ?_
    rotate_left 1
    · (intro W h; (try dsimp only at h); go_simp <;> with_reducible rfl)
    try simp only [Act.put, sA, sB, sC]
    refine wpAnyH_take (i := 15) (oi := { dst := some 71, op := Op.pick (Operand.tmp 66) (Operand.const (Value.bool true)) (Operand.tmp 70), type := 4, pos := "law.go:133", after := #[{ on := 10, ground := Ground.data }, { on := 14, ground := Ground.data }], guard := none }) (v := ?_) rfl (by kernel_rfl) (by kernel_rfl) (by kernel_rfl) (fun _ _ _ h => h) (Or.inl ⟨by rfl, ?_⟩) (by assumption) ?_
    rotate_left 1
    · (intro W h; (try dsimp only at h); go_simp <;> with_reducible rfl)
    try simp only [Act.put, sA, sB, sC]
    refine wpAnyH_take (i := 16) (oi := { dst := some 72, op := Op.move (Operand.tmp 71), type := 4, pos := "law.go:133", after := #[{ on := 15, ground := Ground.data }, { on := 13, ground := Ground.chain }], guard := none }) (v := ?_) rfl (by kernel_rfl) (by kernel_rfl) (by kernel_rfl) (fun _ _ _ h => h) (Or.inl ⟨by rfl, ?_⟩) (by assumption) ?_
    rotate_left 1
    · (intro W h; (try dsimp only at h); go_simp <;> with_reducible rfl)
    try simp only [Act.put, sA, sB, sC]
    refine wpAnyH_take (i := 17) (oi := { dst := some 73, op := Op.fieldAddr 30 (Operand.tmp 15) 0, type := 0, pos := "law.go:133", after := #[{ on := 16, ground := Ground.guard }], guard := some (16, false) }) (v := ?_) rfl (by kernel_rfl) (by kernel_rfl) (by kernel_rfl) (fun _ _ _ h => h) (Or.inl ⟨by rfl, ?_⟩) (by assumption) ?_
    rotate_left 1
    · (intro W h; (try dsimp only at h); go_simp <;> with_reducible rfl)
    try simp only [Act.put, sA, sB, sC]
    refine wpAnyH_take (i := 18) (oi := { dst := some 74, op := Op.load 28 (Operand.tmp 73), type := 28, pos := "law.go:133", after := #[{ on := 17, ground := Ground.data }, { on := 16, ground := Ground.guard }], guard := some (16, false) }) (v := ?_) rfl (by kernel_rfl) (by kernel_rfl) (by kernel_rfl) (fun _ _ _ h => h) (Or.inl ⟨by rfl, ?_⟩) (by assumption) ?_
    rotate_left 1
    · (intro W h; (try dsimp only at h); go_simp <;> with_reducible rfl)
    try simp only [Act.put, sA, sB, sC]
    refine wpAnyH_take (i := 19) (oi := { dst := some 75, op := Op.call { callee := Callee.builtin Builtin.len, args := #[Operand.tmp 74], argTypes := #[28] }, type := 3, pos := "law.go:133", after := #[{ on := 18, ground := Ground.data }, { on := 16, ground := Ground.guard }], guard := some (16, false) }) (v := ?_) rfl (by kernel_rfl) (by kernel_rfl) (by kernel_rfl) (fun _ _ _ h => h) (Or.inl ⟨by rfl, ?_⟩) (by assumption) ?_
    rotate_left 1
    · (intro W h; (try dsimp only at h); go_simp <;> with_reducible rfl)
    try simp only [Act.put, sA, sB, sC]
    refine wpAnyH_take (i := 20) (oi := { dst := some 76, op := Op.fieldAddr 30 (Operand.tmp 11) 0, type := 0, pos := "law.go:133", after := #[{ on := 16, ground := Ground.guard }], guard := some (16, false) }) (v := ?_) rfl (by kernel_rfl) (by kernel_rfl) (by kernel_rfl) (fun _ _ _ h => h) (Or.inl ⟨by rfl, ?_⟩) (by assumption) ?_
    rotate_left 1
    · (intro W h; (try dsimp only at h); go_simp <;> with_reducible rfl)
    try simp only [Act.put, sA, sB, sC]
    refine wpAnyH_take (i := 21) (oi := { dst := some 77, op := Op.load 28 (Operand.tmp 76), type := 28, pos := "law.go:133", after := #[{ on := 20, ground := Ground.data }, { on := 16, ground := Ground.guard }], guard := some (16, false) }) (v := ?_) rfl (by kernel_rfl) (by kernel_rfl) (by kernel_rfl) (fun _ _ _ h => h) (Or.inl ⟨by rfl, ?_⟩) (by assumption) ?_
    rotate_left 1
    · (intro W h; (try dsimp only at h); go_simp <;> with_reducible rfl)
    try simp only [Act.put, sA, sB, sC]
    refine wpAnyH_take (i := 22) (oi := { dst := some 78, op := Op.call { callee := Callee.builtin Builtin.len, args := #[Operand.tmp 77], argTypes := #[28] }, type := 3, pos := "law.go:133", after := #[{ on := 21, ground := Ground.data }, { on := 16, ground := Ground.guard }], guard := some (16, false) }) (v := ?_) rfl (by kernel_rfl) (by kernel_rfl) (by kernel_rfl) (fun _ _ _ h => h) (Or.inl ⟨by rfl, ?_⟩) (by assumption) ?_
    rotate_left 1
    · (intro W h; (try dsimp only at h); go_simp <;> with_reducible rfl)
    try simp only [Act.put, sA, sB, sC]
    refine wpAnyH_take (i := 23) (oi := { dst := some 79, op := Op.fieldAddr 30 (Operand.tmp 13) 0, type := 0, pos := "law.go:133", after := #[{ on := 16, ground := Ground.guard }], guard := some (16, false) }) (v := ?_) rfl (by kernel_rfl) (by kernel_rfl) (by kernel_rfl) (fun _ _ _ h => h) (Or.inl ⟨by rfl, ?_⟩) (by assumption) ?_
    rotate_left 1
    · (intro W h; (try dsimp only at h); go_simp <;> with_reducible rfl)
    try simp only [Act.put, sA, sB, sC]
    refine wpAnyH_take (i := 24) (oi := { dst := some 80, op := Op.load 28 (Operand.tmp 79), type := 28, pos := "law.go:133", after := #[{ on := 23, ground := Ground.data }, { on := 16, ground := Ground.guard }], guard := some (16, false) }) (v := ?_) rfl (by kernel_rfl) (by kernel_rfl) (by kernel_rfl) (fun _ _ _ h => h) (Or.inl ⟨by rfl, ?_⟩) (by assumption) ?_
    rotate_left 1
    · (intro W h; (try dsimp only at h); go_simp <;> with_reducible rfl)
    try simp only [Act.put, sA, sB, sC]
    refine wpAnyH_take (i := 25) (oi := { dst := some 81, op := Op.call { callee := Callee.builtin Builtin.len, args := #[Operand.tmp 80], argTypes := #[28] }, type := 3, pos := "law.go:133", after := #[{ on := 24, ground := Ground.data }, { on := 16, ground := Ground.guard }], guard := some (16, false) }) (v := ?_) rfl (by kernel_rfl) (by kernel_rfl) (by kernel_rfl) (fun _ _ _ h => h) (Or.inl ⟨by rfl, ?_⟩) (by assumption) ?_
    rotate_left 1
    · (intro W h; (try dsimp only at h); go_simp <;> with_reducible rfl)
    try simp only [Act.put, sA, sB, sC]
    refine wpAnyH_take (i := 26) (oi := { dst := some 82, op := Op.call { callee := Callee.builtin Builtin.min, args := #[Operand.tmp 78, Operand.tmp 81], argTypes := #[3, 3] }, type := 3, pos := "law.go:133", after := #[{ on := 22, ground := Ground.data }, { on := 25, ground := Ground.data }, { on := 16, ground := Ground.guard }], guard := some (16, false) }) (v := ?_) rfl (by kernel_rfl) (by kernel_rfl) (by kernel_rfl) (fun _ _ _ h => h) (Or.inl ⟨by rfl, ?_⟩) (by assumption) ?_
    rotate_left 1
    · (intro W h; (try dsimp only at h); go_simp <;> with_reducible rfl)
    try simp only [Act.put, sA, sB, sC]
    refine wpAnyH_take (i := 27) (oi := { dst := some 83, op := Op.binOp BinOp.neq 3 (Operand.tmp 75) (Operand.tmp 82) 3, type := 4, pos := "law.go:133", after := #[{ on := 19, ground := Ground.data }, { on := 26, ground := Ground.data }, { on := 16, ground := Ground.guard }], guard := some (16, false) }) (v := ?_) rfl (by kernel_rfl) (by kernel_rfl) (by kernel_rfl) (fun _ _ _ h => h) (Or.inl ⟨by rfl, ?_⟩) (by assumption) ?_
    rotate_left 1
    · (intro W h; (try dsimp only at h); go_simp <;> with_reducible rfl)
    try simp only [Act.put, sA, sB, sC]
    refine wpAnyH_take (i := 28) (oi := { dst := some 84, op := Op.pick (Operand.tmp 72) (Operand.const (Value.bool true)) (Operand.tmp 83), type := 4, pos := "law.go:133", after := #[{ on := 16, ground := Ground.data }, { on := 27, ground := Ground.data }], guard := none }) (v := ?_) rfl (by kernel_rfl) (by kernel_rfl) (by kernel_rfl) (fun _ _ _ h => h) (Or.inl ⟨by rfl, ?_⟩) (by assumption) ?_
    rotate_left 1
    · (intro W h; (try dsimp only at h); go_simp <;> with_reducible rfl)
    try simp only [Act.put, sA, sB, sC]
    refine wpAnyH_take (i := 29) (oi := { dst := some 85, op := Op.move (Operand.tmp 84), type := 4, pos := "law.go:133", after := #[{ on := 28, ground := Ground.data }, { on := 16, ground := Ground.chain }], guard := none }) (v := ?_) rfl (by kernel_rfl) (by kernel_rfl) (by kernel_rfl) (fun _ _ _ h => h) (Or.inl ⟨by rfl, ?_⟩) (by assumption) ?_
    rotate_left 1
    · (intro W h; (try dsimp only at h); go_simp <;> with_reducible rfl)
    try simp only [Act.put, sA, sB, sC]
    refine wpAnyH_take (i := 30) (oi := { dst := some 86, op := Op.fieldAddr 30 (Operand.tmp 15) 0, type := 0, pos := "law.go:133", after := #[{ on := 29, ground := Ground.guard }], guard := some (29, false) }) (v := ?_) rfl (by kernel_rfl) (by kernel_rfl) (by kernel_rfl) (fun _ _ _ h => h) (Or.inl ⟨by rfl, ?_⟩) (by assumption) ?_
    rotate_left 1
    · (intro W h; (try dsimp only at h); go_simp <;> with_reducible rfl)
    try simp only [Act.put, sA, sB, sC]
    refine wpAnyH_take (i := 31) (oi := { dst := some 87, op := Op.load 28 (Operand.tmp 86), type := 28, pos := "law.go:133", after := #[{ on := 30, ground := Ground.data }, { on := 29, ground := Ground.guard }], guard := some (29, false) }) (v := ?_) rfl (by kernel_rfl) (by kernel_rfl) (by kernel_rfl) (fun _ _ _ h => h) (Or.inl ⟨by rfl, ?_⟩) (by assumption) ?_
    rotate_left 1
    · (intro W h; (try dsimp only at h); go_simp <;> with_reducible rfl)
    try simp only [Act.put, sA, sB, sC]
    refine wpAnyH_take (i := 32) (oi := { dst := some 88, op := Op.call { callee := Callee.builtin Builtin.len, args := #[Operand.tmp 87], argTypes := #[28] }, type := 3, pos := "law.go:133", after := #[{ on := 31, ground := Ground.data }, { on := 29, ground := Ground.guard }], guard := some (29, false) }) (v := ?_) rfl (by kernel_rfl) (by kernel_rfl) (by kernel_rfl) (fun _ _ _ h => h) (Or.inl ⟨by rfl, ?_⟩) (by assumption) ?_
    rotate_left 1
    · (intro W h; (try dsimp only at h); go_simp <;> with_reducible rfl)
    try simp only [Act.put, sA, sB, sC]
    refine wpAnyH_take (i := 33) (oi := { dst := some 89, op := Op.fieldAddr 30 (Operand.tmp 8) 0, type := 0, pos := "law.go:133", after := #[{ on := 29, ground := Ground.guard }], guard := some (29, false) }) (v := ?_) rfl (by kernel_rfl) (by kernel_rfl) (by kernel_rfl) (fun _ _ _ h => h) (Or.inl ⟨by rfl, ?_⟩) (by assumption) ?_
    rotate_left 1
    · (intro W h; (try dsimp only at h); go_simp <;> with_reducible rfl)
    try simp only [Act.put, sA, sB, sC]
    refine wpAnyH_take (i := 34) (oi := { dst := some 90, op := Op.load 28 (Operand.tmp 89), type := 28, pos := "law.go:133", after := #[{ on := 33, ground := Ground.data }, { on := 29, ground := Ground.guard }], guard := some (29, false) }) (v := ?_) rfl (by kernel_rfl) (by kernel_rfl) (by kernel_rfl) (fun _ _ _ h => h) (Or.inl ⟨by rfl, ?_⟩) (by assumption) ?_
    rotate_left 1
    · (intro W h; (try dsimp only at h); go_simp <;> with_reducible rfl)
    try simp only [Act.put, sA, sB, sC]
    refine wpAnyH_take (i := 35) (oi := { dst := some 91, op := Op.call { callee := Callee.builtin Builtin.len, args := #[Operand.tmp 90], argTypes := #[28] }, type := 3, pos := "law.go:133", after := #[{ on := 34, ground := Ground.data }, { on := 29, ground := Ground.guard }], guard := some (29, false) }) (v := ?_) rfl (by kernel_rfl) (by kernel_rfl) (by kernel_rfl) (fun _ _ _ h => h) (Or.inl ⟨by rfl, ?_⟩) (by assumption) ?_
    rotate_left 1
    · (intro W h; (try dsimp only at h); go_simp <;> with_reducible rfl)
    try simp only [Act.put, sA, sB, sC]
    refine wpAnyH_take (i := 36) (oi := { dst := some 92, op := Op.binOp BinOp.lss 3 (Operand.tmp 88) (Operand.tmp 91) 3, type := 4, pos := "law.go:133", after := #[{ on := 32, ground := Ground.data }, { on := 35, ground := Ground.data }, { on := 29, ground := Ground.guard }], guard := some (29, false) }) (v := ?_) rfl (by kernel_rfl) (by kernel_rfl) (by kernel_rfl) (fun _ _ _ h => h) (Or.inl ⟨by rfl, ?_⟩) (by assumption) ?_
    rotate_left 1
    · (intro W h; (try dsimp only at h); go_simp <;> with_reducible rfl)
    try simp only [Act.put, sA, sB, sC]
    refine wpAnyH_take (i := 37) (oi := { dst := some 93, op := Op.pick (Operand.tmp 85) (Operand.const (Value.bool true)) (Operand.tmp 92), type := 4, pos := "law.go:133", after := #[{ on := 29, ground := Ground.data }, { on := 36, ground := Ground.data }], guard := none }) (v := ?_) rfl (by kernel_rfl) (by kernel_rfl) (by kernel_rfl) (fun _ _ _ h => h) (Or.inl ⟨by rfl, ?_⟩) (by assumption) ?_
    rotate_left 1
    · (intro W h; (try dsimp only at h); go_simp <;> with_reducible rfl)
    try simp only [Act.put, sA, sB, sC]
    refine wpAnyH_take (i := 38) (oi := { dst := some 94, op := Op.move (Operand.tmp 93), type := 4, pos := "law.go:133", after := #[{ on := 37, ground := Ground.data }, { on := 29, ground := Ground.chain }], guard := none }) (v := ?_) rfl (by kernel_rfl) (by kernel_rfl) (by kernel_rfl) (fun _ _ _ h => h) (Or.inl ⟨by rfl, ?_⟩) (by assumption) ?_
    rotate_left 1
    · (intro W h; (try dsimp only at h); go_simp <;> with_reducible rfl)
    try simp only [Act.put, sA, sB, sC]
    refine wpAnyH_take (i := 39) (oi := { dst := some 95, op := Op.load 30 (Operand.tmp 8), type := 30, pos := "law.go:133", after := #[{ on := 38, ground := Ground.guard }], guard := some (38, false) }) (v := ?_) rfl (by kernel_rfl) (by kernel_rfl) (by kernel_rfl) (fun _ _ _ h => h) (Or.inl ⟨by rfl, ?_⟩) (by assumption) ?_
    rotate_left 1
    · (intro W h; (try dsimp only at h); go_simp <;> with_reducible rfl)
    try simp only [Act.put, sA, sB, sC]
    refine wpAnyH_take (i := 40) (oi := { dst := some 96, op := Op.fieldAddr 30 (Operand.tmp 15) 0, type := 0, pos := "law.go:133", after := #[{ on := 38, ground := Ground.guard }], guard := some (38, false) }) (v := ?_) rfl (by kernel_rfl) (by kernel_rfl) (by kernel_rfl) (fun _ _ _ h => h) (Or.inl ⟨by rfl, ?_⟩) (by assumption) ?_
    rotate_left 1
    · (intro W h; (try dsimp only at h); go_simp <;> with_reducible rfl)
    try simp only [Act.put, sA, sB, sC]
    refine wpAnyH_take (i := 41) (oi := { dst := some 97, op := Op.load 28 (Operand.tmp 96), type := 28, pos := "law.go:133", after := #[{ on := 40, ground := Ground.data }, { on := 38, ground := Ground.guard }], guard := some (38, false) }) (v := ?_) rfl (by kernel_rfl) (by kernel_rfl) (by kernel_rfl) (fun _ _ _ h => h) (Or.inl ⟨by rfl, ?_⟩) (by assumption) ?_
    rotate_left 1
    · (intro W h; (try dsimp only at h); go_simp <;> with_reducible rfl)
    try simp only [Act.put, sA, sB, sC]
    refine wpAnyH_take (i := 42) (oi := { dst := some 98, op := Op.fieldAddr 30 (Operand.tmp 8) 0, type := 0, pos := "law.go:133", after := #[{ on := 38, ground := Ground.guard }], guard := some (38, false) }) (v := ?_) rfl (by kernel_rfl) (by kernel_rfl) (by kernel_rfl) (fun _ _ _ h => h) (Or.inl ⟨by rfl, ?_⟩) (by assumption) ?_
    rotate_left 1
    · (intro W h; (try dsimp only at h); go_simp <;> with_reducible rfl)
    try simp only [Act.put, sA, sB, sC]
    refine wpAnyH_take (i := 43) (oi := { dst := some 99, op := Op.load 28 (Operand.tmp 98), type := 28, pos := "law.go:133", after := #[{ on := 42, ground := Ground.data }, { on := 38, ground := Ground.guard }], guard := some (38, false) }) (v := ?_) rfl (by kernel_rfl) (by kernel_rfl) (by kernel_rfl) (fun _ _ _ h => h) (Or.inl ⟨by rfl, ?_⟩) (by assumption) ?_
    rotate_left 1
    · (intro W h; (try dsimp only at h); go_simp <;> with_reducible rfl)
    try simp only [Act.put, sA, sB, sC]
    refine wpAnyH_take (i := 44) (oi := { dst := some 100, op := Op.call { callee := Callee.builtin Builtin.len, args := #[Operand.tmp 99], argTypes := #[28] }, type := 3, pos := "law.go:133", after := #[{ on := 43, ground := Ground.data }, { on := 38, ground := Ground.guard }], guard := some (38, false) }) (v := ?_) rfl (by kernel_rfl) (by kernel_rfl) (by kernel_rfl) (fun _ _ _ h => h) (Or.inl ⟨by rfl, ?_⟩) (by assumption) ?_
    rotate_left 1
    · (intro W h; (try dsimp only at h); go_simp <;> with_reducible rfl)
    try simp only [Act.put, sA, sB, sC]
    refine wpAnyH_take (i := 45) (oi := { dst := some 101, op := Op.slice 28 (Operand.tmp 97) none (some (Operand.tmp 100)) none, type := 28, pos := "law.go:133", after := #[{ on := 41, ground := Ground.data }, { on := 44, ground := Ground.data }, { on := 38, ground := Ground.guard }], guard := some (38, false) }) (v := ?_) rfl (by kernel_rfl) (by kernel_rfl) (by kernel_rfl) (fun _ _ _ h => h) (Or.inl ⟨by rfl, ?_⟩) (by assumption) ?_
    rotate_left 1
    · (intro W h; (try dsimp only at h); go_simp <;> with_reducible rfl)
    try simp only [Act.put, sA, sB, sC]
    refine wpAnyH_take (i := 46) (oi := { dst := some 102, op := Op.build 30 #[(0, Operand.tmp 101)], type := 30, pos := "law.go:133", after := #[{ on := 45, ground := Ground.data }, { on := 38, ground := Ground.guard }], guard := some (38, false) }) (v := ?_) rfl (by kernel_rfl) (by kernel_rfl) (by kernel_rfl) (fun _ _ _ h => h) (Or.inl ⟨by rfl, ?_⟩) (by assumption) ?_
    rotate_left 1
    · (intro W h; (try dsimp only at h); go_simp <;> with_reducible rfl)
    try simp only [Act.put, sA, sB, sC]
    refine wpAnyH_ready (rs := [47]) (by kernel_rfl) (by simp) ?_
    refine (AllReadyH.cons (o := { dst := some 103, op := Op.call { callee := Callee.value (Operand.func 26), args := #[Operand.tmp 95, Operand.tmp 102], argTypes := #[30, 30] }, type := 4, pos := "law.go:133", after := #[{ on := 39, ground := Ground.data }, { on := 46, ground := Ground.data }, { on := 38, ground := Ground.chain }, { on := 38, ground := Ground.guard }], guard := some (38, false) }) rfl (fun K hK => ?_) AllReadyH.nil)
    rw [if_pos (by rfl)]
    go_simp
    go_at_call 26
    refine (HSM.out _ hgr3).mono ?_
    rintro e wc4 ⟨rfl, gc4⟩
    have hgr4 := World.grownBy.trans hgr3 gc4
    go_wp2_with fail
    refine hK.out _ _ (HS.out _ hgr4) (fun hHeld => ?_)
    clear hK K
    try simp only [Act.put, sA, sB, sC]
    refine wpAnyH_take (i := 48) (oi := { dst := some 104, op := Op.unOp UnOp.not 4 (Operand.tmp 103), type := 4, pos := "law.go:133", after := #[{ on := 47, ground := Ground.data }, { on := 38, ground := Ground.guard }], guard := some (38, false) }) (v := ?_) rfl (by kernel_rfl) (by kernel_rfl) (by kernel_rfl) (fun _ _ _ h => h) (Or.inl ⟨by rfl, ?_⟩) (by assumption) ?_
    rotate_left 1
    · (intro W h; (try dsimp only at h); go_simp <;> with_reducible rfl)
    try simp only [Act.put, sA, sB, sC]
    refine wpAnyH_take (i := 49) (oi := { dst := some 105, op := Op.pick (Operand.tmp 94) (Operand.const (Value.bool true)) (Operand.tmp 104), type := 4, pos := "law.go:133", after := #[{ on := 38, ground := Ground.data }, { on := 48, ground := Ground.data }], guard := none }) (v := ?_) rfl (by kernel_rfl) (by kernel_rfl) (by kernel_rfl) (fun _ _ _ h => h) (Or.inl ⟨by rfl, ?_⟩) (by assumption) ?_
    rotate_left 1
    · (intro W h; (try dsimp only at h); go_simp <;> with_reducible rfl)
    try simp only [Act.put, sA, sB, sC]
    refine wpAnyH_done (by kernel_rfl) ?_ _
    have hEND := hgr4
    clear hHeld
    have g1 := hEND
    clear hle1 hle2 hle3 hng hcap2 e1 e2 e3 e4 e5 hcap
    replace Hc := Lib.hid (Hc.out.grown g1)
    replace Ha := Lib.hid (Ha.out.grown g1)
    replace Hd := Lib.hid (Hd.out.grown g1)
    replace He := Lib.hid (He.out.grown g1)
    replace Hf := Lib.hid (Hf.out.grown g1)
    replace Hh := Lib.hid (Hh.out.grown g1)
    replace Hi := Lib.hid (Hi.out.grown g1)
    replace Hj := Lib.hid (Hj.out.grown g1)
    replace HG := Lib.hid (World.grownBy.trans HG.out g1)
    clear g1
    have qc := Hc.out.1
    have qa := Ha.out.1
    have ra := Ha.out.2.1
    have qd := Hd.out.1
    have qe := He.out.1
    have re := He.out.2.1
    have qf := Hf.out.1
    have qh := Hh.out.1
    have rh := Hh.out.2.1
    have qi := Hi.out.1
    have qj := Hj.out.1
    have rj := Hj.out.2.1
    go_wp2_with fail
    clear qc qa ra qd qe re qf qh rh qi qj rj
    refine (value0_at 2 Ha.out.2.2.1 HBU.out.1 (by have := HBU.out; omega) (fun c hc => (HMA.out.1.2 c hc).1) (by have h1 := HMA.out.len; have h2 := Ha.out.2.2.1; have : n * n ≤ 4 * 4 := Nat.mul_le_mul HNK.out.2.1 HNK.out.2.1; omega) Hc.out.2.2 Ha.out.2.2.2).mono ?_
    rintro e V15 ⟨aP, nP, cP, rfl, hlP, hr, g1⟩
    replace Hc := Lib.hid (Hc.out.grown g1)
    replace Ha := Lib.hid (Ha.out.grown g1)
    replace Hd := Lib.hid (Hd.out.grown g1)
    replace He := Lib.hid (He.out.grown g1)
    replace Hf := Lib.hid (Hf.out.grown g1)
    replace Hh := Lib.hid (Hh.out.grown g1)
    replace Hi := Lib.hid (Hi.out.grown g1)
    replace Hj := Lib.hid (Hj.out.grown g1)
    replace HG := Lib.hid (World.grownBy.trans HG.out g1)
    clear g1
    have hks := const_sq (v := []) HMA.out
    have hcl := const_calls (valL g [] A) 2 aP cP V15 hr (by have h1 := HMA.out.len; have h2 : (valL g [] A).length ≤ A.length := (by unfold valL; rw [List.length_map]; exact List.length_filter_le _ _); have : n * n ≤ 4 * 4 := Nat.mul_le_mul HNK.out.2.1 HNK.out.2.1; omega)
    rw [hlP] at hcl
    have hkl : ((valL g [] A).map fun z => ((z, 0) : Cl)).length = nP := by rw [List.length_map]; exact hlP
    have hk0 := @const_c0 (valL g [] A)
    obtain ⟨K, hK⟩ : ∃ z, (valL g [] A).map (fun z => ((z, 0) : Cl)) = z := ⟨_, rfl⟩
    rw [hK] at hks hcl hkl hk0
    have HUK := Lib.hid (And.intro hks (And.intro hk0 hkl))
    have HCK := Lib.hid hcl
    clear hks hk0 hkl hcl hlP hr hK
    have qc := Hc.out.1
    have qa := Ha.out.1
    have ra := Ha.out.2.1
    have qd := Hd.out.1
    have qe := He.out.1
    have re := He.out.2.1
    have qf := Hf.out.1
    have qh := Hh.out.1
    have rh := Hh.out.2.1
    have qi := Hi.out.1
    have qj := Hj.out.1
    have rj := Hj.out.2.1
    go_wp2_with fail
    clear qc qa ra qd qe re qf qh rh qi qj rj
    refine HCK.out.mono ?_
    rintro e V16 ⟨aK, cK, rfl, hm, g1⟩
    clear HCK
    replace Hc := Lib.hid (Hc.out.grown g1)
    replace Ha := Lib.hid (Ha.out.grown g1)
    replace Hd := Lib.hid (Hd.out.grown g1)
    replace He := Lib.hid (He.out.grown g1)
    replace Hf := Lib.hid (Hf.out.grown g1)
    replace Hh := Lib.hid (Hh.out.grown g1)
    replace Hi := Lib.hid (Hi.out.grown g1)
    replace Hj := Lib.hid (Hj.out.grown g1)
    replace HG := Lib.hid (World.grownBy.trans HG.out g1)
    clear g1
    have qc := Hc.out.1
    have qa := Ha.out.1
    have ra := Ha.out.2.1
    have qd := Hd.out.1
    have qe := He.out.1
    have re := He.out.2.1
    have qf := Hf.out.1
    have qh := Hh.out.1
    have rh := Hh.out.2.1
    have qi := Hi.out.1
    have qj := Hj.out.1
    have rj := Hj.out.2.1
    go_upto_region 11 with fail
    clear qc qa ra qd qe re qf qh rh qi qj rj
    have hb := XB.new (2 : Int) hm HUK.out.2.2
    have gw := World.grownBy_alloc V16 (.cells #[.int .i64 2, .slice aK nP cK] 26) none
    obtain ⟨V17, hV17⟩ : ∃ z, World.alloc V16 (.cells #[.int .i64 2, .slice aK nP cK] 26) = z := ⟨_, rfl⟩
    have hsV17 : V17.heap.size = V16.heap.size + 1 := by rw [← hV17]; simp
    rw [hV17] at gw hb ⊢
    clear hV17
    obtain ⟨bK, hbb⟩ : ∃ b, V16.heap.size = b := ⟨_, rfl⟩
    rw [hbb] at hb hsV17 ⊢
    clear hbb
    replace Hc := Lib.hid (Hc.out.grown gw)
    replace Ha := Lib.hid (Ha.out.grown gw)
    replace Hd := Lib.hid (Hd.out.grown gw)
    replace He := Lib.hid (He.out.grown gw)
    replace Hf := Lib.hid (Hf.out.grown gw)
    replace Hh := Lib.hid (Hh.out.grown gw)
    replace Hi := Lib.hid (Hi.out.grown gw)
    replace Hj := Lib.hid (Hj.out.grown gw)
    replace HG := Lib.hid (World.grownBy.trans HG.out gw)
    clear gw
    have Hk := Lib.hid hb
    clear hb
    clear hm hsV17
    obtain ⟨hq1, hq2⟩ := smP_cst (gs := hN) (n := n) good_new HUK.out.2.1
    have hc60 := fun (U : World) (a : Option Addr) (c : Nat) (hU : World.grownBy V17 U none) (hg : GatesW U a c hN) => smaller_calls U n hN K a aK c cK 1 nP rfl HUK.out.2.2 hg (Hk.out.grown hU).2.2.2 good_new HUK.out.1 HNK.out.1 HNK.out.2.1 (by have := HRC.out; have := HBU.out.1.pos; omega)
    have hc62 := fun (U : World) (a : Option Addr) (c : Nat) (hg : GatesW U a c hN) (hk : CellsW U aK cK K) => acyclic_calls U n hN K a aK c cK 1 nP rfl HUK.out.2.2 hg hk good_new HUK.out.1 HNK.out.1 HNK.out.2.1 (by have := HRC.out; have := HBU.out.1.pos; omega)
    obtain ⟨hq3, hq4⟩ := acR_cst (gs := hN) (n := n) good_new HUK.out.2.1
    obtain ⟨M1, hM1⟩ : ∃ z, smP n hN K = z := ⟨_, rfl⟩
    obtain ⟨g8, M⟩ := M1
    rw [hM1] at hq1 hc60
    simp only at hq1 hc60
    subst hq1
    obtain ⟨R1, hR1⟩ : ∃ z, acR n hN K = z := ⟨_, rfl⟩
    obtain ⟨g9, R⟩ := R1
    rw [hR1] at hq3 hq4 hc62
    simp only at hq3 hq4 hc62
    subst hq3
    have HC62 := Lib.hid hc62
    have HRR := Lib.hid hq4
    have HB1 := Lib.hid (And.intro Hk.out hc60)
    clear hq2 hM1 hc60 hc62 hR1 hq4
    refine hw1_all (fun c a d v w h => by cases d <;> exact h) HB1 (Lib.hid ?_)
    intro aJ1 cJ1 bJ1 nJ1 dJ1 b18 b19 _ _ _ _ _ _ _ _ _ _ _ _ _ _ _ _ _ _ _ _ _ _ _ _ _ _ _ _ _ _ _ _ _ _ _ _ _ _ _ _ _ _ _ _ _ _ _ _ _ _ _ _ _ _ _ _ _ _ _ _ _ _ _ _ _ _ _ _ _ _ _ _ _ _ _ _ _ _ _ _ _ _ _ _ _ _ _ _ _ _ _ _ _ _ _ _ _ _ _ _ _ _ _ _ _ _ _ _ _ _ _ _ _ _ _ _ _ _ _ _ _ _ _ _ _ _ _ _ _ _ _ _ _ _ _ _ _ _ _ _ V18 g1 l_n _ _ hcb hxb
    clear HB1
    replace Hc := Lib.hid (Hc.out.grown g1)
    replace Ha := Lib.hid (Ha.out.grown g1)
    replace Hd := Lib.hid (Hd.out.grown g1)
    replace He := Lib.hid (He.out.grown g1)
    replace Hf := Lib.hid (Hf.out.grown g1)
    replace Hh := Lib.hid (Hh.out.grown g1)
    replace Hi := Lib.hid (Hi.out.grown g1)
    replace Hj := Lib.hid (Hj.out.grown g1)
    replace Hk := Lib.hid (Hk.out.grown g1)
    replace HG := Lib.hid (World.grownBy.trans HG.out g1)
    clear g1
    have Hl := Lib.hid hcb
    have Hm := Lib.hid hxb
    clear hcb hxb l_n
    have qc := Hc.out.1
    have qa := Ha.out.1
    have ra := Ha.out.2.1
    have qd := Hd.out.1
    have qe := He.out.1
    have re := He.out.2.1
    have qf := Hf.out.1
    have qh := Hh.out.1
    have rh := Hh.out.2.1
    have qi := Hi.out.1
    have qj := Hj.out.1
    have rj := Hj.out.2.1
    have qk := Hk.out.1
    have rk := Hk.out.2.1
    have ql := Hl.out.1
    have qm := Hm.out.1
    have rm := Hm.out.2.1
    go_upto_region 12 with fail
    clear qc qa ra qd qe re qf qh rh qi qj rj qk rk ql qm rm
    have hc62 := fun (U : World) (a : Option Addr) (c : Nat) (hU : World.grownBy V18 U none) (hg : GatesW U a c hN) => HC62.out U a c hg (Hk.out.grown hU).2.2.2
    have HB2 := Lib.hid (And.intro Hk.out hc62)
    clear hc62 HC62
    refine hw2_all (fun c a d v w h => by cases d <;> exact h) HB2 (Lib.hid ?_)
    intro aJ2 cJ2 b20 _ _ _ _ _ _ _ _ _ _ _ _ _ _ _ _ _ _ _ _ _ _ _ _ _ _ _ _ _ _ _ _ _ _ _ _ _ _ _ _ _ _ _ _ _ _ _ _ _ _ _ _ _ _ _ _ _ _ _ _ _ _ _ _ _ _ _ _ _ _ _ _ _ _ _ _ _ _ _ _ _ _ _ _ _ _ _ _ _ _ _ _ _ _ _ _ _ _ _ _ _ _ _ _ _ _ _ _ _ _ _ _ _ _ _ _ _ _ _ _ _ _ _ _ _ _ _ _ _ _ _ _ _ _ _ _ _ _ V19 g1 _ hcb
    clear HB2
    replace Hc := Lib.hid (Hc.out.grown g1)
    replace Ha := Lib.hid (Ha.out.grown g1)
    replace Hd := Lib.hid (Hd.out.grown g1)
    replace He := Lib.hid (He.out.grown g1)
    replace Hf := Lib.hid (Hf.out.grown g1)
    replace Hh := Lib.hid (Hh.out.grown g1)
    replace Hi := Lib.hid (Hi.out.grown g1)
    replace Hj := Lib.hid (Hj.out.grown g1)
    replace Hk := Lib.hid (Hk.out.grown g1)
    replace Hl := Lib.hid (Hl.out.grown g1)
    replace Hm := Lib.hid (Hm.out.grown g1)
    replace HG := Lib.hid (World.grownBy.trans HG.out g1)
    clear g1
    have Hn := Lib.hid hcb
    clear hcb
    rcases HRR.out with hR | hR
    · subst hR
      have qc := Hc.out.1
      have qa := Ha.out.1
      have ra := Ha.out.2.1
      have qd := Hd.out.1
      have qe := He.out.1
      have re := He.out.2.1
      have qf := Hf.out.1
      have qh := Hh.out.1
      have rh := Hh.out.2.1
      have qi := Hi.out.1
      have qj := Hj.out.1
      have rj := Hj.out.2.1
      have qk := Hk.out.1
      have rk := Hk.out.2.1
      have ql := Hl.out.1
      have qm := Hm.out.1
      have rm := Hm.out.2.1
      have qn := Hn.out.1
      go_wp2_with fail
      clear qc qa ra qd qe re qf qh rh qi qj rj qk rk ql qm rm qn
      go_ret
      exact ⟨rfl, HG.out⟩
    · subst hR
      have qc := Hc.out.1
      have qa := Ha.out.1
      have ra := Ha.out.2.1
      have qd := Hd.out.1
      have qe := He.out.1
      have re := He.out.2.1
      have qf := Hf.out.1
      have qh := Hh.out.1
      have rh := Hh.out.2.1
      have qi := Hi.out.1
      have qj := Hj.out.1
      have rj := Hj.out.2.1
      have qk := Hk.out.1
      have rk := Hk.out.2.1
      have ql := Hl.out.1
      have qm := Hm.out.1
      have rm := Hm.out.2.1
      have qn := Hn.out.1
      go_wp2_with fail
      clear qc qa ra qd qe re qf qh rh qi qj rj qk rk ql qm rm qn
      go_ret
      exact ⟨rfl, HG.out⟩
end Go.Proofs.Ythdhmflodiincaa

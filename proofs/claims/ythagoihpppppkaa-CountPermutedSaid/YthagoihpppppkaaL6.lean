/- The law: turned, reversed and negated inputs. -/
import Derived.Test.YthagoihpppppkaaT1
import Derived.Deep.DeepCutAuto
namespace Go.Proofs.Ythagoihpppppkaa
open Go.RowKit Go.Maps

theorem num_not {g : List Gt} {v : List Bool} : ∀ {l : List Int}, (∀ r ∈ l, Ok g r) → numV g v (l.map notR) + numV g v l = l.length
  | [], _ => rfl
  | x :: l, h => by
    have ih := num_not (l := l) (v := v) (fun r hr => h r (List.mem_cons_of_mem _ hr))
    have hx := val_not (values := v) (h x (List.mem_cons_self ..))
    unfold numV at *
    simp only [List.map_cons, List.count_cons, List.length_cons, hx]
    generalize List.count true (List.map (valC g v) (List.map notR l)) = p at *
    generalize List.count true (List.map (valC g v) l) = q at *
    cases valC g v x <;> simp <;> omega
def Apart (u v : Value) : Prop := ∀ x, u.ownBlock = some x → v.ownBlock ≠ some x
theorem Apart.symm {u v : Value} (h : Apart u v) : Apart v u := fun x hx hu => h x hu hx
theorem keep_row {w wa w6 : World} {B n k s : Nat} {e : TypeId} {x y v' : Value} {ys : List Value} (hy : w.ownsRow B e k y n ys) (hap : Apart x y) (hga : w.grownBy wa none) (hg : wa.grownBy w6 x.ownBlock) (hat : v'.ownBlock = x.ownBlock ∨ v'.ownBlock = some s) (hs : w.heap.size ≤ s) : w6.ownsRow B e k y n ys ∧ Apart v' y := by
  have h1 := own_grown hy hga
  refine ⟨h1.kept hg ?_, fun z hz hy2 => ?_⟩
  · cases hv : y.ownBlock with
    | none => exact .inl rfl
    | some z => exact .inr (fun e => hap z e.symm hv)
  · rcases hat with h2 | h2
    · exact hap z (by rw [← h2]; exact hz) hy2
    · rw [h2] at hz
      injection hz with hz
      have := (hy.lt z hy2).2
      omega
def tuL (la : List Int) (n by' k : Nat) : List Int := (List.range k).map fun i => la.getD ((i + by') % n) 0
def baL (la : List Int) (n k : Nat) : List Int := (List.range k).map fun i => la.getD (n - 1 - i) 0
theorem tuL_succ (la : List Int) (n by' k : Nat) : tuL la n by' (k + 1) = tuL la n by' k ++ [la.getD ((k + by') % n) 0] := by unfold tuL; rw [List.range_succ, List.map_append]; rfl
theorem baL_succ (la : List Int) (n k : Nat) : baL la n (k + 1) = baL la n k ++ [la.getD (n - 1 - k) 0] := by unfold baL; rw [List.range_succ, List.map_append]; rfl
theorem tuL_full {la : List Int} {n by' : Nat} (hn : la.length = n) (h0 : 0 < n) : tuL la n by' n = la.drop (by' % n) ++ la.take (by' % n) := by
  have hs : by' % n < n := Nat.mod_lt _ h0
  refine List.ext_getElem? fun i => ?_
  by_cases hi : i < n
  · have e1 : (tuL la n by' n)[i]? = some (la.getD ((i + by') % n) 0) := by unfold tuL; rw [List.getElem?_map, List.getElem?_range hi]; rfl
    have e2 : (i + by') % n = if i + by' % n < n then i + by' % n else i + by' % n - n := by
      rw [Nat.add_mod, Nat.mod_eq_of_lt hi]
      split
      · rename_i h; exact Nat.mod_eq_of_lt h
      · rename_i h; rw [Nat.mod_eq_sub_mod (by omega), Nat.mod_eq_of_lt (by omega)]
    rw [e1, e2]
    by_cases h : i + by' % n < n
    · rw [if_pos h, List.getElem?_append_left (by rw [List.length_drop]; omega), List.getElem?_drop, List.getD_eq_getElem?_getD, Nat.add_comm (by' % n) i, List.getElem?_eq_getElem (by omega)]
      rfl
    · rw [if_neg h, List.getElem?_append_right (by rw [List.length_drop]; omega), List.length_drop, List.getElem?_take_of_lt (by omega), List.getD_eq_getElem?_getD, show i - (la.length - by' % n) = i + by' % n - n by omega, List.getElem?_eq_getElem (by omega)]
      rfl
  · rw [List.getElem?_eq_none (by unfold tuL; simp; omega), List.getElem?_eq_none (by rw [List.length_append, List.length_drop, List.length_take]; omega)]
theorem baL_full {la : List Int} {n : Nat} (hn : la.length = n) : baL la n n = la.reverse := by
  refine List.ext_getElem? fun i => ?_
  by_cases hi : i < n
  · rw [List.getElem?_reverse (by omega)]
    unfold baL
    rw [List.getElem?_map, List.getElem?_range hi, hn]
    show some (la.getD (n - 1 - i) 0) = _
    rw [List.getD_eq_getElem?_getD, List.getElem?_eq_getElem (by omega)]
    rfl
  · rw [List.getElem?_eq_none (by unfold baL; simp; omega), List.getElem?_eq_none (by simp; omega)]
theorem num_turned {g : List Gt} {v : List Bool} {la : List Int} {n by' : Nat} (hn : la.length = n) (h0 : 0 < n) : numV g v (tuL la n by' n) = numV g v la := by
  rw [tuL_full hn h0]
  unfold numV
  rw [List.map_append, List.count_append, Nat.add_comm, ← List.count_append, ← List.map_append, List.take_append_drop]
theorem num_back {g : List Gt} {v : List Bool} {la : List Int} {n : Nat} (hn : la.length = n) : numV g v (baL la n n) = numV g v la := by
  rw [baL_full hn]
  unfold numV
  rw [List.map_reverse, List.count_reverse]
set_option maxRecDepth 100000 in
set_option maxHeartbeats 4000000 in
theorem permuted_calls (l : List Stp) (A B : List Nat) (vals : List Bool) (y : Int) (sa : Option Addr) (sc : Nat) (aa : Option Addr) (ac : Nat) (ba : Option Addr) (bc : Nat) (va : Option Addr) (vc : Nat) (kk : Nat) (w : World) (h : RawIn w l A B vals y sa sc aa ac ba bc va vc) (hk : kk < 256) :
    Calls Try.prog 6 #[.agg #[.slice sa l.length sc, .slice aa A.length ac, .slice ba B.length bc, .slice va vals.length vc, .int .i8 y], .int .u8 (kk : Int)] w fun e w' => e = .returned (.bool true) ∧ w.grownBy w' none := by
  obtain ⟨nl, hnl⟩ : ∃ n, l.length = n := ⟨_, rfl⟩
  obtain ⟨na, hna⟩ : ∃ n, A.length = n := ⟨_, rfl⟩
  obtain ⟨nb, hnb⟩ : ∃ n, B.length = n := ⟨_, rfl⟩
  obtain ⟨nv, hnv⟩ : ∃ n, vals.length = n := ⟨_, rfl⟩
  have HN := Lib.hid (And.intro hnl (And.intro hna (And.intro hnb hnv)))
  rw [hnl, hna, hnb, hnv]
  have hg1 := World.grownBy_alloc w (.cells #[.slice sa nl sc, .slice aa na ac, .slice ba nb bc, .slice va nv vc, .int .i8 y] 27) none
  have hq := raw_cells w sa nl sc aa na ac ba nb bc va nv vc y
  obtain ⟨W1, hW1⟩ : ∃ z, w.alloc (.cells #[.slice sa nl sc, .slice aa na ac, .slice ba nb bc, .slice va nv vc, .int .i8 y] 27) = z := ⟨_, rfl⟩
  rw [hW1] at hg1 hq
  obtain ⟨bX, hbX⟩ : ∃ z, w.heap.size = z := ⟨_, rfl⟩
  rw [hbX] at hq
  have HX := Lib.hid (show RawB W1 bX sa nl sc aa na ac ba nb bc va nv vc y from ⟨hq.1, hq.2.1, hq.2.2.1, hq.2.2.2.1, hq.2.2.2.2⟩)
  have HI := Lib.hid (h.grown hg1)
  have HKK := Lib.hid hk
  have HG := Lib.hid hg1
  clear h hk hg1 hq hnl hna hnb hnv
  go_enter Try.func6, Try.ntmps6
  go_wp2_with fail
  clear hW1 hbX
  refine (head_calls _).mono ?_
  rintro e V1 ⟨rfl, g⟩
  replace HX := Lib.hid (HX.out.grown g)
  replace HI := Lib.hid (HI.out.grown g)
  replace HG := Lib.hid (World.grownBy.trans HG.out g)
  clear g
  have x0 := HX.out.c0
  have x1 := HX.out.c1
  have x2 := HX.out.c2
  have x3 := HX.out.c3
  have x4 := HX.out.c4
  go_wp2_with fail
  clear x0 x1 x2 x3 x4
  refine (great_calls _ sa nl sc aa na ac ba nb bc va nv vc y).mono ?_
  rintro e V2 ⟨rfl, g⟩
  replace HX := Lib.hid (HX.out.grown g)
  replace HI := Lib.hid (HI.out.grown g)
  replace HG := Lib.hid (World.grownBy.trans HG.out g)
  clear g
  cases hgr : greatB nl na nb nv with
  | true =>
    go_wp2_with fail
    go_ret
    exact ⟨rfl, HG.out⟩
  | false =>
    have HGN := Lib.hid (great_no hgr)
    clear hgr
    have x0 := HX.out.c0
    have x1 := HX.out.c1
    have x2 := HX.out.c2
    have x3 := HX.out.c3
    have x4 := HX.out.c4
    go_upto_region 4 with fail
    clear x0 x1 x2 x3 x4
    have x0 := HX.out.c0
    have x1 := HX.out.c1
    have x2 := HX.out.c2
    have x3 := HX.out.c3
    have x4 := HX.out.c4
    go_wp2_with fail
    clear x0 x1 x2 x3 x4
    obtain ⟨g0, la, lb, hgd, hgl, hoa, hob, hla, hlb, hic⟩ := inputs_n l A B vals y sa sc aa ac ba bc va vc V2 HI.out HN.out.1 HN.out.2.1 HN.out.2.2.1 ⟨HGN.out.1, HGN.out.2.1, HGN.out.2.2.1⟩
    have HGD := Lib.hid hgd
    have HL := Lib.hid hgl
    have OA := Lib.hid hoa
    have OB := Lib.hid hob
    have NA := Lib.hid hla
    have NB := Lib.hid hlb
    have HIC := Lib.hid hic
    clear hgd hgl hoa hob hla hlb hic
    refine HIC.out.mono ?_
    rintro e V3 ⟨a3, c3, b3, d3, b3x, d3x, rfl, hr, hra, hrb, g⟩
    replace HX := Lib.hid (HX.out.grown g)
    replace HI := Lib.hid (HI.out.grown g)
    replace HG := Lib.hid (World.grownBy.trans HG.out g)
    clear g
    have Rla := Lib.hid hra
    have Rlb := Lib.hid hrb
    clear hra hrb HIC
    have x0 := HX.out.c0
    have x1 := HX.out.c1
    have x2 := HX.out.c2
    have x3 := HX.out.c3
    have x4 := HX.out.c4
    go_upto_region 5 with fail
    clear x0 x1 x2 x3 x4
    have hb := CB.new hr
    have g := World.grownBy_alloc V3 (.cells #[.slice a3 g0.length c3] 32) none
    obtain ⟨V4, hV4⟩ : ∃ z, World.alloc V3 (.cells #[.slice a3 g0.length c3] 32) = z := ⟨_, rfl⟩
    rw [hV4] at g hb ⊢
    clear hV4 hr
    obtain ⟨bc, hbb⟩ : ∃ b, V3.heap.size = b := ⟨_, rfl⟩
    rw [hbb] at hb ⊢
    clear hbb
    replace HX := Lib.hid (HX.out.grown g)
    replace HI := Lib.hid (HI.out.grown g)
    replace Rla := Lib.hid (Rla.out.grown g)
    replace Rlb := Lib.hid (Rlb.out.grown g)
    replace HG := Lib.hid (World.grownBy.trans HG.out g)
    clear g
    have Hc := Lib.hid hb
    clear hb
    have HB := Lib.hid (show na ≤ 9 from HGN.out.2.1)
    have grA := World.grownBy_alloc V4 (.cells #[] 3) none
    have hoA := World.ownsRow_made (base := V4.heap.size) (e := 3) (size := 1) V4 #[] 0 (World.grownBy.size (grown_refl V4 none)) (Nat.zero_le _) rfl
    have hszA : (World.alloc V4 (.cells #[] 3)).heap.size = V4.heap.size + 1 := by simp
    go_upto_region 6 with fail
    obtain ⟨TA, hTA⟩ : ∃ z, World.alloc V4 (.cells #[] 3) = z := ⟨_, rfl⟩
    rw [hTA] at grA hoA hszA ⊢
    clear hTA
    have gr0 := grA
    obtain ⟨BZ, hBZ⟩ : ∃ z, V4.heap.size = z := ⟨_, rfl⟩
    rw [hBZ] at hoA hszA ⊢
    have grB := World.grownBy_alloc TA (.cells #[] 3) none
    have hoB := World.ownsRow_made (base := V4.heap.size) (e := 3) (size := 1) TA #[] 0 (World.grownBy.size gr0) (Nat.zero_le _) rfl
    have hszB : (World.alloc TA (.cells #[] 3)).heap.size = TA.heap.size + 1 := by simp
    go_upto_region 7 with fail
    obtain ⟨TB, hTB⟩ : ∃ z, World.alloc TA (.cells #[] 3) = z := ⟨_, rfl⟩
    rw [hTB] at grB hoB hszB ⊢
    clear hTB
    replace gr0 := World.grownBy.trans gr0 grB
    rw [hszA] at hoB hszB
    rw [hBZ] at hoB
    replace hoA := own_grown hoA grB
    have grC := World.grownBy_alloc TB (.cells #[] 3) none
    have hoC := World.ownsRow_made (base := V4.heap.size) (e := 3) (size := 1) TB #[] 0 (World.grownBy.size gr0) (Nat.zero_le _) rfl
    have hszC : (World.alloc TB (.cells #[] 3)).heap.size = TB.heap.size + 1 := by simp
    go_upto_region 8 with fail
    obtain ⟨TC, hTC⟩ : ∃ z, World.alloc TB (.cells #[] 3) = z := ⟨_, rfl⟩
    rw [hTC] at grC hoC hszC ⊢
    clear hTC
    replace gr0 := World.grownBy.trans gr0 grC
    rw [hszB] at hoC hszC
    rw [hBZ] at hoC
    replace hoA := own_grown hoA grC
    replace hoB := own_grown hoB grC
    have HBZ := Lib.hid hBZ
    have HGB := Lib.hid gr0
    have HO := Lib.hid (And.intro hoA (And.intro hoB hoC))
    have HSZ0 := Lib.hid (show BZ ≤ TC.heap.size from by omega)
    clear grA grB grC gr0 hoA hoB hoC hszA hszB hszC hBZ
    obtain ⟨i0, hi0, hz0, hz1, hz2⟩ := info_parts info3
    have qc := Hc.out.1
    have x0 := HX.out.c0
    have x1 := HX.out.c1
    have x2 := HX.out.c2
    have x3 := HX.out.c3
    have x4 := HX.out.c4
    go_wp2_with fail
    clear qc x0 x1 x2 x3 x4
    go_loopg [9, 10, 11, 12] na (fun gk s9 s10 s11 s12 wr => ∃ (k : Nat) (xa : Option Addr) (xc : Nat) (ya : Option Addr) (yc : Nat) (za : Option Addr) (zc : Nat), s9 = .slice xa k xc ∧ s10 = .slice ya k yc ∧ s11 = .slice za k zc ∧ s12 = .int .i64 (k : Int) ∧ gk = na - k ∧ k ≤ na ∧ wr.ownsRow BZ 3 1 (.slice xa k xc) k (intCells (tuL la na kk k)) ∧ wr.ownsRow BZ 3 1 (.slice ya k yc) k (intCells (baL la na k)) ∧ wr.ownsRow BZ 3 1 (.slice za k zc) k (intCells ((la.take k).map notR)) ∧ Apart (.slice xa k xc) (.slice ya k yc) ∧ Apart (.slice xa k xc) (.slice za k zc) ∧ Apart (.slice ya k yc) (.slice za k zc) ∧ V4.grownBy wr none)
    case atStart => exact ⟨0, _, _, _, _, _, _, rfl, rfl, rfl, rfl, rfl, Nat.zero_le _, HO.out.1, HO.out.2.1, HO.out.2.2, fun x h1 h2 => by injection h1 with h1; injection h2 with h2; have e1 : BZ = x := h1; have e2 : BZ + 1 = x := h2; omega, fun x h1 h2 => by injection h1 with h1; injection h2 with h2; have e1 : BZ = x := h1; have e2 : BZ + 1 + 1 = x := h2; omega, fun x h1 h2 => by injection h1 with h1; injection h2 with h2; have e1 : BZ + 1 = x := h1; have e2 : BZ + 1 + 1 = x := h2; omega, HGB.out⟩
    case round =>
      obtain ⟨k, xa, xc, ya, yc, za, zc, rfl, rfl, rfl, rfl, hgk, hk, ho1, ho2, ho3, ap1, ap2, ap3, hgr⟩ := hrel
      have HI2 := Lib.hid hgk; clear hgk
      have HGR := Lib.hid hgr; clear hgr
      have HOW := Lib.hid (And.intro ho1 (And.intro ho2 ho3))
      have HAP := Lib.hid (And.intro ap1 (And.intro ap2 ap3))
      clear ho1 ho2 ho3 ap1 ap2 ap3
      by_cases hkn : k < na
      · have f1 : decide (k < na) = true := decide_eq_true hkn
        have f2 : decide ((k : Int) < (na : Int)) = true := decide_eq_true (by omega)
        have hb9 := HB.out
        have hk1 : IntKind.i64.wrap ((k : Int) + 1) = ((k + 1 : Nat) : Int) := by rw [IntWalk.i64_in _ (by omega)]; omega
        have hj0 : (0 : Int) ≤ (k : Int) := by omega
        have hj1 : (k : Int) < (na : Int) := by omega
        have HSZ := Lib.hid (show BZ ≤ wr.heap.size from by have h := HGR.out.size; have := HBZ.out; omega)
        obtain ⟨t, ht⟩ : ∃ t, (k + kk) % na = t := ⟨_, rfl⟩
        have htn : t < na := by rw [← ht]; exact Nat.mod_lt _ (by omega)
        obtain ⟨u, hu⟩ : ∃ u, na - 1 - k = u := ⟨_, rfl⟩
        obtain ⟨z1, hz1'⟩ : ∃ z, la[t]? = some z := ⟨_, List.getElem?_eq_getElem (by rw [NA.out]; exact htn)⟩
        obtain ⟨z2, hz2'⟩ : ∃ z, la[u]? = some z := ⟨_, List.getElem?_eq_getElem (by rw [NA.out]; omega)⟩
        obtain ⟨z3, hz3⟩ : ∃ z, la[k]? = some z := ⟨_, List.getElem?_eq_getElem (by rw [NA.out]; exact hkn)⟩
        obtain ⟨q, hq⟩ : ∃ q, notR z3 = q := ⟨_, rfl⟩
        have S1 := Lib.hid (show tuL la na kk (k + 1) = tuL la na kk k ++ [z1] from by rw [tuL_succ, ht, List.getD_eq_getElem?_getD, hz1']; rfl)
        have S2 := Lib.hid (show baL la na (k + 1) = baL la na k ++ [z2] from by rw [baL_succ, hu, List.getD_eq_getElem?_getD, hz2']; rfl)
        have S3 := Lib.hid (show (la.take (k + 1)).map notR = (la.take k).map notR ++ [q] from by rw [List.take_add_one, hz3, List.map_append, ← hq]; rfl)
        have HQ := Lib.hid hq
        have HZL := Lib.hid (show z3 ≤ 9223372036854775807 from ok_i64 (by have := HL.out; omega) (OA.out z3 (List.mem_of_getElem? hz3)))
        obtain ⟨L1, hL1⟩ : ∃ L, tuL la na kk k = L := ⟨_, rfl⟩
        obtain ⟨L2, hL2⟩ : ∃ L, baL la na k = L := ⟨_, rfl⟩
        obtain ⟨L3, hL3⟩ : ∃ L, (la.take k).map notR = L := ⟨_, rfl⟩
        rw [hL1] at S1 HOW
        rw [hL2] at S2 HOW
        rw [hL3] at S3 HOW
        have hkk := HKK.out
        have wk : IntKind.i64.wrap (kk : Int) = (kk : Int) := IntWalk.i64_in _ (by omega)
        obtain ⟨kb, hkb⟩ : ∃ z, k + kk = z := ⟨_, rfl⟩
        have w2 : IntKind.i64.wrap ((k : Int) + (kk : Int)) = (kb : Int) := by rw [IntWalk.i64_in _ (by omega)]; omega
        rw [hkb] at ht
        have wt : Int.tmod (kb : Int) (na : Int) = (t : Int) := by rw [Int.tmod_eq_emod_of_nonneg (by omega)]; omega
        have hz9 : ¬ (na : Int) = 0 := by omega
        have hz8 : na ≠ 0 := by omega
        have wt2 : IntKind.i64.wrap (t : Int) = (t : Int) := IntWalk.i64_in _ (by omega)
        have t0 : (0 : Int) ≤ (t : Int) := by omega
        have t1 : (t : Int) < (na : Int) := by omega
        obtain ⟨n1, hn1⟩ : ∃ z, na - 1 = z := ⟨_, rfl⟩
        have w3 : IntKind.i64.wrap ((na : Int) - 1) = (n1 : Int) := by rw [IntWalk.i64_in _ (by omega)]; omega
        have w4 : IntKind.i64.wrap ((n1 : Int) - (k : Int)) = (u : Int) := by rw [IntWalk.i64_in _ (by omega)]; omega
        have u0 : (0 : Int) ≤ (u : Int) := by omega
        have u1 : (u : Int) < (na : Int) := by omega
        have HA1 := Lib.hid (fun (U : World) (hU : V4.grownBy U none) => Rla.out.grown hU)
        obtain ⟨bi, oi, hra, x1⟩ := (HA1.out _ HGR.out).at hz1'
        have XZ := Lib.hid (And.intro hz1' (And.intro hz2' hz3))
        clear hz1' hz2' hz3 hq hL1 hL2 hL3 ht hu hkb hn1
        have HRA := Lib.hid hra
        rw [hra]
        clear hra
        go_wp2_with (at_builtin; refine wpList_append_own_at _ rfl _ _ 33 rfl BZ 3 i0 (.int .i64 0) 1 8 Try.underlying33 hi0 hz0 hz1 hz2 rfl (by decide) _ k (intCells L1) rfl (HOW.out.1.alloc _) ⟨wr.heap.size, 0, none⟩ 1 1 [.int .i64 z1] rfl rfl (cell_one_new _ _ _) (fun u hu => by simp at hu; subst hu; rfl) (by unfold maxLen; omega) (by omega) (by have := HSZ.out; have := HSZ.out; simp; omega) ?_)
        intro v' w5 hown' hgrow' _ hat'
        obtain ⟨x2a, x2c, rfl⟩ := own_shape hown'
        have haA := World.grownBy_alloc wr (.cells #[.int .i64 z1] 3) none
        obtain ⟨ky, ay⟩ := keep_row HOW.out.2.1 HAP.out.1 haA hgrow' hat' (by simp)
        obtain ⟨kz, az⟩ := keep_row HOW.out.2.2 HAP.out.2.1 haA hgrow' hat' (by simp)
        have HG5 := Lib.hid (show V4.grownBy w5 none from grown_own (World.grownBy.trans HGR.out haA) hgrow' (fun x e => by have h1 := (HOW.out.1.lt x e).1; have h2 := HBZ.out; omega))
        have HX5 := Lib.hid (show w5.ownsRow BZ 3 1 (.slice x2a (k + 1) x2c) (k + 1) (intCells (tuL la na kk (k + 1))) from by rw [S1.out, intCells, List.map_append]; exact hown')
        have HY5 := Lib.hid ky
        have HZ5 := Lib.hid kz
        have HA5 := Lib.hid (And.intro ay az)
        have HS5 := Lib.hid (show wr.heap.size ≤ w5.heap.size from Nat.le_trans haA.size hgrow'.size)
        clear hown' hgrow' haA hat' ky kz ay az x1
        obtain ⟨bi2, oi2, hra2, x1⟩ := (HA1.out _ HG5.out).at XZ.out.2.1
        rw [HRA.out] at hra2
        cases hra2
        go_wp2_with (at_builtin; refine wpList_append_own_at _ rfl _ _ 33 rfl BZ 3 i0 (.int .i64 0) 1 8 Try.underlying33 hi0 hz0 hz1 hz2 rfl (by decide) _ k (intCells L2) rfl (HY5.out.alloc _) ⟨w5.heap.size, 0, none⟩ 1 1 [.int .i64 z2] rfl rfl (cell_one_new _ _ _) (fun u hu => by simp at hu; subst hu; rfl) (by unfold maxLen; omega) (by omega) (by have := HSZ.out; have := HS5.out; simp; omega) ?_)
        intro v' w6 hown' hgrow' _ hat'
        obtain ⟨y2a, y2c, rfl⟩ := own_shape hown'
        have haA := World.grownBy_alloc w5 (.cells #[.int .i64 z2] 3) none
        obtain ⟨kx, ax⟩ := keep_row HX5.out (HA5.out.1.symm) haA hgrow' hat' (by simp)
        obtain ⟨kz, az⟩ := keep_row HZ5.out HAP.out.2.2 haA hgrow' hat' (by simp)
        have HG6 := Lib.hid (show V4.grownBy w6 none from grown_own (World.grownBy.trans HG5.out haA) hgrow' (fun x e => by have h1 := (HY5.out.lt x e).1; have h2 := HBZ.out; omega))
        have HY6 := Lib.hid (show w6.ownsRow BZ 3 1 (.slice y2a (k + 1) y2c) (k + 1) (intCells (baL la na (k + 1))) from by rw [S2.out, intCells, List.map_append]; exact hown')
        have HX6 := Lib.hid kx
        have HZ6 := Lib.hid kz
        have HA6 := Lib.hid (And.intro ax az)
        have HS6 := Lib.hid (show wr.heap.size ≤ w6.heap.size from Nat.le_trans HS5.out (Nat.le_trans haA.size hgrow'.size))
        have HP6 := Lib.hid (show ∀ s, w5.heap.size ≤ s → True from fun _ _ => trivial)
        clear hown' hgrow' haA hat' kx kz ax az x1 HP6
        obtain ⟨bi3, oi3, hra3, x1⟩ := (HA1.out _ HG6.out).at XZ.out.2.2
        rw [HRA.out] at hra3
        cases hra3
        go_wp2_with fail
        clear x1
        refine (rnot_at z3 HZL.out).mono ?_
        rintro e w9 ⟨rfl, hw9⟩
        rw [hw9]
        clear hw9 w9
        rw [HQ.out]
        go_wp2_with (at_builtin; refine wpList_append_own_at _ rfl _ _ 33 rfl BZ 3 i0 (.int .i64 0) 1 8 Try.underlying33 hi0 hz0 hz1 hz2 rfl (by decide) _ k (intCells L3) rfl (HZ6.out.alloc _) ⟨w6.heap.size, 0, none⟩ 1 1 [.int .i64 q] rfl rfl (cell_one_new _ _ _) (fun u hu => by simp at hu; subst hu; rfl) (by unfold maxLen; omega) (by omega) (by have := HSZ.out; have := HS6.out; simp; omega) ?_)
        intro v' w7 hown' hgrow' _ hat'
        obtain ⟨z2a, z2c, rfl⟩ := own_shape hown'
        have haA := World.grownBy_alloc w6 (.cells #[.int .i64 q] 3) none
        obtain ⟨kx, ax⟩ := keep_row HX6.out (HA5.out.2.symm) haA hgrow' hat' (by simp)
        obtain ⟨ky, ay⟩ := keep_row HY6.out HA6.out.2.symm haA hgrow' hat' (by simp)
        have HG7 := Lib.hid (show V4.grownBy w7 none from grown_own (World.grownBy.trans HG6.out haA) hgrow' (fun x e => by have h1 := (HZ6.out.lt x e).1; have h2 := HBZ.out; omega))
        have HZ7 := Lib.hid (show w7.ownsRow BZ 3 1 (.slice z2a (k + 1) z2c) (k + 1) (intCells ((la.take (k + 1)).map notR)) from by rw [S3.out, intCells, List.map_append]; exact hown')
        have HX7 := Lib.hid kx
        have HY7 := Lib.hid ky
        have HA7 := Lib.hid (And.intro ax ay)
        clear hown' hgrow' haA hat' kx ky ax ay
        rw [← HRA.out]
        go_wp2_with fail
        go_roundg (na - (k + 1))
        case measure => rw [HI2.out]; omega
        case rel => exact ⟨k + 1, x2a, x2c, y2a, y2c, z2a, z2c, rfl, rfl, rfl, rfl, rfl, by omega, HX7.out, HY7.out, HZ7.out, HA6.out.1.symm, HA7.out.1.symm, HA7.out.2.symm, HG7.out⟩
      · have f1 : decide (k < na) = false := decide_eq_false hkn
        have f2 : decide ((k : Int) < (na : Int)) = false := decide_eq_false (by omega)
        have hkna : k = na := by omega
        subst hkna
        have HLN := Lib.hid (show (tuL la k kk k).length = k ∧ (baL la k k).length = k ∧ (la.map notR).length = k from ⟨by unfold tuL; simp, by unfold baL; simp, by rw [List.length_map, NA.out]⟩)
        have HR1 := Lib.hid (show IntsW wr xa xc (tuL la k kk k) from IntsN.weak (IntsN.own (N := fun _ => False) HLN.out.1 HOW.out.1 (fun k _ h => h)))
        have HR2 := Lib.hid (show IntsW wr ya yc (baL la k k) from IntsN.weak (IntsN.own (N := fun _ => False) HLN.out.2.1 HOW.out.2.1 (fun k _ h => h)))
        have HR3 := Lib.hid (show IntsW wr za zc (la.map notR) from by have h := HOW.out.2.2; rw [List.take_of_length_le (by rw [NA.out]; omega)] at h; exact IntsN.weak (IntsN.own (N := fun _ => False) HLN.out.2.2 h (fun k _ h => h)))
        clear hkn HOW HAP HO HGB
        obtain ⟨U1, hU1⟩ : ∃ z, z = wr := ⟨_, rfl⟩
        rw [← hU1] at HGR HR1 HR2 HR3 ⊢
        clear hU1
        have g := HGR.out
        replace Hc := Lib.hid (Hc.out.grown g)
        replace HX := Lib.hid (HX.out.grown g)
        replace HI := Lib.hid (HI.out.grown g)
        replace Rla := Lib.hid (Rla.out.grown g)
        replace Rlb := Lib.hid (Rlb.out.grown g)
        replace HG := Lib.hid (World.grownBy.trans HG.out g)
        clear g
        obtain ⟨tu, htu⟩ : ∃ n, tuL la k kk k = n := ⟨_, rfl⟩
        obtain ⟨ba9, hba⟩ : ∃ n, baL la k k = n := ⟨_, rfl⟩
        obtain ⟨no, hno⟩ : ∃ n, la.map notR = n := ⟨_, rfl⟩
        obtain ⟨cnt, hcnt⟩ : ∃ c, numV g0 vals la = c := ⟨_, rfl⟩
        have HVN := Lib.hid (show (0 < k → numV g0 vals tu = cnt) ∧ numV g0 vals ba9 = cnt ∧ numV g0 vals no + cnt = k ∧ numV g0 vals la = cnt from ⟨fun h0 => by rw [← htu, ← hcnt]; exact num_turned NA.out h0, by rw [← hba, ← hcnt]; exact num_back NA.out, by rw [← hno, ← hcnt, ← NA.out]; exact num_not OA.out, hcnt⟩)
        have OTU := Lib.hid (show ∀ r ∈ tu, Ok g0 r from fun r hr => by
            rw [← htu] at hr
            unfold tuL at hr
            obtain ⟨i, hi, rfl⟩ := List.mem_map.1 hr
            have h0 := List.mem_range.1 hi
            exact OA.out _ (getD_in (by rw [NA.out]; exact Nat.mod_lt _ (by omega))))
        have OBA := Lib.hid (show ∀ r ∈ ba9, Ok g0 r from fun r hr => by
            rw [← hba] at hr
            unfold baL at hr
            obtain ⟨i, hi, rfl⟩ := List.mem_map.1 hr
            have h0 := List.mem_range.1 hi
            exact OA.out _ (getD_in (by rw [NA.out]; omega)))
        have ONO := Lib.hid (show ∀ r ∈ no, Ok g0 r from fun r hr => by rw [← hno] at hr; obtain ⟨z, hz, rfl⟩ := List.mem_map.1 hr; exact notR_ok (OA.out z hz))
        rw [htu, hba, hno] at HLN
        rw [htu] at HR1
        rw [hba] at HR2
        rw [hno] at HR3
        clear htu hba hno hcnt
        have Rtu := Lib.hid HR1.out
        have Rba := Lib.hid HR2.out
        have Rno := Lib.hid HR3.out
        clear HR1 HR2 HR3
        have qc := Hc.out.1
        have x0 := HX.out.c0
        have x1 := HX.out.c1
        have x2 := HX.out.c2
        have x3 := HX.out.c3
        have x4 := HX.out.c4
        go_upto_region 14 with fail
        clear qc x0 x1 x2 x3 x4
        clear f1 f2
        obtain ⟨rD, eD⟩ : ∃ rr9, (sorterP la).run g0 = rr9 := ⟨_, rfl⟩
        obtain ⟨gD, lD⟩ := rD
        have dD := sorter_den eD HGD.out (by have := HL.out; omega) OA.out (by have := NA.out; have := HB.out; omega)
        have hD1 := dD.1.len
        have GD := Lib.hid (show Good gD ∧ gD.length ≤ 500 ∧ lD.length = k from ⟨dD.1.good, by have := HL.out; omega, by rw [dD.2.1, NA.out]⟩)
        have DD := Lib.hid (dD.2.2 vals)
        have HCD := Lib.hid (fun (W : World) (a : Option Addr) (c : Nat) (b : Option Addr) (d : Nat) (hW : GatesW W a c g0) (hr : IntsW W b d la) => sorter_n NA.out eD HGD.out (by have := HL.out; omega) OA.out (by have := NA.out; have := HB.out; omega) hW hr)
        clear eD dD hD1
        have qc := Hc.out.1
        have x0 := HX.out.c0
        have x1 := HX.out.c1
        have x2 := HX.out.c2
        have x3 := HX.out.c3
        have x4 := HX.out.c4
        go_wp2_with fail
        clear qc x0 x1 x2 x3 x4
        refine (HCD.out _ _ _ _ _ Hc.out.2.2 Rla.out).mono ?_
        rintro e V5 ⟨a5, c5, b5, d5, rfl, hr, hrow, g⟩
        replace Hc := Lib.hid (Hc.out.grown g)
        replace HX := Lib.hid (HX.out.grown g)
        replace HI := Lib.hid (HI.out.grown g)
        replace Rla := Lib.hid (Rla.out.grown g)
        replace Rlb := Lib.hid (Rlb.out.grown g)
        replace Rtu := Lib.hid (Rtu.out.grown g)
        replace Rba := Lib.hid (Rba.out.grown g)
        replace Rno := Lib.hid (Rno.out.grown g)
        replace HG := Lib.hid (World.grownBy.trans HG.out g)
        clear g
        have RlD := Lib.hid hrow
        clear hrow
        have qc := Hc.out.1
        have x0 := HX.out.c0
        have x1 := HX.out.c1
        have x2 := HX.out.c2
        have x3 := HX.out.c3
        have x4 := HX.out.c4
        go_upto_region 15 with fail
        clear qc x0 x1 x2 x3 x4
        have hb := CB.new hr
        have g := World.grownBy_alloc V5 (.cells #[.slice a5 gD.length c5] 32) none
        obtain ⟨V6, hV6⟩ : ∃ z, World.alloc V5 (.cells #[.slice a5 gD.length c5] 32) = z := ⟨_, rfl⟩
        rw [hV6] at g hb ⊢
        clear hV6 hr
        obtain ⟨bD, hbb⟩ : ∃ b, V5.heap.size = b := ⟨_, rfl⟩
        rw [hbb] at hb ⊢
        clear hbb
        replace Hc := Lib.hid (Hc.out.grown g)
        replace HX := Lib.hid (HX.out.grown g)
        replace HI := Lib.hid (HI.out.grown g)
        replace Rla := Lib.hid (Rla.out.grown g)
        replace Rlb := Lib.hid (Rlb.out.grown g)
        replace Rtu := Lib.hid (Rtu.out.grown g)
        replace Rba := Lib.hid (Rba.out.grown g)
        replace Rno := Lib.hid (Rno.out.grown g)
        replace RlD := Lib.hid (RlD.out.grown g)
        replace HG := Lib.hid (World.grownBy.trans HG.out g)
        clear g
        have HD := Lib.hid hb
        clear hb
        obtain ⟨rE, eE⟩ : ∃ rr9, (sorterP tu).run g0 = rr9 := ⟨_, rfl⟩
        obtain ⟨gE, lE⟩ := rE
        have dE := sorter_den eE HGD.out (by have := HL.out; omega) OTU.out (by have := HLN.out.1; have := HB.out; omega)
        have hE1 := dE.1.len
        have GE := Lib.hid (show Good gE ∧ gE.length ≤ 500 ∧ lE.length = k from ⟨dE.1.good, by have := HL.out; omega, by rw [dE.2.1, HLN.out.1]⟩)
        have DE := Lib.hid (dE.2.2 vals)
        have HCE := Lib.hid (fun (W : World) (a : Option Addr) (c : Nat) (b : Option Addr) (d : Nat) (hW : GatesW W a c g0) (hr : IntsW W b d tu) => sorter_n HLN.out.1 eE HGD.out (by have := HL.out; omega) OTU.out (by have := HLN.out.1; have := HB.out; omega) hW hr)
        clear eE dE hE1
        have qc := Hc.out.1
        have qD := HD.out.1
        have x0 := HX.out.c0
        have x1 := HX.out.c1
        have x2 := HX.out.c2
        have x3 := HX.out.c3
        have x4 := HX.out.c4
        go_wp2_with fail
        clear qc qD x0 x1 x2 x3 x4
        refine (HCE.out _ _ _ _ _ Hc.out.2.2 Rtu.out).mono ?_
        rintro e V7 ⟨a7, c7, b7, d7, rfl, hr, hrow, g⟩
        replace Hc := Lib.hid (Hc.out.grown g)
        replace HD := Lib.hid (HD.out.grown g)
        replace HX := Lib.hid (HX.out.grown g)
        replace HI := Lib.hid (HI.out.grown g)
        replace Rla := Lib.hid (Rla.out.grown g)
        replace Rlb := Lib.hid (Rlb.out.grown g)
        replace Rtu := Lib.hid (Rtu.out.grown g)
        replace Rba := Lib.hid (Rba.out.grown g)
        replace Rno := Lib.hid (Rno.out.grown g)
        replace RlD := Lib.hid (RlD.out.grown g)
        replace HG := Lib.hid (World.grownBy.trans HG.out g)
        clear g
        have RlE := Lib.hid hrow
        clear hrow
        have qc := Hc.out.1
        have qD := HD.out.1
        have x0 := HX.out.c0
        have x1 := HX.out.c1
        have x2 := HX.out.c2
        have x3 := HX.out.c3
        have x4 := HX.out.c4
        go_upto_region 16 with fail
        clear qc qD x0 x1 x2 x3 x4
        have hb := CB.new hr
        have g := World.grownBy_alloc V7 (.cells #[.slice a7 gE.length c7] 32) none
        obtain ⟨V8, hV8⟩ : ∃ z, World.alloc V7 (.cells #[.slice a7 gE.length c7] 32) = z := ⟨_, rfl⟩
        rw [hV8] at g hb ⊢
        clear hV8 hr
        obtain ⟨bE, hbb⟩ : ∃ b, V7.heap.size = b := ⟨_, rfl⟩
        rw [hbb] at hb ⊢
        clear hbb
        replace Hc := Lib.hid (Hc.out.grown g)
        replace HD := Lib.hid (HD.out.grown g)
        replace HX := Lib.hid (HX.out.grown g)
        replace HI := Lib.hid (HI.out.grown g)
        replace Rla := Lib.hid (Rla.out.grown g)
        replace Rlb := Lib.hid (Rlb.out.grown g)
        replace Rtu := Lib.hid (Rtu.out.grown g)
        replace Rba := Lib.hid (Rba.out.grown g)
        replace Rno := Lib.hid (Rno.out.grown g)
        replace RlD := Lib.hid (RlD.out.grown g)
        replace RlE := Lib.hid (RlE.out.grown g)
        replace HG := Lib.hid (World.grownBy.trans HG.out g)
        clear g
        have HE := Lib.hid hb
        clear hb
        obtain ⟨rF, eF⟩ : ∃ rr9, (totalP 6 ba9).run g0 = rr9 := ⟨_, rfl⟩
        obtain ⟨gF, lF⟩ := rF
        have cT := costT9 ba9.length (by have := HLN.out.2.1; have := HB.out; omega)
        have dF := total_den eF HGD.out (by have := HL.out; omega) OBA.out (by have := HLN.out.2.1; have := HB.out; omega)
        have hF1 := dF.1.len
        have GF := Lib.hid (show Good gF ∧ gF.length ≤ 500 ∧ lF.length = k from ⟨dF.1.good, by have := HL.out; omega, by rw [dF.2.1, HLN.out.2.1]⟩)
        have DF := Lib.hid (dF.2.2 vals)
        have HCF := Lib.hid (fun (W : World) (a : Option Addr) (c : Nat) (b : Option Addr) (d : Nat) (hW : GatesW W a c g0) (hr : IntsW W b d ba9) => totalizer_n HLN.out.2.1 eF HGD.out OBA.out (by have := HLN.out.2.1; have := HB.out; omega) (by have := HL.out; omega) hW hr)
        clear eF dF hF1 cT
        have qc := Hc.out.1
        have qD := HD.out.1
        have qE := HE.out.1
        have x0 := HX.out.c0
        have x1 := HX.out.c1
        have x2 := HX.out.c2
        have x3 := HX.out.c3
        have x4 := HX.out.c4
        go_wp2_with fail
        clear qc qD qE x0 x1 x2 x3 x4
        refine (HCF.out _ _ _ _ _ Hc.out.2.2 Rba.out).mono ?_
        rintro e V9 ⟨a9, c9, b9, d9, rfl, hr, hrow, g⟩
        replace Hc := Lib.hid (Hc.out.grown g)
        replace HD := Lib.hid (HD.out.grown g)
        replace HE := Lib.hid (HE.out.grown g)
        replace HX := Lib.hid (HX.out.grown g)
        replace HI := Lib.hid (HI.out.grown g)
        replace Rla := Lib.hid (Rla.out.grown g)
        replace Rlb := Lib.hid (Rlb.out.grown g)
        replace Rtu := Lib.hid (Rtu.out.grown g)
        replace Rba := Lib.hid (Rba.out.grown g)
        replace Rno := Lib.hid (Rno.out.grown g)
        replace RlD := Lib.hid (RlD.out.grown g)
        replace RlE := Lib.hid (RlE.out.grown g)
        replace HG := Lib.hid (World.grownBy.trans HG.out g)
        clear g
        have RlF := Lib.hid hrow
        clear hrow
        have qc := Hc.out.1
        have qD := HD.out.1
        have qE := HE.out.1
        have x0 := HX.out.c0
        have x1 := HX.out.c1
        have x2 := HX.out.c2
        have x3 := HX.out.c3
        have x4 := HX.out.c4
        go_upto_region 17 with fail
        clear qc qD qE x0 x1 x2 x3 x4
        have hb := CB.new hr
        have g := World.grownBy_alloc V9 (.cells #[.slice a9 gF.length c9] 32) none
        obtain ⟨V10, hV10⟩ : ∃ z, World.alloc V9 (.cells #[.slice a9 gF.length c9] 32) = z := ⟨_, rfl⟩
        rw [hV10] at g hb ⊢
        clear hV10 hr
        obtain ⟨bF, hbb⟩ : ∃ b, V9.heap.size = b := ⟨_, rfl⟩
        rw [hbb] at hb ⊢
        clear hbb
        replace Hc := Lib.hid (Hc.out.grown g)
        replace HD := Lib.hid (HD.out.grown g)
        replace HE := Lib.hid (HE.out.grown g)
        replace HX := Lib.hid (HX.out.grown g)
        replace HI := Lib.hid (HI.out.grown g)
        replace Rla := Lib.hid (Rla.out.grown g)
        replace Rlb := Lib.hid (Rlb.out.grown g)
        replace Rtu := Lib.hid (Rtu.out.grown g)
        replace Rba := Lib.hid (Rba.out.grown g)
        replace Rno := Lib.hid (Rno.out.grown g)
        replace RlD := Lib.hid (RlD.out.grown g)
        replace RlE := Lib.hid (RlE.out.grown g)
        replace RlF := Lib.hid (RlF.out.grown g)
        replace HG := Lib.hid (World.grownBy.trans HG.out g)
        clear g
        have HF := Lib.hid hb
        clear hb
        obtain ⟨rJ, eJ⟩ : ∃ rr9, (sorterP no).run g0 = rr9 := ⟨_, rfl⟩
        obtain ⟨gJ, lJ⟩ := rJ
        have dJ := sorter_den eJ HGD.out (by have := HL.out; omega) ONO.out (by have := HLN.out.2.2; have := HB.out; omega)
        have hJ1 := dJ.1.len
        have GJ := Lib.hid (show Good gJ ∧ gJ.length ≤ 500 ∧ lJ.length = k from ⟨dJ.1.good, by have := HL.out; omega, by rw [dJ.2.1, HLN.out.2.2]⟩)
        have DJ := Lib.hid (dJ.2.2 vals)
        have HCJ := Lib.hid (fun (W : World) (a : Option Addr) (c : Nat) (b : Option Addr) (d : Nat) (hW : GatesW W a c g0) (hr : IntsW W b d no) => sorter_n HLN.out.2.2 eJ HGD.out (by have := HL.out; omega) ONO.out (by have := HLN.out.2.2; have := HB.out; omega) hW hr)
        clear eJ dJ hJ1
        have qc := Hc.out.1
        have qD := HD.out.1
        have qE := HE.out.1
        have qF := HF.out.1
        have x0 := HX.out.c0
        have x1 := HX.out.c1
        have x2 := HX.out.c2
        have x3 := HX.out.c3
        have x4 := HX.out.c4
        go_wp2_with fail
        clear qc qD qE qF x0 x1 x2 x3 x4
        refine (HCJ.out _ _ _ _ _ Hc.out.2.2 Rno.out).mono ?_
        rintro e V11 ⟨a11, c11, b11, d11, rfl, hr, hrow, g⟩
        replace Hc := Lib.hid (Hc.out.grown g)
        replace HD := Lib.hid (HD.out.grown g)
        replace HE := Lib.hid (HE.out.grown g)
        replace HF := Lib.hid (HF.out.grown g)
        replace HX := Lib.hid (HX.out.grown g)
        replace HI := Lib.hid (HI.out.grown g)
        replace Rla := Lib.hid (Rla.out.grown g)
        replace Rlb := Lib.hid (Rlb.out.grown g)
        replace Rtu := Lib.hid (Rtu.out.grown g)
        replace Rba := Lib.hid (Rba.out.grown g)
        replace Rno := Lib.hid (Rno.out.grown g)
        replace RlD := Lib.hid (RlD.out.grown g)
        replace RlE := Lib.hid (RlE.out.grown g)
        replace RlF := Lib.hid (RlF.out.grown g)
        replace HG := Lib.hid (World.grownBy.trans HG.out g)
        clear g
        have RlJ := Lib.hid hrow
        clear hrow
        have qc := Hc.out.1
        have qD := HD.out.1
        have qE := HE.out.1
        have qF := HF.out.1
        have x0 := HX.out.c0
        have x1 := HX.out.c1
        have x2 := HX.out.c2
        have x3 := HX.out.c3
        have x4 := HX.out.c4
        go_upto_region 18 with fail
        clear qc qD qE qF x0 x1 x2 x3 x4
        have hb := CB.new hr
        have g := World.grownBy_alloc V11 (.cells #[.slice a11 gJ.length c11] 32) none
        obtain ⟨V12, hV12⟩ : ∃ z, World.alloc V11 (.cells #[.slice a11 gJ.length c11] 32) = z := ⟨_, rfl⟩
        rw [hV12] at g hb ⊢
        clear hV12 hr
        obtain ⟨bJ, hbb⟩ : ∃ b, V11.heap.size = b := ⟨_, rfl⟩
        rw [hbb] at hb ⊢
        clear hbb
        replace Hc := Lib.hid (Hc.out.grown g)
        replace HD := Lib.hid (HD.out.grown g)
        replace HE := Lib.hid (HE.out.grown g)
        replace HF := Lib.hid (HF.out.grown g)
        replace HX := Lib.hid (HX.out.grown g)
        replace HI := Lib.hid (HI.out.grown g)
        replace Rla := Lib.hid (Rla.out.grown g)
        replace Rlb := Lib.hid (Rlb.out.grown g)
        replace Rtu := Lib.hid (Rtu.out.grown g)
        replace Rba := Lib.hid (Rba.out.grown g)
        replace Rno := Lib.hid (Rno.out.grown g)
        replace RlD := Lib.hid (RlD.out.grown g)
        replace RlE := Lib.hid (RlE.out.grown g)
        replace RlF := Lib.hid (RlF.out.grown g)
        replace RlJ := Lib.hid (RlJ.out.grown g)
        replace HG := Lib.hid (World.grownBy.trans HG.out g)
        clear g
        have HJ := Lib.hid hb
        clear hb
        obtain ⟨rK, eK⟩ : ∃ rr9, (totalP 6 no).run g0 = rr9 := ⟨_, rfl⟩
        obtain ⟨gK, lK⟩ := rK
        have cT := costT9 no.length (by have := HLN.out.2.2; have := HB.out; omega)
        have dK := total_den eK HGD.out (by have := HL.out; omega) ONO.out (by have := HLN.out.2.2; have := HB.out; omega)
        have hK1 := dK.1.len
        have GK := Lib.hid (show Good gK ∧ gK.length ≤ 500 ∧ lK.length = k from ⟨dK.1.good, by have := HL.out; omega, by rw [dK.2.1, HLN.out.2.2]⟩)
        have DK := Lib.hid (dK.2.2 vals)
        have HCK := Lib.hid (fun (W : World) (a : Option Addr) (c : Nat) (b : Option Addr) (d : Nat) (hW : GatesW W a c g0) (hr : IntsW W b d no) => totalizer_n HLN.out.2.2 eK HGD.out ONO.out (by have := HLN.out.2.2; have := HB.out; omega) (by have := HL.out; omega) hW hr)
        clear eK dK hK1 cT
        have qc := Hc.out.1
        have qD := HD.out.1
        have qE := HE.out.1
        have qF := HF.out.1
        have qJ := HJ.out.1
        have x0 := HX.out.c0
        have x1 := HX.out.c1
        have x2 := HX.out.c2
        have x3 := HX.out.c3
        have x4 := HX.out.c4
        go_wp2_with fail
        clear qc qD qE qF qJ x0 x1 x2 x3 x4
        refine (HCK.out _ _ _ _ _ Hc.out.2.2 Rno.out).mono ?_
        rintro e V13 ⟨a13, c13, b13, d13, rfl, hr, hrow, g⟩
        replace Hc := Lib.hid (Hc.out.grown g)
        replace HD := Lib.hid (HD.out.grown g)
        replace HE := Lib.hid (HE.out.grown g)
        replace HF := Lib.hid (HF.out.grown g)
        replace HJ := Lib.hid (HJ.out.grown g)
        replace HX := Lib.hid (HX.out.grown g)
        replace HI := Lib.hid (HI.out.grown g)
        replace Rla := Lib.hid (Rla.out.grown g)
        replace Rlb := Lib.hid (Rlb.out.grown g)
        replace Rtu := Lib.hid (Rtu.out.grown g)
        replace Rba := Lib.hid (Rba.out.grown g)
        replace Rno := Lib.hid (Rno.out.grown g)
        replace RlD := Lib.hid (RlD.out.grown g)
        replace RlE := Lib.hid (RlE.out.grown g)
        replace RlF := Lib.hid (RlF.out.grown g)
        replace RlJ := Lib.hid (RlJ.out.grown g)
        replace HG := Lib.hid (World.grownBy.trans HG.out g)
        clear g
        have RlK := Lib.hid hrow
        clear hrow
        have qc := Hc.out.1
        have qD := HD.out.1
        have qE := HE.out.1
        have qF := HF.out.1
        have qJ := HJ.out.1
        have x0 := HX.out.c0
        have x1 := HX.out.c1
        have x2 := HX.out.c2
        have x3 := HX.out.c3
        have x4 := HX.out.c4
        go_upto_region 19 with fail
        clear qc qD qE qF qJ x0 x1 x2 x3 x4
        have hb := CB.new hr
        have g := World.grownBy_alloc V13 (.cells #[.slice a13 gK.length c13] 32) none
        obtain ⟨V14, hV14⟩ : ∃ z, World.alloc V13 (.cells #[.slice a13 gK.length c13] 32) = z := ⟨_, rfl⟩
        rw [hV14] at g hb ⊢
        clear hV14 hr
        obtain ⟨bK, hbb⟩ : ∃ b, V13.heap.size = b := ⟨_, rfl⟩
        rw [hbb] at hb ⊢
        clear hbb
        replace Hc := Lib.hid (Hc.out.grown g)
        replace HD := Lib.hid (HD.out.grown g)
        replace HE := Lib.hid (HE.out.grown g)
        replace HF := Lib.hid (HF.out.grown g)
        replace HJ := Lib.hid (HJ.out.grown g)
        replace HX := Lib.hid (HX.out.grown g)
        replace HI := Lib.hid (HI.out.grown g)
        replace Rla := Lib.hid (Rla.out.grown g)
        replace Rlb := Lib.hid (Rlb.out.grown g)
        replace Rtu := Lib.hid (Rtu.out.grown g)
        replace Rba := Lib.hid (Rba.out.grown g)
        replace Rno := Lib.hid (Rno.out.grown g)
        replace RlD := Lib.hid (RlD.out.grown g)
        replace RlE := Lib.hid (RlE.out.grown g)
        replace RlF := Lib.hid (RlF.out.grown g)
        replace RlJ := Lib.hid (RlJ.out.grown g)
        replace RlK := Lib.hid (RlK.out.grown g)
        replace HG := Lib.hid (World.grownBy.trans HG.out g)
        clear g
        have HK := Lib.hid hb
        clear hb
        have fe : (((k : Nat) : Int) == ((k : Nat) : Int)) = true := by simp
        have fe2 : (k == k) = true := by simp
        have qc := Hc.out.1
        have qD := HD.out.1
        have qE := HE.out.1
        have qF := HF.out.1
        have qJ := HJ.out.1
        have qK := HK.out.1
        have x0 := HX.out.c0
        have x1 := HX.out.c1
        have x2 := HX.out.c2
        have x3 := HX.out.c3
        have x4 := HX.out.c4
        go_upto_region 21 with fail
        clear qc qD qE qF qJ qK x0 x1 x2 x3 x4
        clear fe fe2
        have HNV := Lib.hid HN.out.2.2.2
        have HV20 := Lib.hid (show vals.length ≤ 1000 from by have := HN.out.2.2.2; have := HGN.out.2.2.2; omega)
        have qc := Hc.out.1
        have qD := HD.out.1
        have qE := HE.out.1
        have qF := HF.out.1
        have qJ := HJ.out.1
        have qK := HK.out.1
        have x0 := HX.out.c0
        have x1 := HX.out.c1
        have x2 := HX.out.c2
        have x3 := HX.out.c3
        have x4 := HX.out.c4
        go_wp2_with fail
        clear qc qD qE qF qJ qK x0 x1 x2 x3 x4
        have HGV := Lib.hid HG.out
        go_loopg [23] k (fun gk s23 wr => ∃ i : Nat, s23 = .int .i64 (i : Int) ∧ gk = k - i ∧ i ≤ k ∧ V14.grownBy wr none)
        case atStart => exact ⟨0, rfl, rfl, Nat.zero_le _, grown_refl _ _⟩
        case round =>
          obtain ⟨i, rfl, hgi, hik, hgr2⟩ := hrel
          have HI3 := Lib.hid hgi; clear hgi
          obtain ⟨U2, hU2⟩ : ∃ z, z = wr := ⟨_, rfl⟩
          rw [← hU2] at hgr2 ⊢
          clear hU2
          have HGQ := Lib.hid hgr2
          have Hcu := Lib.hid (Hc.out.grown hgr2)
          have HDu := Lib.hid (HD.out.grown hgr2)
          have HEu := Lib.hid (HE.out.grown hgr2)
          have HFu := Lib.hid (HF.out.grown hgr2)
          have HJu := Lib.hid (HJ.out.grown hgr2)
          have HKu := Lib.hid (HK.out.grown hgr2)
          have HXu := Lib.hid (HX.out.grown hgr2)
          have HIu := Lib.hid (HI.out.grown hgr2)
          have Rlau := Lib.hid (Rla.out.grown hgr2)
          have Rlbu := Lib.hid (Rlb.out.grown hgr2)
          have Rtuu := Lib.hid (Rtu.out.grown hgr2)
          have Rbau := Lib.hid (Rba.out.grown hgr2)
          have Rnou := Lib.hid (Rno.out.grown hgr2)
          have RlDu := Lib.hid (RlD.out.grown hgr2)
          have RlEu := Lib.hid (RlE.out.grown hgr2)
          have RlFu := Lib.hid (RlF.out.grown hgr2)
          have RlJu := Lib.hid (RlJ.out.grown hgr2)
          have RlKu := Lib.hid (RlK.out.grown hgr2)
          clear hgr2
          by_cases hin : i < k
          · have f1 : decide (i < k) = true := decide_eq_true hin
            have f2 : decide ((i : Int) < (k : Int)) = true := decide_eq_true (by omega)
            have hb9 := HB.out
            have hk1 : IntKind.i64.wrap ((i : Int) + 1) = ((i + 1 : Nat) : Int) := by rw [IntWalk.i64_in _ (by omega)]; omega
            have hj0 : (0 : Int) ≤ (i : Int) := by omega
            have hj1 : (i : Int) < (k : Int) := by omega
            obtain ⟨u, hu⟩ : ∃ u, k - 1 - i = u := ⟨_, rfl⟩
            obtain ⟨n1, hn1⟩ : ∃ z, k - 1 = z := ⟨_, rfl⟩
            have w3 : IntKind.i64.wrap ((k : Int) - 1) = (n1 : Int) := by rw [IntWalk.i64_in _ (by omega)]; omega
            have w4 : IntKind.i64.wrap ((n1 : Int) - (i : Int)) = (u : Int) := by rw [IntWalk.i64_in _ (by omega)]; omega
            have u0 : (0 : Int) ≤ (u : Int) := by omega
            have u1 : (u : Int) < (k : Int) := by omega
            obtain ⟨yv, hyv⟩ : ∃ p, decide (i < cnt) = p := ⟨_, rfl⟩
            obtain ⟨xD, hx⟩ : ∃ x, lD[i]? = some x := ⟨_, List.getElem?_eq_getElem (by have := GD.out.2.2; omega)⟩
            have FD := Lib.hid (show evalC gD vals xD = yv from by rw [DD.out.at hx, HVN.out.2.2.2, ← hyv])
            have XD := Lib.hid (show xD ≤ 9223372036854775807 from ok_i64 (by have := GD.out.2.1; omega) (DD.out.2.2 _ (List.mem_of_getElem? hx)))
            obtain ⟨bDy, oDy, hbDy, yD⟩ := RlDu.out.at hx
            have YD := Lib.hid yD
            have EDy := Lib.hid hbDy
            clear hx yD hbDy
            obtain ⟨xE, hx⟩ : ∃ x, lE[i]? = some x := ⟨_, List.getElem?_eq_getElem (by have := GE.out.2.2; omega)⟩
            have FE := Lib.hid (show evalC gE vals xE = yv from by rw [DE.out.at hx, HVN.out.1 (by omega), ← hyv])
            have XE := Lib.hid (show xE ≤ 9223372036854775807 from ok_i64 (by have := GE.out.2.1; omega) (DE.out.2.2 _ (List.mem_of_getElem? hx)))
            obtain ⟨bEy, oEy, hbEy, yE⟩ := RlEu.out.at hx
            have YE := Lib.hid yE
            have EEy := Lib.hid hbEy
            clear hx yE hbEy
            obtain ⟨xF, hx⟩ : ∃ x, lF[i]? = some x := ⟨_, List.getElem?_eq_getElem (by have := GF.out.2.2; omega)⟩
            have FF := Lib.hid (show evalC gF vals xF = yv from by rw [DF.out.at hx, HVN.out.2.1, ← hyv])
            have XF := Lib.hid (show xF ≤ 9223372036854775807 from ok_i64 (by have := GF.out.2.1; omega) (DF.out.2.2 _ (List.mem_of_getElem? hx)))
            obtain ⟨bFy, oFy, hbFy, yF⟩ := RlFu.out.at hx
            have YF := Lib.hid yF
            have EFy := Lib.hid hbFy
            clear hx yF hbFy
            obtain ⟨xJ, hx⟩ : ∃ x, lJ[u]? = some x := ⟨_, List.getElem?_eq_getElem (by have := GJ.out.2.2; omega)⟩
            have FJ := Lib.hid (show evalC gJ vals xJ = !yv from by rw [DJ.out.at hx, ← hyv, ← decide_not]; exact decide_eq_decide.2 (by have := HVN.out.2.2.1; omega))
            have XJ := Lib.hid (show xJ ≤ 9223372036854775807 from ok_i64 (by have := GJ.out.2.1; omega) (DJ.out.2.2 _ (List.mem_of_getElem? hx)))
            obtain ⟨bJy, oJy, hbJy, yJ⟩ := RlJu.out.at hx
            have YJ := Lib.hid yJ
            have EJy := Lib.hid hbJy
            clear hx yJ hbJy
            obtain ⟨xK, hx⟩ : ∃ x, lK[u]? = some x := ⟨_, List.getElem?_eq_getElem (by have := GK.out.2.2; omega)⟩
            have FK := Lib.hid (show evalC gK vals xK = !yv from by rw [DK.out.at hx, ← hyv, ← decide_not]; exact decide_eq_decide.2 (by have := HVN.out.2.2.1; omega))
            have XK := Lib.hid (show xK ≤ 9223372036854775807 from ok_i64 (by have := GK.out.2.1; omega) (DK.out.2.2 _ (List.mem_of_getElem? hx)))
            obtain ⟨bKy, oKy, hbKy, yK⟩ := RlKu.out.at hx
            have YK := Lib.hid yK
            have EKy := Lib.hid hbKy
            clear hx yK hbKy
            clear hyv hu hn1
            rw [EDy.out]
            rw [EEy.out]
            rw [EFy.out]
            rw [EJy.out]
            rw [EKy.out]
            have q3 := HXu.out.c3
            go_upto_region 24 with fail
            clear f1 f2
            clear q3
            go_cut [24] (fun s0 wx => s0 = .bool yv ∧ U2.grownBy wx none)
            case first =>
              have HS := Lib.hid (fun (Wh : World) (hWh : U2.grownBy Wh none) => (⟨hWh, hWh.cell HDu.out.1 (by simp), hWh.cell HXu.out.c3 (by simp), hWh.cell YD.out (by simp)⟩ : (fun Wh : World => U2.grownBy Wh none ∧ Wh.cell? ⟨bD, 0, none⟩ = some (.slice a5 gD.length c5) ∧ Wh.cell? ⟨bX, 3, none⟩ = some (.slice va nv vc) ∧ Wh.cell? ⟨bDy, oDy + i, none⟩ = some (.int .i64 xD)) Wh))
              have hdr : U2.grownBy U2.drew none := ⟨rfl, rfl, rfl, Nat.le_refl _, fun _ _ _ => rfl⟩
              refine wp_region_held_drew (S := (fun Wh : World => U2.grownBy Wh none ∧ Wh.cell? ⟨bD, 0, none⟩ = some (.slice a5 gD.length c5) ∧ Wh.cell? ⟨bX, 3, none⟩ = some (.slice va nv vc) ∧ Wh.cell? ⟨bDy, oDy + i, none⟩ = some (.int .i64 xD))) (by kernel_rfl) (HS.out _ hdr) (fun hHeld => ?_)
              refine wpAnyH_take (i := 0) (oi := { dst := some 146, op := Op.load 32 (Operand.tmp 13), type := 32, pos := "law.go:199", after := #[], guard := none }) (v := ?_) rfl (by kernel_rfl) (by kernel_rfl) (by kernel_rfl) (fun _ _ _ h => h) (Or.inl ⟨by rfl, ?_⟩) (by assumption) ?_
              rotate_left 1
              · (intro W hSW; (try dsimp only at hSW); first | (go_simp; done) | (go_simp; with_reducible rfl))
              try simp only [Act.put, List.setIfInBounds_toArray, List.set_cons_zero, List.set_cons_succ]
              refine wpAnyH_take (i := 1) (oi := { dst := some 147, op := Op.fieldAddr 27 (Operand.tmp 2) 3, type := 0, pos := "law.go:199", after := #[], guard := none }) (v := ?_) rfl (by kernel_rfl) (by kernel_rfl) (by kernel_rfl) (fun _ _ _ h => h) (Or.inl ⟨by rfl, ?_⟩) (by assumption) ?_
              rotate_left 1
              · (intro W hSW; (try dsimp only at hSW); first | (go_simp; done) | (go_simp; with_reducible rfl))
              try simp only [Act.put, List.setIfInBounds_toArray, List.set_cons_zero, List.set_cons_succ]
              refine wpAnyH_take (i := 2) (oi := { dst := some 148, op := Op.load 24 (Operand.tmp 147), type := 24, pos := "law.go:199", after := #[{ on := 1, ground := Ground.data }], guard := none }) (v := ?_) rfl (by kernel_rfl) (by kernel_rfl) (by kernel_rfl) (fun _ _ _ h => h) (Or.inl ⟨by rfl, ?_⟩) (by assumption) ?_
              rotate_left 1
              · (intro W hSW; (try dsimp only at hSW); first | (go_simp; done) | (go_simp; with_reducible rfl))
              try simp only [Act.put, List.setIfInBounds_toArray, List.set_cons_zero, List.set_cons_succ]
              refine wpAnyH_take (i := 3) (oi := { dst := some 149, op := Op.move (Operand.tmp 14), type := 33, pos := "law.go:199", after := #[], guard := none }) (v := ?_) rfl (by kernel_rfl) (by kernel_rfl) (by kernel_rfl) (fun _ _ _ h => h) (Or.inl ⟨by rfl, ?_⟩) (by assumption) ?_
              rotate_left 1
              · (intro W hSW; (try dsimp only at hSW); first | (go_simp; done) | (go_simp; with_reducible rfl))
              try simp only [Act.put, List.setIfInBounds_toArray, List.set_cons_zero, List.set_cons_succ]
              refine wpAnyH_take (i := 4) (oi := { dst := some 150, op := Op.move (Operand.tmp 23), type := 3, pos := "law.go:199", after := #[], guard := none }) (v := ?_) rfl (by kernel_rfl) (by kernel_rfl) (by kernel_rfl) (fun _ _ _ h => h) (Or.inl ⟨by rfl, ?_⟩) (by assumption) ?_
              rotate_left 1
              · (intro W hSW; (try dsimp only at hSW); first | (go_simp; done) | (go_simp; with_reducible rfl))
              try simp only [Act.put, List.setIfInBounds_toArray, List.set_cons_zero, List.set_cons_succ]
              refine wpAnyH_take (i := 5) (oi := { dst := some 151, op := Op.indexAddr 33 (Operand.tmp 149) (Operand.tmp 150), type := 0, pos := "law.go:199", after := #[{ on := 3, ground := Ground.data }, { on := 4, ground := Ground.data }], guard := none }) (v := ?_) rfl (by kernel_rfl) (by kernel_rfl) (by kernel_rfl) (fun _ _ _ h => h) (Or.inl ⟨by rfl, ?_⟩) (by assumption) ?_
              rotate_left 1
              · (intro W hSW; (try dsimp only at hSW); first | (go_simp; done) | (go_simp; with_reducible rfl))
              try simp only [Act.put, List.setIfInBounds_toArray, List.set_cons_zero, List.set_cons_succ]
              refine wpAnyH_take (i := 6) (oi := { dst := some 152, op := Op.load 3 (Operand.tmp 151), type := 3, pos := "law.go:199", after := #[{ on := 5, ground := Ground.data }], guard := none }) (v := ?_) rfl (by kernel_rfl) (by kernel_rfl) (by kernel_rfl) (fun _ _ _ h => h) (Or.inl ⟨by rfl, ?_⟩) (by assumption) ?_
              rotate_left 1
              · (intro W hSW; (try dsimp only at hSW); first | (go_simp; done) | (go_simp; with_reducible rfl))
              try simp only [Act.put, List.setIfInBounds_toArray, List.set_cons_zero, List.set_cons_succ]
              refine wpAnyH_ready (rs := [7]) (by kernel_rfl) (by simp) ?_
              refine (AllReadyH.cons (o := { dst := some 153, op := Op.call { callee := Callee.value (Operand.func 18), args := #[Operand.tmp 146, Operand.tmp 148, Operand.tmp 152], argTypes := #[32, 24, 3] }, type := 4, pos := "law.go:199", after := #[{ on := 0, ground := Ground.data }, { on := 2, ground := Ground.data }, { on := 6, ground := Ground.data }], guard := none }) rfl (fun K hK => ?_) AllReadyH.nil)
              rw [if_pos (by rfl)]
              go_simp
              go_at_call 18
              refine (reval_n gD vals xD yv HNV.out FD.out (by have := GD.out.2.1; omega) HV20.out GD.out.1 XD.out ((HDu.out.grown hdr).2.2) (HIu.out.v.grown hdr)).mono ?_
              rintro e wc1 ⟨rfl, gc1⟩
              have hgr1 := World.grownBy.trans hdr gc1
              go_wp2_with fail
              refine hK.out _ _ (HS.out _ hgr1) (fun hHeld => ?_)
              clear hK K
              try simp only [Act.put, List.setIfInBounds_toArray, List.set_cons_zero, List.set_cons_succ]
              refine wpAnyH_take (i := 8) (oi := { dst := some 24, op := Op.assign (Operand.tmp 153), type := 4, pos := "law.go:199", after := #[{ on := 7, ground := Ground.data }, { on := 7, ground := Ground.chain }, { on := 0, ground := Ground.phase }, { on := 1, ground := Ground.phase }, { on := 2, ground := Ground.phase }, { on := 3, ground := Ground.phase }, { on := 4, ground := Ground.phase }, { on := 5, ground := Ground.phase }, { on := 6, ground := Ground.phase }, { on := 7, ground := Ground.phase }], guard := none }) (v := ?_) rfl (by kernel_rfl) (by kernel_rfl) (by kernel_rfl) (fun _ _ _ h => h) (Or.inl ⟨by rfl, ?_⟩) (by assumption) ?_
              rotate_left 1
              · (intro W hSW; (try dsimp only at hSW); first | (go_simp; done) | (go_simp; with_reducible rfl))
              try simp only [Act.put, List.setIfInBounds_toArray, List.set_cons_zero, List.set_cons_succ]
              refine wpAnyH_done (by kernel_rfl) ?_ _
              have hEND := hgr1
              clear hHeld
              go_wp2_with fail
              go_meet
              exact ⟨rfl, hEND⟩
            obtain ⟨rfl, g⟩ := hcut
            obtain ⟨U3, rfl⟩ : ∃ z, z = wc := ⟨_, rfl⟩
            have HG24 := Lib.hid g
            clear g
            go_upto_region 26 with fail

            cases yv with
            | true =>
              have HS := Lib.hid (fun (Wh : World) (hWh : U3.grownBy Wh none) => (⟨hWh, hWh.cell (HG24.out.cell HEu.out.1 (by simp)) (by simp), hWh.cell (HG24.out.cell HFu.out.1 (by simp)) (by simp), hWh.cell (HG24.out.cell HJu.out.1 (by simp)) (by simp), hWh.cell (HG24.out.cell HKu.out.1 (by simp)) (by simp), hWh.cell (HG24.out.cell HXu.out.c3 (by simp)) (by simp), hWh.cell (HG24.out.cell YE.out (by simp)) (by simp), hWh.cell (HG24.out.cell YF.out (by simp)) (by simp), hWh.cell (HG24.out.cell YJ.out (by simp)) (by simp), hWh.cell (HG24.out.cell YK.out (by simp)) (by simp)⟩ : (fun Wh : World => U3.grownBy Wh none ∧ Wh.cell? ⟨bE, 0, none⟩ = some (.slice a7 gE.length c7) ∧ Wh.cell? ⟨bF, 0, none⟩ = some (.slice a9 gF.length c9) ∧ Wh.cell? ⟨bJ, 0, none⟩ = some (.slice a11 gJ.length c11) ∧ Wh.cell? ⟨bK, 0, none⟩ = some (.slice a13 gK.length c13) ∧ Wh.cell? ⟨bX, 3, none⟩ = some (.slice va nv vc) ∧ Wh.cell? ⟨bEy, oEy + i, none⟩ = some (.int .i64 xE) ∧ Wh.cell? ⟨bFy, oFy + i, none⟩ = some (.int .i64 xF) ∧ Wh.cell? ⟨bJy, oJy + u, none⟩ = some (.int .i64 xJ) ∧ Wh.cell? ⟨bKy, oKy + u, none⟩ = some (.int .i64 xK)) Wh))
              have hdr : U3.grownBy U3.drew none := ⟨rfl, rfl, rfl, Nat.le_refl _, fun _ _ _ => rfl⟩
              refine wp_region_held_drew (S := (fun Wh : World => U3.grownBy Wh none ∧ Wh.cell? ⟨bE, 0, none⟩ = some (.slice a7 gE.length c7) ∧ Wh.cell? ⟨bF, 0, none⟩ = some (.slice a9 gF.length c9) ∧ Wh.cell? ⟨bJ, 0, none⟩ = some (.slice a11 gJ.length c11) ∧ Wh.cell? ⟨bK, 0, none⟩ = some (.slice a13 gK.length c13) ∧ Wh.cell? ⟨bX, 3, none⟩ = some (.slice va nv vc) ∧ Wh.cell? ⟨bEy, oEy + i, none⟩ = some (.int .i64 xE) ∧ Wh.cell? ⟨bFy, oFy + i, none⟩ = some (.int .i64 xF) ∧ Wh.cell? ⟨bJy, oJy + u, none⟩ = some (.int .i64 xJ) ∧ Wh.cell? ⟨bKy, oKy + u, none⟩ = some (.int .i64 xK))) (by kernel_rfl) (HS.out _ hdr) (fun hHeld => ?_)
              refine wpAnyH_take (i := 0) (oi := { dst := some 159, op := Op.load 32 (Operand.tmp 15), type := 32, pos := "law.go:201", after := #[], guard := none }) (v := ?_) rfl (by kernel_rfl) (by kernel_rfl) (by kernel_rfl) (fun _ _ _ h => h) (Or.inl ⟨by rfl, ?_⟩) (by assumption) ?_
              rotate_left 1
              · (intro W hSW; (try dsimp only at hSW); first | (go_simp; done) | (go_simp; with_reducible rfl))
              try simp only [Act.put, List.setIfInBounds_toArray, List.set_cons_zero, List.set_cons_succ]
              refine wpAnyH_take (i := 1) (oi := { dst := some 160, op := Op.fieldAddr 27 (Operand.tmp 2) 3, type := 0, pos := "law.go:201", after := #[], guard := none }) (v := ?_) rfl (by kernel_rfl) (by kernel_rfl) (by kernel_rfl) (fun _ _ _ h => h) (Or.inl ⟨by rfl, ?_⟩) (by assumption) ?_
              rotate_left 1
              · (intro W hSW; (try dsimp only at hSW); first | (go_simp; done) | (go_simp; with_reducible rfl))
              try simp only [Act.put, List.setIfInBounds_toArray, List.set_cons_zero, List.set_cons_succ]
              refine wpAnyH_take (i := 2) (oi := { dst := some 161, op := Op.load 24 (Operand.tmp 160), type := 24, pos := "law.go:201", after := #[{ on := 1, ground := Ground.data }], guard := none }) (v := ?_) rfl (by kernel_rfl) (by kernel_rfl) (by kernel_rfl) (fun _ _ _ h => h) (Or.inl ⟨by rfl, ?_⟩) (by assumption) ?_
              rotate_left 1
              · (intro W hSW; (try dsimp only at hSW); first | (go_simp; done) | (go_simp; with_reducible rfl))
              try simp only [Act.put, List.setIfInBounds_toArray, List.set_cons_zero, List.set_cons_succ]
              refine wpAnyH_take (i := 3) (oi := { dst := some 162, op := Op.move (Operand.tmp 16), type := 33, pos := "law.go:201", after := #[], guard := none }) (v := ?_) rfl (by kernel_rfl) (by kernel_rfl) (by kernel_rfl) (fun _ _ _ h => h) (Or.inl ⟨by rfl, ?_⟩) (by assumption) ?_
              rotate_left 1
              · (intro W hSW; (try dsimp only at hSW); first | (go_simp; done) | (go_simp; with_reducible rfl))
              try simp only [Act.put, List.setIfInBounds_toArray, List.set_cons_zero, List.set_cons_succ]
              refine wpAnyH_take (i := 4) (oi := { dst := some 163, op := Op.move (Operand.tmp 23), type := 3, pos := "law.go:201", after := #[], guard := none }) (v := ?_) rfl (by kernel_rfl) (by kernel_rfl) (by kernel_rfl) (fun _ _ _ h => h) (Or.inl ⟨by rfl, ?_⟩) (by assumption) ?_
              rotate_left 1
              · (intro W hSW; (try dsimp only at hSW); first | (go_simp; done) | (go_simp; with_reducible rfl))
              try simp only [Act.put, List.setIfInBounds_toArray, List.set_cons_zero, List.set_cons_succ]
              refine wpAnyH_take (i := 5) (oi := { dst := some 164, op := Op.indexAddr 33 (Operand.tmp 162) (Operand.tmp 163), type := 0, pos := "law.go:201", after := #[{ on := 3, ground := Ground.data }, { on := 4, ground := Ground.data }], guard := none }) (v := ?_) rfl (by kernel_rfl) (by kernel_rfl) (by kernel_rfl) (fun _ _ _ h => h) (Or.inl ⟨by rfl, ?_⟩) (by assumption) ?_
              rotate_left 1
              · (intro W hSW; (try dsimp only at hSW); first | (go_simp; done) | (go_simp; with_reducible rfl))
              try simp only [Act.put, List.setIfInBounds_toArray, List.set_cons_zero, List.set_cons_succ]
              refine wpAnyH_take (i := 6) (oi := { dst := some 165, op := Op.load 3 (Operand.tmp 164), type := 3, pos := "law.go:201", after := #[{ on := 5, ground := Ground.data }], guard := none }) (v := ?_) rfl (by kernel_rfl) (by kernel_rfl) (by kernel_rfl) (fun _ _ _ h => h) (Or.inl ⟨by rfl, ?_⟩) (by assumption) ?_
              rotate_left 1
              · (intro W hSW; (try dsimp only at hSW); first | (go_simp; done) | (go_simp; with_reducible rfl))
              try simp only [Act.put, List.setIfInBounds_toArray, List.set_cons_zero, List.set_cons_succ]
              refine wpAnyH_take (i := 8) (oi := { dst := some 167, op := Op.move (Operand.tmp 24), type := 4, pos := "law.go:201", after := #[], guard := none }) (v := ?_) rfl (by kernel_rfl) (by kernel_rfl) (by kernel_rfl) (fun _ _ _ h => h) (Or.inl ⟨by rfl, ?_⟩) (by assumption) ?_
              rotate_left 1
              · (intro W hSW; (try dsimp only at hSW); first | (go_simp; done) | (go_simp; with_reducible rfl))
              try simp only [Act.put, List.setIfInBounds_toArray, List.set_cons_zero, List.set_cons_succ]
              refine wpAnyH_ready (rs := [7]) (by kernel_rfl) (by simp) ?_
              refine (AllReadyH.cons (o := { dst := some 166, op := Op.call { callee := Callee.value (Operand.func 18), args := #[Operand.tmp 159, Operand.tmp 161, Operand.tmp 165], argTypes := #[32, 24, 3] }, type := 4, pos := "law.go:201", after := #[{ on := 0, ground := Ground.data }, { on := 2, ground := Ground.data }, { on := 6, ground := Ground.data }], guard := none }) rfl (fun K hK => ?_) AllReadyH.nil)
              rw [if_pos (by rfl)]
              go_simp
              go_at_call 18
              refine (reval_n gE vals xE true HNV.out FE.out (by have := GE.out.2.1; omega) HV20.out GE.out.1 XE.out ((HEu.out.grown (World.grownBy.trans HG24.out hdr)).2.2) (HIu.out.v.grown (World.grownBy.trans HG24.out hdr))).mono ?_
              rintro e wc1 ⟨rfl, gc1⟩
              have hgr1 := World.grownBy.trans hdr gc1
              go_wp2_with fail
              refine hK.out _ _ (HS.out _ hgr1) (fun hHeld => ?_)
              clear hK K
              try simp only [Act.put, List.setIfInBounds_toArray, List.set_cons_zero, List.set_cons_succ]
              refine wpAnyH_take (i := 9) (oi := { dst := some 168, op := Op.binOp BinOp.neq 4 (Operand.tmp 166) (Operand.tmp 167) 4, type := 4, pos := "law.go:201", after := #[{ on := 7, ground := Ground.data }, { on := 8, ground := Ground.data }], guard := none }) (v := ?_) rfl (by kernel_rfl) (by kernel_rfl) (by kernel_rfl) (fun _ _ _ h => h) (Or.inl ⟨by rfl, ?_⟩) (by assumption) ?_
              rotate_left 1
              · (intro W hSW; (try dsimp only at hSW); first | (go_simp; done) | (go_simp; with_reducible rfl))
              try simp only [Act.put, List.setIfInBounds_toArray, List.set_cons_zero, List.set_cons_succ]
              refine wpAnyH_take (i := 10) (oi := { dst := some 169, op := Op.move (Operand.tmp 168), type := 4, pos := "law.go:201", after := #[{ on := 9, ground := Ground.data }, { on := 7, ground := Ground.chain }], guard := none }) (v := ?_) rfl (by kernel_rfl) (by kernel_rfl) (by kernel_rfl) (fun _ _ _ h => h) (Or.inl ⟨by rfl, ?_⟩) (by assumption) ?_
              rotate_left 1
              · (intro W hSW; (try dsimp only at hSW); first | (go_simp; done) | (go_simp; with_reducible rfl))
              try simp only [Act.put, List.setIfInBounds_toArray, List.set_cons_zero, List.set_cons_succ]
              refine wpAnyH_take (i := 11) (oi := { dst := some 170, op := Op.load 32 (Operand.tmp 17), type := 32, pos := "law.go:201", after := #[{ on := 10, ground := Ground.guard }], guard := some (10, false) }) (v := ?_) rfl (by kernel_rfl) (by kernel_rfl) (by kernel_rfl) (fun _ _ _ h => h) (Or.inl ⟨by rfl, ?_⟩) (by assumption) ?_
              rotate_left 1
              · (intro W hSW; (try dsimp only at hSW); first | (go_simp; done) | (go_simp; with_reducible rfl))
              try simp only [Act.put, List.setIfInBounds_toArray, List.set_cons_zero, List.set_cons_succ]
              refine wpAnyH_take (i := 12) (oi := { dst := some 171, op := Op.fieldAddr 27 (Operand.tmp 2) 3, type := 0, pos := "law.go:201", after := #[{ on := 10, ground := Ground.guard }], guard := some (10, false) }) (v := ?_) rfl (by kernel_rfl) (by kernel_rfl) (by kernel_rfl) (fun _ _ _ h => h) (Or.inl ⟨by rfl, ?_⟩) (by assumption) ?_
              rotate_left 1
              · (intro W hSW; (try dsimp only at hSW); first | (go_simp; done) | (go_simp; with_reducible rfl))
              try simp only [Act.put, List.setIfInBounds_toArray, List.set_cons_zero, List.set_cons_succ]
              refine wpAnyH_take (i := 13) (oi := { dst := some 172, op := Op.load 24 (Operand.tmp 171), type := 24, pos := "law.go:201", after := #[{ on := 12, ground := Ground.data }, { on := 10, ground := Ground.guard }], guard := some (10, false) }) (v := ?_) rfl (by kernel_rfl) (by kernel_rfl) (by kernel_rfl) (fun _ _ _ h => h) (Or.inl ⟨by rfl, ?_⟩) (by assumption) ?_
              rotate_left 1
              · (intro W hSW; (try dsimp only at hSW); first | (go_simp; done) | (go_simp; with_reducible rfl))
              try simp only [Act.put, List.setIfInBounds_toArray, List.set_cons_zero, List.set_cons_succ]
              refine wpAnyH_take (i := 14) (oi := { dst := some 173, op := Op.move (Operand.tmp 18), type := 33, pos := "law.go:201", after := #[{ on := 10, ground := Ground.guard }], guard := some (10, false) }) (v := ?_) rfl (by kernel_rfl) (by kernel_rfl) (by kernel_rfl) (fun _ _ _ h => h) (Or.inl ⟨by rfl, ?_⟩) (by assumption) ?_
              rotate_left 1
              · (intro W hSW; (try dsimp only at hSW); first | (go_simp; done) | (go_simp; with_reducible rfl))
              try simp only [Act.put, List.setIfInBounds_toArray, List.set_cons_zero, List.set_cons_succ]
              refine wpAnyH_take (i := 15) (oi := { dst := some 174, op := Op.move (Operand.tmp 23), type := 3, pos := "law.go:201", after := #[{ on := 10, ground := Ground.guard }], guard := some (10, false) }) (v := ?_) rfl (by kernel_rfl) (by kernel_rfl) (by kernel_rfl) (fun _ _ _ h => h) (Or.inl ⟨by rfl, ?_⟩) (by assumption) ?_
              rotate_left 1
              · (intro W hSW; (try dsimp only at hSW); first | (go_simp; done) | (go_simp; with_reducible rfl))
              try simp only [Act.put, List.setIfInBounds_toArray, List.set_cons_zero, List.set_cons_succ]
              refine wpAnyH_take (i := 16) (oi := { dst := some 175, op := Op.indexAddr 33 (Operand.tmp 173) (Operand.tmp 174), type := 0, pos := "law.go:201", after := #[{ on := 14, ground := Ground.data }, { on := 15, ground := Ground.data }, { on := 10, ground := Ground.guard }], guard := some (10, false) }) (v := ?_) rfl (by kernel_rfl) (by kernel_rfl) (by kernel_rfl) (fun _ _ _ h => h) (Or.inl ⟨by rfl, ?_⟩) (by assumption) ?_
              rotate_left 1
              · (intro W hSW; (try dsimp only at hSW); first | (go_simp; done) | (go_simp; with_reducible rfl))
              try simp only [Act.put, List.setIfInBounds_toArray, List.set_cons_zero, List.set_cons_succ]
              refine wpAnyH_take (i := 17) (oi := { dst := some 176, op := Op.load 3 (Operand.tmp 175), type := 3, pos := "law.go:201", after := #[{ on := 16, ground := Ground.data }, { on := 10, ground := Ground.guard }], guard := some (10, false) }) (v := ?_) rfl (by kernel_rfl) (by kernel_rfl) (by kernel_rfl) (fun _ _ _ h => h) (Or.inl ⟨by rfl, ?_⟩) (by assumption) ?_
              rotate_left 1
              · (intro W hSW; (try dsimp only at hSW); first | (go_simp; done) | (go_simp; with_reducible rfl))
              try simp only [Act.put, List.setIfInBounds_toArray, List.set_cons_zero, List.set_cons_succ]
              refine wpAnyH_take (i := 19) (oi := { dst := some 178, op := Op.move (Operand.tmp 24), type := 4, pos := "law.go:201", after := #[{ on := 10, ground := Ground.guard }], guard := some (10, false) }) (v := ?_) rfl (by kernel_rfl) (by kernel_rfl) (by kernel_rfl) (fun _ _ _ h => h) (Or.inl ⟨by rfl, ?_⟩) (by assumption) ?_
              rotate_left 1
              · (intro W hSW; (try dsimp only at hSW); first | (go_simp; done) | (go_simp; with_reducible rfl))
              try simp only [Act.put, List.setIfInBounds_toArray, List.set_cons_zero, List.set_cons_succ]
              refine wpAnyH_ready (rs := [18]) (by kernel_rfl) (by simp) ?_
              refine (AllReadyH.cons (o := { dst := some 177, op := Op.call { callee := Callee.value (Operand.func 18), args := #[Operand.tmp 170, Operand.tmp 172, Operand.tmp 176], argTypes := #[32, 24, 3] }, type := 4, pos := "law.go:201", after := #[{ on := 11, ground := Ground.data }, { on := 13, ground := Ground.data }, { on := 17, ground := Ground.data }, { on := 10, ground := Ground.chain }, { on := 10, ground := Ground.guard }], guard := some (10, false) }) rfl (fun K hK => ?_) AllReadyH.nil)
              rw [if_pos (by rfl)]
              go_simp
              go_at_call 18
              refine (reval_n gF vals xF true HNV.out FF.out (by have := GF.out.2.1; omega) HV20.out GF.out.1 XF.out ((HFu.out.grown (World.grownBy.trans HG24.out hgr1)).2.2) (HIu.out.v.grown (World.grownBy.trans HG24.out hgr1))).mono ?_
              rintro e wc2 ⟨rfl, gc2⟩
              have hgr2 := World.grownBy.trans hgr1 gc2
              go_wp2_with fail
              refine hK.out _ _ (HS.out _ hgr2) (fun hHeld => ?_)
              clear hK K
              try simp only [Act.put, List.setIfInBounds_toArray, List.set_cons_zero, List.set_cons_succ]
              refine wpAnyH_take (i := 20) (oi := { dst := some 179, op := Op.binOp BinOp.neq 4 (Operand.tmp 177) (Operand.tmp 178) 4, type := 4, pos := "law.go:201", after := #[{ on := 18, ground := Ground.data }, { on := 19, ground := Ground.data }, { on := 10, ground := Ground.guard }], guard := some (10, false) }) (v := ?_) rfl (by kernel_rfl) (by kernel_rfl) (by kernel_rfl) (fun _ _ _ h => h) (Or.inl ⟨by rfl, ?_⟩) (by assumption) ?_
              rotate_left 1
              · (intro W hSW; (try dsimp only at hSW); first | (go_simp; done) | (go_simp; with_reducible rfl))
              try simp only [Act.put, List.setIfInBounds_toArray, List.set_cons_zero, List.set_cons_succ]
              refine wpAnyH_take (i := 21) (oi := { dst := some 180, op := Op.pick (Operand.tmp 169) (Operand.const (Value.bool true)) (Operand.tmp 179), type := 4, pos := "law.go:201", after := #[{ on := 10, ground := Ground.data }, { on := 20, ground := Ground.data }], guard := none }) (v := ?_) rfl (by kernel_rfl) (by kernel_rfl) (by kernel_rfl) (fun _ _ _ h => h) (Or.inl ⟨by rfl, ?_⟩) (by assumption) ?_
              rotate_left 1
              · (intro W hSW; (try dsimp only at hSW); first | (go_simp; done) | (go_simp; with_reducible rfl))
              try simp only [Act.put, List.setIfInBounds_toArray, List.set_cons_zero, List.set_cons_succ]
              refine wpAnyH_take (i := 22) (oi := { dst := some 181, op := Op.move (Operand.tmp 180), type := 4, pos := "law.go:201", after := #[{ on := 21, ground := Ground.data }, { on := 18, ground := Ground.chain }], guard := none }) (v := ?_) rfl (by kernel_rfl) (by kernel_rfl) (by kernel_rfl) (fun _ _ _ h => h) (Or.inl ⟨by rfl, ?_⟩) (by assumption) ?_
              rotate_left 1
              · (intro W hSW; (try dsimp only at hSW); first | (go_simp; done) | (go_simp; with_reducible rfl))
              try simp only [Act.put, List.setIfInBounds_toArray, List.set_cons_zero, List.set_cons_succ]
              refine wpAnyH_take (i := 23) (oi := { dst := some 182, op := Op.load 32 (Operand.tmp 19), type := 32, pos := "law.go:201", after := #[{ on := 22, ground := Ground.guard }], guard := some (22, false) }) (v := ?_) rfl (by kernel_rfl) (by kernel_rfl) (by kernel_rfl) (fun _ _ _ h => h) (Or.inl ⟨by rfl, ?_⟩) (by assumption) ?_
              rotate_left 1
              · (intro W hSW; (try dsimp only at hSW); first | (go_simp; done) | (go_simp; with_reducible rfl))
              try simp only [Act.put, List.setIfInBounds_toArray, List.set_cons_zero, List.set_cons_succ]
              refine wpAnyH_take (i := 24) (oi := { dst := some 183, op := Op.fieldAddr 27 (Operand.tmp 2) 3, type := 0, pos := "law.go:201", after := #[{ on := 22, ground := Ground.guard }], guard := some (22, false) }) (v := ?_) rfl (by kernel_rfl) (by kernel_rfl) (by kernel_rfl) (fun _ _ _ h => h) (Or.inl ⟨by rfl, ?_⟩) (by assumption) ?_
              rotate_left 1
              · (intro W hSW; (try dsimp only at hSW); first | (go_simp; done) | (go_simp; with_reducible rfl))
              try simp only [Act.put, List.setIfInBounds_toArray, List.set_cons_zero, List.set_cons_succ]
              refine wpAnyH_take (i := 25) (oi := { dst := some 184, op := Op.load 24 (Operand.tmp 183), type := 24, pos := "law.go:201", after := #[{ on := 24, ground := Ground.data }, { on := 22, ground := Ground.guard }], guard := some (22, false) }) (v := ?_) rfl (by kernel_rfl) (by kernel_rfl) (by kernel_rfl) (fun _ _ _ h => h) (Or.inl ⟨by rfl, ?_⟩) (by assumption) ?_
              rotate_left 1
              · (intro W hSW; (try dsimp only at hSW); first | (go_simp; done) | (go_simp; with_reducible rfl))
              try simp only [Act.put, List.setIfInBounds_toArray, List.set_cons_zero, List.set_cons_succ]
              refine wpAnyH_take (i := 26) (oi := { dst := some 185, op := Op.move (Operand.tmp 20), type := 33, pos := "law.go:201", after := #[{ on := 22, ground := Ground.guard }], guard := some (22, false) }) (v := ?_) rfl (by kernel_rfl) (by kernel_rfl) (by kernel_rfl) (fun _ _ _ h => h) (Or.inl ⟨by rfl, ?_⟩) (by assumption) ?_
              rotate_left 1
              · (intro W hSW; (try dsimp only at hSW); first | (go_simp; done) | (go_simp; with_reducible rfl))
              try simp only [Act.put, List.setIfInBounds_toArray, List.set_cons_zero, List.set_cons_succ]
              refine wpAnyH_take (i := 27) (oi := { dst := some 186, op := Op.move (Operand.tmp 25), type := 3, pos := "law.go:201", after := #[{ on := 22, ground := Ground.guard }], guard := some (22, false) }) (v := ?_) rfl (by kernel_rfl) (by kernel_rfl) (by kernel_rfl) (fun _ _ _ h => h) (Or.inl ⟨by rfl, ?_⟩) (by assumption) ?_
              rotate_left 1
              · (intro W hSW; (try dsimp only at hSW); first | (go_simp; done) | (go_simp; with_reducible rfl))
              try simp only [Act.put, List.setIfInBounds_toArray, List.set_cons_zero, List.set_cons_succ]
              refine wpAnyH_take (i := 28) (oi := { dst := some 187, op := Op.indexAddr 33 (Operand.tmp 185) (Operand.tmp 186), type := 0, pos := "law.go:201", after := #[{ on := 26, ground := Ground.data }, { on := 27, ground := Ground.data }, { on := 22, ground := Ground.guard }], guard := some (22, false) }) (v := ?_) rfl (by kernel_rfl) (by kernel_rfl) (by kernel_rfl) (fun _ _ _ h => h) (Or.inl ⟨by rfl, ?_⟩) (by assumption) ?_
              rotate_left 1
              · (intro W hSW; (try dsimp only at hSW); first | (go_simp; done) | (go_simp; with_reducible rfl))
              try simp only [Act.put, List.setIfInBounds_toArray, List.set_cons_zero, List.set_cons_succ]
              refine wpAnyH_take (i := 29) (oi := { dst := some 188, op := Op.load 3 (Operand.tmp 187), type := 3, pos := "law.go:201", after := #[{ on := 28, ground := Ground.data }, { on := 22, ground := Ground.guard }], guard := some (22, false) }) (v := ?_) rfl (by kernel_rfl) (by kernel_rfl) (by kernel_rfl) (fun _ _ _ h => h) (Or.inl ⟨by rfl, ?_⟩) (by assumption) ?_
              rotate_left 1
              · (intro W hSW; (try dsimp only at hSW); first | (go_simp; done) | (go_simp; with_reducible rfl))
              try simp only [Act.put, List.setIfInBounds_toArray, List.set_cons_zero, List.set_cons_succ]
              refine wpAnyH_take (i := 31) (oi := { dst := some 190, op := Op.move (Operand.tmp 24), type := 4, pos := "law.go:201", after := #[{ on := 22, ground := Ground.guard }], guard := some (22, false) }) (v := ?_) rfl (by kernel_rfl) (by kernel_rfl) (by kernel_rfl) (fun _ _ _ h => h) (Or.inl ⟨by rfl, ?_⟩) (by assumption) ?_
              rotate_left 1
              · (intro W hSW; (try dsimp only at hSW); first | (go_simp; done) | (go_simp; with_reducible rfl))
              try simp only [Act.put, List.setIfInBounds_toArray, List.set_cons_zero, List.set_cons_succ]
              refine wpAnyH_ready (rs := [30]) (by kernel_rfl) (by simp) ?_
              refine (AllReadyH.cons (o := { dst := some 189, op := Op.call { callee := Callee.value (Operand.func 18), args := #[Operand.tmp 182, Operand.tmp 184, Operand.tmp 188], argTypes := #[32, 24, 3] }, type := 4, pos := "law.go:201", after := #[{ on := 23, ground := Ground.data }, { on := 25, ground := Ground.data }, { on := 29, ground := Ground.data }, { on := 22, ground := Ground.chain }, { on := 22, ground := Ground.guard }], guard := some (22, false) }) rfl (fun K hK => ?_) AllReadyH.nil)
              rw [if_pos (by rfl)]
              go_simp
              go_at_call 18
              refine (reval_n gJ vals xJ false HNV.out FJ.out (by have := GJ.out.2.1; omega) HV20.out GJ.out.1 XJ.out ((HJu.out.grown (World.grownBy.trans HG24.out hgr2)).2.2) (HIu.out.v.grown (World.grownBy.trans HG24.out hgr2))).mono ?_
              rintro e wc3 ⟨rfl, gc3⟩
              have hgr3 := World.grownBy.trans hgr2 gc3
              go_wp2_with fail
              refine hK.out _ _ (HS.out _ hgr3) (fun hHeld => ?_)
              clear hK K
              try simp only [Act.put, List.setIfInBounds_toArray, List.set_cons_zero, List.set_cons_succ]
              refine wpAnyH_take (i := 32) (oi := { dst := some 191, op := Op.binOp BinOp.eql 4 (Operand.tmp 189) (Operand.tmp 190) 4, type := 4, pos := "law.go:201", after := #[{ on := 30, ground := Ground.data }, { on := 31, ground := Ground.data }, { on := 22, ground := Ground.guard }], guard := some (22, false) }) (v := ?_) rfl (by kernel_rfl) (by kernel_rfl) (by kernel_rfl) (fun _ _ _ h => h) (Or.inl ⟨by rfl, ?_⟩) (by assumption) ?_
              rotate_left 1
              · (intro W hSW; (try dsimp only at hSW); first | (go_simp; done) | (go_simp; with_reducible rfl))
              try simp only [Act.put, List.setIfInBounds_toArray, List.set_cons_zero, List.set_cons_succ]
              refine wpAnyH_take (i := 33) (oi := { dst := some 192, op := Op.pick (Operand.tmp 181) (Operand.const (Value.bool true)) (Operand.tmp 191), type := 4, pos := "law.go:201", after := #[{ on := 22, ground := Ground.data }, { on := 32, ground := Ground.data }], guard := none }) (v := ?_) rfl (by kernel_rfl) (by kernel_rfl) (by kernel_rfl) (fun _ _ _ h => h) (Or.inl ⟨by rfl, ?_⟩) (by assumption) ?_
              rotate_left 1
              · (intro W hSW; (try dsimp only at hSW); first | (go_simp; done) | (go_simp; with_reducible rfl))
              try simp only [Act.put, List.setIfInBounds_toArray, List.set_cons_zero, List.set_cons_succ]
              refine wpAnyH_take (i := 34) (oi := { dst := some 193, op := Op.move (Operand.tmp 192), type := 4, pos := "law.go:201", after := #[{ on := 33, ground := Ground.data }, { on := 30, ground := Ground.chain }], guard := none }) (v := ?_) rfl (by kernel_rfl) (by kernel_rfl) (by kernel_rfl) (fun _ _ _ h => h) (Or.inl ⟨by rfl, ?_⟩) (by assumption) ?_
              rotate_left 1
              · (intro W hSW; (try dsimp only at hSW); first | (go_simp; done) | (go_simp; with_reducible rfl))
              try simp only [Act.put, List.setIfInBounds_toArray, List.set_cons_zero, List.set_cons_succ]
              refine wpAnyH_take (i := 35) (oi := { dst := some 194, op := Op.load 32 (Operand.tmp 21), type := 32, pos := "law.go:201", after := #[{ on := 34, ground := Ground.guard }], guard := some (34, false) }) (v := ?_) rfl (by kernel_rfl) (by kernel_rfl) (by kernel_rfl) (fun _ _ _ h => h) (Or.inl ⟨by rfl, ?_⟩) (by assumption) ?_
              rotate_left 1
              · (intro W hSW; (try dsimp only at hSW); first | (go_simp; done) | (go_simp; with_reducible rfl))
              try simp only [Act.put, List.setIfInBounds_toArray, List.set_cons_zero, List.set_cons_succ]
              refine wpAnyH_take (i := 36) (oi := { dst := some 195, op := Op.fieldAddr 27 (Operand.tmp 2) 3, type := 0, pos := "law.go:201", after := #[{ on := 34, ground := Ground.guard }], guard := some (34, false) }) (v := ?_) rfl (by kernel_rfl) (by kernel_rfl) (by kernel_rfl) (fun _ _ _ h => h) (Or.inl ⟨by rfl, ?_⟩) (by assumption) ?_
              rotate_left 1
              · (intro W hSW; (try dsimp only at hSW); first | (go_simp; done) | (go_simp; with_reducible rfl))
              try simp only [Act.put, List.setIfInBounds_toArray, List.set_cons_zero, List.set_cons_succ]
              refine wpAnyH_take (i := 37) (oi := { dst := some 196, op := Op.load 24 (Operand.tmp 195), type := 24, pos := "law.go:201", after := #[{ on := 36, ground := Ground.data }, { on := 34, ground := Ground.guard }], guard := some (34, false) }) (v := ?_) rfl (by kernel_rfl) (by kernel_rfl) (by kernel_rfl) (fun _ _ _ h => h) (Or.inl ⟨by rfl, ?_⟩) (by assumption) ?_
              rotate_left 1
              · (intro W hSW; (try dsimp only at hSW); first | (go_simp; done) | (go_simp; with_reducible rfl))
              try simp only [Act.put, List.setIfInBounds_toArray, List.set_cons_zero, List.set_cons_succ]
              refine wpAnyH_take (i := 38) (oi := { dst := some 197, op := Op.move (Operand.tmp 22), type := 33, pos := "law.go:201", after := #[{ on := 34, ground := Ground.guard }], guard := some (34, false) }) (v := ?_) rfl (by kernel_rfl) (by kernel_rfl) (by kernel_rfl) (fun _ _ _ h => h) (Or.inl ⟨by rfl, ?_⟩) (by assumption) ?_
              rotate_left 1
              · (intro W hSW; (try dsimp only at hSW); first | (go_simp; done) | (go_simp; with_reducible rfl))
              try simp only [Act.put, List.setIfInBounds_toArray, List.set_cons_zero, List.set_cons_succ]
              refine wpAnyH_take (i := 39) (oi := { dst := some 198, op := Op.move (Operand.tmp 25), type := 3, pos := "law.go:201", after := #[{ on := 34, ground := Ground.guard }], guard := some (34, false) }) (v := ?_) rfl (by kernel_rfl) (by kernel_rfl) (by kernel_rfl) (fun _ _ _ h => h) (Or.inl ⟨by rfl, ?_⟩) (by assumption) ?_
              rotate_left 1
              · (intro W hSW; (try dsimp only at hSW); first | (go_simp; done) | (go_simp; with_reducible rfl))
              try simp only [Act.put, List.setIfInBounds_toArray, List.set_cons_zero, List.set_cons_succ]
              refine wpAnyH_take (i := 40) (oi := { dst := some 199, op := Op.indexAddr 33 (Operand.tmp 197) (Operand.tmp 198), type := 0, pos := "law.go:201", after := #[{ on := 38, ground := Ground.data }, { on := 39, ground := Ground.data }, { on := 34, ground := Ground.guard }], guard := some (34, false) }) (v := ?_) rfl (by kernel_rfl) (by kernel_rfl) (by kernel_rfl) (fun _ _ _ h => h) (Or.inl ⟨by rfl, ?_⟩) (by assumption) ?_
              rotate_left 1
              · (intro W hSW; (try dsimp only at hSW); first | (go_simp; done) | (go_simp; with_reducible rfl))
              try simp only [Act.put, List.setIfInBounds_toArray, List.set_cons_zero, List.set_cons_succ]
              refine wpAnyH_take (i := 41) (oi := { dst := some 200, op := Op.load 3 (Operand.tmp 199), type := 3, pos := "law.go:201", after := #[{ on := 40, ground := Ground.data }, { on := 34, ground := Ground.guard }], guard := some (34, false) }) (v := ?_) rfl (by kernel_rfl) (by kernel_rfl) (by kernel_rfl) (fun _ _ _ h => h) (Or.inl ⟨by rfl, ?_⟩) (by assumption) ?_
              rotate_left 1
              · (intro W hSW; (try dsimp only at hSW); first | (go_simp; done) | (go_simp; with_reducible rfl))
              try simp only [Act.put, List.setIfInBounds_toArray, List.set_cons_zero, List.set_cons_succ]
              refine wpAnyH_take (i := 43) (oi := { dst := some 202, op := Op.move (Operand.tmp 24), type := 4, pos := "law.go:201", after := #[{ on := 34, ground := Ground.guard }], guard := some (34, false) }) (v := ?_) rfl (by kernel_rfl) (by kernel_rfl) (by kernel_rfl) (fun _ _ _ h => h) (Or.inl ⟨by rfl, ?_⟩) (by assumption) ?_
              rotate_left 1
              · (intro W hSW; (try dsimp only at hSW); first | (go_simp; done) | (go_simp; with_reducible rfl))
              try simp only [Act.put, List.setIfInBounds_toArray, List.set_cons_zero, List.set_cons_succ]
              refine wpAnyH_ready (rs := [42]) (by kernel_rfl) (by simp) ?_
              refine (AllReadyH.cons (o := { dst := some 201, op := Op.call { callee := Callee.value (Operand.func 18), args := #[Operand.tmp 194, Operand.tmp 196, Operand.tmp 200], argTypes := #[32, 24, 3] }, type := 4, pos := "law.go:201", after := #[{ on := 35, ground := Ground.data }, { on := 37, ground := Ground.data }, { on := 41, ground := Ground.data }, { on := 34, ground := Ground.chain }, { on := 34, ground := Ground.guard }], guard := some (34, false) }) rfl (fun K hK => ?_) AllReadyH.nil)
              rw [if_pos (by rfl)]
              go_simp
              go_at_call 18
              refine (reval_n gK vals xK false HNV.out FK.out (by have := GK.out.2.1; omega) HV20.out GK.out.1 XK.out ((HKu.out.grown (World.grownBy.trans HG24.out hgr3)).2.2) (HIu.out.v.grown (World.grownBy.trans HG24.out hgr3))).mono ?_
              rintro e wc4 ⟨rfl, gc4⟩
              have hgr4 := World.grownBy.trans hgr3 gc4
              go_wp2_with fail
              refine hK.out _ _ (HS.out _ hgr4) (fun hHeld => ?_)
              clear hK K
              try simp only [Act.put, List.setIfInBounds_toArray, List.set_cons_zero, List.set_cons_succ]
              refine wpAnyH_take (i := 44) (oi := { dst := some 203, op := Op.binOp BinOp.eql 4 (Operand.tmp 201) (Operand.tmp 202) 4, type := 4, pos := "law.go:201", after := #[{ on := 42, ground := Ground.data }, { on := 43, ground := Ground.data }, { on := 34, ground := Ground.guard }], guard := some (34, false) }) (v := ?_) rfl (by kernel_rfl) (by kernel_rfl) (by kernel_rfl) (fun _ _ _ h => h) (Or.inl ⟨by rfl, ?_⟩) (by assumption) ?_
              rotate_left 1
              · (intro W hSW; (try dsimp only at hSW); first | (go_simp; done) | (go_simp; with_reducible rfl))
              try simp only [Act.put, List.setIfInBounds_toArray, List.set_cons_zero, List.set_cons_succ]
              refine wpAnyH_take (i := 45) (oi := { dst := some 204, op := Op.pick (Operand.tmp 193) (Operand.const (Value.bool true)) (Operand.tmp 203), type := 4, pos := "law.go:201", after := #[{ on := 34, ground := Ground.data }, { on := 44, ground := Ground.data }], guard := none }) (v := ?_) rfl (by kernel_rfl) (by kernel_rfl) (by kernel_rfl) (fun _ _ _ h => h) (Or.inl ⟨by rfl, ?_⟩) (by assumption) ?_
              rotate_left 1
              · (intro W hSW; (try dsimp only at hSW); first | (go_simp; done) | (go_simp; with_reducible rfl))
              try simp only [Act.put, List.setIfInBounds_toArray, List.set_cons_zero, List.set_cons_succ]
              refine wpAnyH_done (by kernel_rfl) ?_ _
              have hEND := hgr4
              clear hHeld
              have HE := Lib.hid (World.grownBy.trans HGQ.out (World.grownBy.trans HG24.out hEND))
              clear hEND
              rw [← EEy.out]
              rw [← EFy.out]
              rw [← EJy.out]
              rw [← EKy.out]
              rw [← EDy.out]
              go_wp2_with fail
              go_roundg (k - (i + 1))
              case measure => rw [HI3.out]; omega
              case rel => exact ⟨i + 1, rfl, rfl, by omega, HE.out⟩
            | false =>
              have HS := Lib.hid (fun (Wh : World) (hWh : U3.grownBy Wh none) => (⟨hWh, hWh.cell (HG24.out.cell HEu.out.1 (by simp)) (by simp), hWh.cell (HG24.out.cell HFu.out.1 (by simp)) (by simp), hWh.cell (HG24.out.cell HJu.out.1 (by simp)) (by simp), hWh.cell (HG24.out.cell HKu.out.1 (by simp)) (by simp), hWh.cell (HG24.out.cell HXu.out.c3 (by simp)) (by simp), hWh.cell (HG24.out.cell YE.out (by simp)) (by simp), hWh.cell (HG24.out.cell YF.out (by simp)) (by simp), hWh.cell (HG24.out.cell YJ.out (by simp)) (by simp), hWh.cell (HG24.out.cell YK.out (by simp)) (by simp)⟩ : (fun Wh : World => U3.grownBy Wh none ∧ Wh.cell? ⟨bE, 0, none⟩ = some (.slice a7 gE.length c7) ∧ Wh.cell? ⟨bF, 0, none⟩ = some (.slice a9 gF.length c9) ∧ Wh.cell? ⟨bJ, 0, none⟩ = some (.slice a11 gJ.length c11) ∧ Wh.cell? ⟨bK, 0, none⟩ = some (.slice a13 gK.length c13) ∧ Wh.cell? ⟨bX, 3, none⟩ = some (.slice va nv vc) ∧ Wh.cell? ⟨bEy, oEy + i, none⟩ = some (.int .i64 xE) ∧ Wh.cell? ⟨bFy, oFy + i, none⟩ = some (.int .i64 xF) ∧ Wh.cell? ⟨bJy, oJy + u, none⟩ = some (.int .i64 xJ) ∧ Wh.cell? ⟨bKy, oKy + u, none⟩ = some (.int .i64 xK)) Wh))
              have hdr : U3.grownBy U3.drew none := ⟨rfl, rfl, rfl, Nat.le_refl _, fun _ _ _ => rfl⟩
              refine wp_region_held_drew (S := (fun Wh : World => U3.grownBy Wh none ∧ Wh.cell? ⟨bE, 0, none⟩ = some (.slice a7 gE.length c7) ∧ Wh.cell? ⟨bF, 0, none⟩ = some (.slice a9 gF.length c9) ∧ Wh.cell? ⟨bJ, 0, none⟩ = some (.slice a11 gJ.length c11) ∧ Wh.cell? ⟨bK, 0, none⟩ = some (.slice a13 gK.length c13) ∧ Wh.cell? ⟨bX, 3, none⟩ = some (.slice va nv vc) ∧ Wh.cell? ⟨bEy, oEy + i, none⟩ = some (.int .i64 xE) ∧ Wh.cell? ⟨bFy, oFy + i, none⟩ = some (.int .i64 xF) ∧ Wh.cell? ⟨bJy, oJy + u, none⟩ = some (.int .i64 xJ) ∧ Wh.cell? ⟨bKy, oKy + u, none⟩ = some (.int .i64 xK))) (by kernel_rfl) (HS.out _ hdr) (fun hHeld => ?_)
              refine wpAnyH_take (i := 0) (oi := { dst := some 159, op := Op.load 32 (Operand.tmp 15), type := 32, pos := "law.go:201", after := #[], guard := none }) (v := ?_) rfl (by kernel_rfl) (by kernel_rfl) (by kernel_rfl) (fun _ _ _ h => h) (Or.inl ⟨by rfl, ?_⟩) (by assumption) ?_
              rotate_left 1
              · (intro W hSW; (try dsimp only at hSW); first | (go_simp; done) | (go_simp; with_reducible rfl))
              try simp only [Act.put, List.setIfInBounds_toArray, List.set_cons_zero, List.set_cons_succ]
              refine wpAnyH_take (i := 1) (oi := { dst := some 160, op := Op.fieldAddr 27 (Operand.tmp 2) 3, type := 0, pos := "law.go:201", after := #[], guard := none }) (v := ?_) rfl (by kernel_rfl) (by kernel_rfl) (by kernel_rfl) (fun _ _ _ h => h) (Or.inl ⟨by rfl, ?_⟩) (by assumption) ?_
              rotate_left 1
              · (intro W hSW; (try dsimp only at hSW); first | (go_simp; done) | (go_simp; with_reducible rfl))
              try simp only [Act.put, List.setIfInBounds_toArray, List.set_cons_zero, List.set_cons_succ]
              refine wpAnyH_take (i := 2) (oi := { dst := some 161, op := Op.load 24 (Operand.tmp 160), type := 24, pos := "law.go:201", after := #[{ on := 1, ground := Ground.data }], guard := none }) (v := ?_) rfl (by kernel_rfl) (by kernel_rfl) (by kernel_rfl) (fun _ _ _ h => h) (Or.inl ⟨by rfl, ?_⟩) (by assumption) ?_
              rotate_left 1
              · (intro W hSW; (try dsimp only at hSW); first | (go_simp; done) | (go_simp; with_reducible rfl))
              try simp only [Act.put, List.setIfInBounds_toArray, List.set_cons_zero, List.set_cons_succ]
              refine wpAnyH_take (i := 3) (oi := { dst := some 162, op := Op.move (Operand.tmp 16), type := 33, pos := "law.go:201", after := #[], guard := none }) (v := ?_) rfl (by kernel_rfl) (by kernel_rfl) (by kernel_rfl) (fun _ _ _ h => h) (Or.inl ⟨by rfl, ?_⟩) (by assumption) ?_
              rotate_left 1
              · (intro W hSW; (try dsimp only at hSW); first | (go_simp; done) | (go_simp; with_reducible rfl))
              try simp only [Act.put, List.setIfInBounds_toArray, List.set_cons_zero, List.set_cons_succ]
              refine wpAnyH_take (i := 4) (oi := { dst := some 163, op := Op.move (Operand.tmp 23), type := 3, pos := "law.go:201", after := #[], guard := none }) (v := ?_) rfl (by kernel_rfl) (by kernel_rfl) (by kernel_rfl) (fun _ _ _ h => h) (Or.inl ⟨by rfl, ?_⟩) (by assumption) ?_
              rotate_left 1
              · (intro W hSW; (try dsimp only at hSW); first | (go_simp; done) | (go_simp; with_reducible rfl))
              try simp only [Act.put, List.setIfInBounds_toArray, List.set_cons_zero, List.set_cons_succ]
              refine wpAnyH_take (i := 5) (oi := { dst := some 164, op := Op.indexAddr 33 (Operand.tmp 162) (Operand.tmp 163), type := 0, pos := "law.go:201", after := #[{ on := 3, ground := Ground.data }, { on := 4, ground := Ground.data }], guard := none }) (v := ?_) rfl (by kernel_rfl) (by kernel_rfl) (by kernel_rfl) (fun _ _ _ h => h) (Or.inl ⟨by rfl, ?_⟩) (by assumption) ?_
              rotate_left 1
              · (intro W hSW; (try dsimp only at hSW); first | (go_simp; done) | (go_simp; with_reducible rfl))
              try simp only [Act.put, List.setIfInBounds_toArray, List.set_cons_zero, List.set_cons_succ]
              refine wpAnyH_take (i := 6) (oi := { dst := some 165, op := Op.load 3 (Operand.tmp 164), type := 3, pos := "law.go:201", after := #[{ on := 5, ground := Ground.data }], guard := none }) (v := ?_) rfl (by kernel_rfl) (by kernel_rfl) (by kernel_rfl) (fun _ _ _ h => h) (Or.inl ⟨by rfl, ?_⟩) (by assumption) ?_
              rotate_left 1
              · (intro W hSW; (try dsimp only at hSW); first | (go_simp; done) | (go_simp; with_reducible rfl))
              try simp only [Act.put, List.setIfInBounds_toArray, List.set_cons_zero, List.set_cons_succ]
              refine wpAnyH_take (i := 8) (oi := { dst := some 167, op := Op.move (Operand.tmp 24), type := 4, pos := "law.go:201", after := #[], guard := none }) (v := ?_) rfl (by kernel_rfl) (by kernel_rfl) (by kernel_rfl) (fun _ _ _ h => h) (Or.inl ⟨by rfl, ?_⟩) (by assumption) ?_
              rotate_left 1
              · (intro W hSW; (try dsimp only at hSW); first | (go_simp; done) | (go_simp; with_reducible rfl))
              try simp only [Act.put, List.setIfInBounds_toArray, List.set_cons_zero, List.set_cons_succ]
              refine wpAnyH_ready (rs := [7]) (by kernel_rfl) (by simp) ?_
              refine (AllReadyH.cons (o := { dst := some 166, op := Op.call { callee := Callee.value (Operand.func 18), args := #[Operand.tmp 159, Operand.tmp 161, Operand.tmp 165], argTypes := #[32, 24, 3] }, type := 4, pos := "law.go:201", after := #[{ on := 0, ground := Ground.data }, { on := 2, ground := Ground.data }, { on := 6, ground := Ground.data }], guard := none }) rfl (fun K hK => ?_) AllReadyH.nil)
              rw [if_pos (by rfl)]
              go_simp
              go_at_call 18
              refine (reval_n gE vals xE false HNV.out FE.out (by have := GE.out.2.1; omega) HV20.out GE.out.1 XE.out ((HEu.out.grown (World.grownBy.trans HG24.out hdr)).2.2) (HIu.out.v.grown (World.grownBy.trans HG24.out hdr))).mono ?_
              rintro e wc1 ⟨rfl, gc1⟩
              have hgr1 := World.grownBy.trans hdr gc1
              go_wp2_with fail
              refine hK.out _ _ (HS.out _ hgr1) (fun hHeld => ?_)
              clear hK K
              try simp only [Act.put, List.setIfInBounds_toArray, List.set_cons_zero, List.set_cons_succ]
              refine wpAnyH_take (i := 9) (oi := { dst := some 168, op := Op.binOp BinOp.neq 4 (Operand.tmp 166) (Operand.tmp 167) 4, type := 4, pos := "law.go:201", after := #[{ on := 7, ground := Ground.data }, { on := 8, ground := Ground.data }], guard := none }) (v := ?_) rfl (by kernel_rfl) (by kernel_rfl) (by kernel_rfl) (fun _ _ _ h => h) (Or.inl ⟨by rfl, ?_⟩) (by assumption) ?_
              rotate_left 1
              · (intro W hSW; (try dsimp only at hSW); first | (go_simp; done) | (go_simp; with_reducible rfl))
              try simp only [Act.put, List.setIfInBounds_toArray, List.set_cons_zero, List.set_cons_succ]
              refine wpAnyH_take (i := 10) (oi := { dst := some 169, op := Op.move (Operand.tmp 168), type := 4, pos := "law.go:201", after := #[{ on := 9, ground := Ground.data }, { on := 7, ground := Ground.chain }], guard := none }) (v := ?_) rfl (by kernel_rfl) (by kernel_rfl) (by kernel_rfl) (fun _ _ _ h => h) (Or.inl ⟨by rfl, ?_⟩) (by assumption) ?_
              rotate_left 1
              · (intro W hSW; (try dsimp only at hSW); first | (go_simp; done) | (go_simp; with_reducible rfl))
              try simp only [Act.put, List.setIfInBounds_toArray, List.set_cons_zero, List.set_cons_succ]
              refine wpAnyH_take (i := 11) (oi := { dst := some 170, op := Op.load 32 (Operand.tmp 17), type := 32, pos := "law.go:201", after := #[{ on := 10, ground := Ground.guard }], guard := some (10, false) }) (v := ?_) rfl (by kernel_rfl) (by kernel_rfl) (by kernel_rfl) (fun _ _ _ h => h) (Or.inl ⟨by rfl, ?_⟩) (by assumption) ?_
              rotate_left 1
              · (intro W hSW; (try dsimp only at hSW); first | (go_simp; done) | (go_simp; with_reducible rfl))
              try simp only [Act.put, List.setIfInBounds_toArray, List.set_cons_zero, List.set_cons_succ]
              refine wpAnyH_take (i := 12) (oi := { dst := some 171, op := Op.fieldAddr 27 (Operand.tmp 2) 3, type := 0, pos := "law.go:201", after := #[{ on := 10, ground := Ground.guard }], guard := some (10, false) }) (v := ?_) rfl (by kernel_rfl) (by kernel_rfl) (by kernel_rfl) (fun _ _ _ h => h) (Or.inl ⟨by rfl, ?_⟩) (by assumption) ?_
              rotate_left 1
              · (intro W hSW; (try dsimp only at hSW); first | (go_simp; done) | (go_simp; with_reducible rfl))
              try simp only [Act.put, List.setIfInBounds_toArray, List.set_cons_zero, List.set_cons_succ]
              refine wpAnyH_take (i := 13) (oi := { dst := some 172, op := Op.load 24 (Operand.tmp 171), type := 24, pos := "law.go:201", after := #[{ on := 12, ground := Ground.data }, { on := 10, ground := Ground.guard }], guard := some (10, false) }) (v := ?_) rfl (by kernel_rfl) (by kernel_rfl) (by kernel_rfl) (fun _ _ _ h => h) (Or.inl ⟨by rfl, ?_⟩) (by assumption) ?_
              rotate_left 1
              · (intro W hSW; (try dsimp only at hSW); first | (go_simp; done) | (go_simp; with_reducible rfl))
              try simp only [Act.put, List.setIfInBounds_toArray, List.set_cons_zero, List.set_cons_succ]
              refine wpAnyH_take (i := 14) (oi := { dst := some 173, op := Op.move (Operand.tmp 18), type := 33, pos := "law.go:201", after := #[{ on := 10, ground := Ground.guard }], guard := some (10, false) }) (v := ?_) rfl (by kernel_rfl) (by kernel_rfl) (by kernel_rfl) (fun _ _ _ h => h) (Or.inl ⟨by rfl, ?_⟩) (by assumption) ?_
              rotate_left 1
              · (intro W hSW; (try dsimp only at hSW); first | (go_simp; done) | (go_simp; with_reducible rfl))
              try simp only [Act.put, List.setIfInBounds_toArray, List.set_cons_zero, List.set_cons_succ]
              refine wpAnyH_take (i := 15) (oi := { dst := some 174, op := Op.move (Operand.tmp 23), type := 3, pos := "law.go:201", after := #[{ on := 10, ground := Ground.guard }], guard := some (10, false) }) (v := ?_) rfl (by kernel_rfl) (by kernel_rfl) (by kernel_rfl) (fun _ _ _ h => h) (Or.inl ⟨by rfl, ?_⟩) (by assumption) ?_
              rotate_left 1
              · (intro W hSW; (try dsimp only at hSW); first | (go_simp; done) | (go_simp; with_reducible rfl))
              try simp only [Act.put, List.setIfInBounds_toArray, List.set_cons_zero, List.set_cons_succ]
              refine wpAnyH_take (i := 16) (oi := { dst := some 175, op := Op.indexAddr 33 (Operand.tmp 173) (Operand.tmp 174), type := 0, pos := "law.go:201", after := #[{ on := 14, ground := Ground.data }, { on := 15, ground := Ground.data }, { on := 10, ground := Ground.guard }], guard := some (10, false) }) (v := ?_) rfl (by kernel_rfl) (by kernel_rfl) (by kernel_rfl) (fun _ _ _ h => h) (Or.inl ⟨by rfl, ?_⟩) (by assumption) ?_
              rotate_left 1
              · (intro W hSW; (try dsimp only at hSW); first | (go_simp; done) | (go_simp; with_reducible rfl))
              try simp only [Act.put, List.setIfInBounds_toArray, List.set_cons_zero, List.set_cons_succ]
              refine wpAnyH_take (i := 17) (oi := { dst := some 176, op := Op.load 3 (Operand.tmp 175), type := 3, pos := "law.go:201", after := #[{ on := 16, ground := Ground.data }, { on := 10, ground := Ground.guard }], guard := some (10, false) }) (v := ?_) rfl (by kernel_rfl) (by kernel_rfl) (by kernel_rfl) (fun _ _ _ h => h) (Or.inl ⟨by rfl, ?_⟩) (by assumption) ?_
              rotate_left 1
              · (intro W hSW; (try dsimp only at hSW); first | (go_simp; done) | (go_simp; with_reducible rfl))
              try simp only [Act.put, List.setIfInBounds_toArray, List.set_cons_zero, List.set_cons_succ]
              refine wpAnyH_take (i := 19) (oi := { dst := some 178, op := Op.move (Operand.tmp 24), type := 4, pos := "law.go:201", after := #[{ on := 10, ground := Ground.guard }], guard := some (10, false) }) (v := ?_) rfl (by kernel_rfl) (by kernel_rfl) (by kernel_rfl) (fun _ _ _ h => h) (Or.inl ⟨by rfl, ?_⟩) (by assumption) ?_
              rotate_left 1
              · (intro W hSW; (try dsimp only at hSW); first | (go_simp; done) | (go_simp; with_reducible rfl))
              try simp only [Act.put, List.setIfInBounds_toArray, List.set_cons_zero, List.set_cons_succ]
              refine wpAnyH_ready (rs := [18]) (by kernel_rfl) (by simp) ?_
              refine (AllReadyH.cons (o := { dst := some 177, op := Op.call { callee := Callee.value (Operand.func 18), args := #[Operand.tmp 170, Operand.tmp 172, Operand.tmp 176], argTypes := #[32, 24, 3] }, type := 4, pos := "law.go:201", after := #[{ on := 11, ground := Ground.data }, { on := 13, ground := Ground.data }, { on := 17, ground := Ground.data }, { on := 10, ground := Ground.chain }, { on := 10, ground := Ground.guard }], guard := some (10, false) }) rfl (fun K hK => ?_) AllReadyH.nil)
              rw [if_pos (by rfl)]
              go_simp
              go_at_call 18
              refine (reval_n gF vals xF false HNV.out FF.out (by have := GF.out.2.1; omega) HV20.out GF.out.1 XF.out ((HFu.out.grown (World.grownBy.trans HG24.out hgr1)).2.2) (HIu.out.v.grown (World.grownBy.trans HG24.out hgr1))).mono ?_
              rintro e wc2 ⟨rfl, gc2⟩
              have hgr2 := World.grownBy.trans hgr1 gc2
              go_wp2_with fail
              refine hK.out _ _ (HS.out _ hgr2) (fun hHeld => ?_)
              clear hK K
              try simp only [Act.put, List.setIfInBounds_toArray, List.set_cons_zero, List.set_cons_succ]
              refine wpAnyH_take (i := 20) (oi := { dst := some 179, op := Op.binOp BinOp.neq 4 (Operand.tmp 177) (Operand.tmp 178) 4, type := 4, pos := "law.go:201", after := #[{ on := 18, ground := Ground.data }, { on := 19, ground := Ground.data }, { on := 10, ground := Ground.guard }], guard := some (10, false) }) (v := ?_) rfl (by kernel_rfl) (by kernel_rfl) (by kernel_rfl) (fun _ _ _ h => h) (Or.inl ⟨by rfl, ?_⟩) (by assumption) ?_
              rotate_left 1
              · (intro W hSW; (try dsimp only at hSW); first | (go_simp; done) | (go_simp; with_reducible rfl))
              try simp only [Act.put, List.setIfInBounds_toArray, List.set_cons_zero, List.set_cons_succ]
              refine wpAnyH_take (i := 21) (oi := { dst := some 180, op := Op.pick (Operand.tmp 169) (Operand.const (Value.bool true)) (Operand.tmp 179), type := 4, pos := "law.go:201", after := #[{ on := 10, ground := Ground.data }, { on := 20, ground := Ground.data }], guard := none }) (v := ?_) rfl (by kernel_rfl) (by kernel_rfl) (by kernel_rfl) (fun _ _ _ h => h) (Or.inl ⟨by rfl, ?_⟩) (by assumption) ?_
              rotate_left 1
              · (intro W hSW; (try dsimp only at hSW); first | (go_simp; done) | (go_simp; with_reducible rfl))
              try simp only [Act.put, List.setIfInBounds_toArray, List.set_cons_zero, List.set_cons_succ]
              refine wpAnyH_take (i := 22) (oi := { dst := some 181, op := Op.move (Operand.tmp 180), type := 4, pos := "law.go:201", after := #[{ on := 21, ground := Ground.data }, { on := 18, ground := Ground.chain }], guard := none }) (v := ?_) rfl (by kernel_rfl) (by kernel_rfl) (by kernel_rfl) (fun _ _ _ h => h) (Or.inl ⟨by rfl, ?_⟩) (by assumption) ?_
              rotate_left 1
              · (intro W hSW; (try dsimp only at hSW); first | (go_simp; done) | (go_simp; with_reducible rfl))
              try simp only [Act.put, List.setIfInBounds_toArray, List.set_cons_zero, List.set_cons_succ]
              refine wpAnyH_take (i := 23) (oi := { dst := some 182, op := Op.load 32 (Operand.tmp 19), type := 32, pos := "law.go:201", after := #[{ on := 22, ground := Ground.guard }], guard := some (22, false) }) (v := ?_) rfl (by kernel_rfl) (by kernel_rfl) (by kernel_rfl) (fun _ _ _ h => h) (Or.inl ⟨by rfl, ?_⟩) (by assumption) ?_
              rotate_left 1
              · (intro W hSW; (try dsimp only at hSW); first | (go_simp; done) | (go_simp; with_reducible rfl))
              try simp only [Act.put, List.setIfInBounds_toArray, List.set_cons_zero, List.set_cons_succ]
              refine wpAnyH_take (i := 24) (oi := { dst := some 183, op := Op.fieldAddr 27 (Operand.tmp 2) 3, type := 0, pos := "law.go:201", after := #[{ on := 22, ground := Ground.guard }], guard := some (22, false) }) (v := ?_) rfl (by kernel_rfl) (by kernel_rfl) (by kernel_rfl) (fun _ _ _ h => h) (Or.inl ⟨by rfl, ?_⟩) (by assumption) ?_
              rotate_left 1
              · (intro W hSW; (try dsimp only at hSW); first | (go_simp; done) | (go_simp; with_reducible rfl))
              try simp only [Act.put, List.setIfInBounds_toArray, List.set_cons_zero, List.set_cons_succ]
              refine wpAnyH_take (i := 25) (oi := { dst := some 184, op := Op.load 24 (Operand.tmp 183), type := 24, pos := "law.go:201", after := #[{ on := 24, ground := Ground.data }, { on := 22, ground := Ground.guard }], guard := some (22, false) }) (v := ?_) rfl (by kernel_rfl) (by kernel_rfl) (by kernel_rfl) (fun _ _ _ h => h) (Or.inl ⟨by rfl, ?_⟩) (by assumption) ?_
              rotate_left 1
              · (intro W hSW; (try dsimp only at hSW); first | (go_simp; done) | (go_simp; with_reducible rfl))
              try simp only [Act.put, List.setIfInBounds_toArray, List.set_cons_zero, List.set_cons_succ]
              refine wpAnyH_take (i := 26) (oi := { dst := some 185, op := Op.move (Operand.tmp 20), type := 33, pos := "law.go:201", after := #[{ on := 22, ground := Ground.guard }], guard := some (22, false) }) (v := ?_) rfl (by kernel_rfl) (by kernel_rfl) (by kernel_rfl) (fun _ _ _ h => h) (Or.inl ⟨by rfl, ?_⟩) (by assumption) ?_
              rotate_left 1
              · (intro W hSW; (try dsimp only at hSW); first | (go_simp; done) | (go_simp; with_reducible rfl))
              try simp only [Act.put, List.setIfInBounds_toArray, List.set_cons_zero, List.set_cons_succ]
              refine wpAnyH_take (i := 27) (oi := { dst := some 186, op := Op.move (Operand.tmp 25), type := 3, pos := "law.go:201", after := #[{ on := 22, ground := Ground.guard }], guard := some (22, false) }) (v := ?_) rfl (by kernel_rfl) (by kernel_rfl) (by kernel_rfl) (fun _ _ _ h => h) (Or.inl ⟨by rfl, ?_⟩) (by assumption) ?_
              rotate_left 1
              · (intro W hSW; (try dsimp only at hSW); first | (go_simp; done) | (go_simp; with_reducible rfl))
              try simp only [Act.put, List.setIfInBounds_toArray, List.set_cons_zero, List.set_cons_succ]
              refine wpAnyH_take (i := 28) (oi := { dst := some 187, op := Op.indexAddr 33 (Operand.tmp 185) (Operand.tmp 186), type := 0, pos := "law.go:201", after := #[{ on := 26, ground := Ground.data }, { on := 27, ground := Ground.data }, { on := 22, ground := Ground.guard }], guard := some (22, false) }) (v := ?_) rfl (by kernel_rfl) (by kernel_rfl) (by kernel_rfl) (fun _ _ _ h => h) (Or.inl ⟨by rfl, ?_⟩) (by assumption) ?_
              rotate_left 1
              · (intro W hSW; (try dsimp only at hSW); first | (go_simp; done) | (go_simp; with_reducible rfl))
              try simp only [Act.put, List.setIfInBounds_toArray, List.set_cons_zero, List.set_cons_succ]
              refine wpAnyH_take (i := 29) (oi := { dst := some 188, op := Op.load 3 (Operand.tmp 187), type := 3, pos := "law.go:201", after := #[{ on := 28, ground := Ground.data }, { on := 22, ground := Ground.guard }], guard := some (22, false) }) (v := ?_) rfl (by kernel_rfl) (by kernel_rfl) (by kernel_rfl) (fun _ _ _ h => h) (Or.inl ⟨by rfl, ?_⟩) (by assumption) ?_
              rotate_left 1
              · (intro W hSW; (try dsimp only at hSW); first | (go_simp; done) | (go_simp; with_reducible rfl))
              try simp only [Act.put, List.setIfInBounds_toArray, List.set_cons_zero, List.set_cons_succ]
              refine wpAnyH_take (i := 31) (oi := { dst := some 190, op := Op.move (Operand.tmp 24), type := 4, pos := "law.go:201", after := #[{ on := 22, ground := Ground.guard }], guard := some (22, false) }) (v := ?_) rfl (by kernel_rfl) (by kernel_rfl) (by kernel_rfl) (fun _ _ _ h => h) (Or.inl ⟨by rfl, ?_⟩) (by assumption) ?_
              rotate_left 1
              · (intro W hSW; (try dsimp only at hSW); first | (go_simp; done) | (go_simp; with_reducible rfl))
              try simp only [Act.put, List.setIfInBounds_toArray, List.set_cons_zero, List.set_cons_succ]
              refine wpAnyH_ready (rs := [30]) (by kernel_rfl) (by simp) ?_
              refine (AllReadyH.cons (o := { dst := some 189, op := Op.call { callee := Callee.value (Operand.func 18), args := #[Operand.tmp 182, Operand.tmp 184, Operand.tmp 188], argTypes := #[32, 24, 3] }, type := 4, pos := "law.go:201", after := #[{ on := 23, ground := Ground.data }, { on := 25, ground := Ground.data }, { on := 29, ground := Ground.data }, { on := 22, ground := Ground.chain }, { on := 22, ground := Ground.guard }], guard := some (22, false) }) rfl (fun K hK => ?_) AllReadyH.nil)
              rw [if_pos (by rfl)]
              go_simp
              go_at_call 18
              refine (reval_n gJ vals xJ true HNV.out FJ.out (by have := GJ.out.2.1; omega) HV20.out GJ.out.1 XJ.out ((HJu.out.grown (World.grownBy.trans HG24.out hgr2)).2.2) (HIu.out.v.grown (World.grownBy.trans HG24.out hgr2))).mono ?_
              rintro e wc3 ⟨rfl, gc3⟩
              have hgr3 := World.grownBy.trans hgr2 gc3
              go_wp2_with fail
              refine hK.out _ _ (HS.out _ hgr3) (fun hHeld => ?_)
              clear hK K
              try simp only [Act.put, List.setIfInBounds_toArray, List.set_cons_zero, List.set_cons_succ]
              refine wpAnyH_take (i := 32) (oi := { dst := some 191, op := Op.binOp BinOp.eql 4 (Operand.tmp 189) (Operand.tmp 190) 4, type := 4, pos := "law.go:201", after := #[{ on := 30, ground := Ground.data }, { on := 31, ground := Ground.data }, { on := 22, ground := Ground.guard }], guard := some (22, false) }) (v := ?_) rfl (by kernel_rfl) (by kernel_rfl) (by kernel_rfl) (fun _ _ _ h => h) (Or.inl ⟨by rfl, ?_⟩) (by assumption) ?_
              rotate_left 1
              · (intro W hSW; (try dsimp only at hSW); first | (go_simp; done) | (go_simp; with_reducible rfl))
              try simp only [Act.put, List.setIfInBounds_toArray, List.set_cons_zero, List.set_cons_succ]
              refine wpAnyH_take (i := 33) (oi := { dst := some 192, op := Op.pick (Operand.tmp 181) (Operand.const (Value.bool true)) (Operand.tmp 191), type := 4, pos := "law.go:201", after := #[{ on := 22, ground := Ground.data }, { on := 32, ground := Ground.data }], guard := none }) (v := ?_) rfl (by kernel_rfl) (by kernel_rfl) (by kernel_rfl) (fun _ _ _ h => h) (Or.inl ⟨by rfl, ?_⟩) (by assumption) ?_
              rotate_left 1
              · (intro W hSW; (try dsimp only at hSW); first | (go_simp; done) | (go_simp; with_reducible rfl))
              try simp only [Act.put, List.setIfInBounds_toArray, List.set_cons_zero, List.set_cons_succ]
              refine wpAnyH_take (i := 34) (oi := { dst := some 193, op := Op.move (Operand.tmp 192), type := 4, pos := "law.go:201", after := #[{ on := 33, ground := Ground.data }, { on := 30, ground := Ground.chain }], guard := none }) (v := ?_) rfl (by kernel_rfl) (by kernel_rfl) (by kernel_rfl) (fun _ _ _ h => h) (Or.inl ⟨by rfl, ?_⟩) (by assumption) ?_
              rotate_left 1
              · (intro W hSW; (try dsimp only at hSW); first | (go_simp; done) | (go_simp; with_reducible rfl))
              try simp only [Act.put, List.setIfInBounds_toArray, List.set_cons_zero, List.set_cons_succ]
              refine wpAnyH_take (i := 35) (oi := { dst := some 194, op := Op.load 32 (Operand.tmp 21), type := 32, pos := "law.go:201", after := #[{ on := 34, ground := Ground.guard }], guard := some (34, false) }) (v := ?_) rfl (by kernel_rfl) (by kernel_rfl) (by kernel_rfl) (fun _ _ _ h => h) (Or.inl ⟨by rfl, ?_⟩) (by assumption) ?_
              rotate_left 1
              · (intro W hSW; (try dsimp only at hSW); first | (go_simp; done) | (go_simp; with_reducible rfl))
              try simp only [Act.put, List.setIfInBounds_toArray, List.set_cons_zero, List.set_cons_succ]
              refine wpAnyH_take (i := 36) (oi := { dst := some 195, op := Op.fieldAddr 27 (Operand.tmp 2) 3, type := 0, pos := "law.go:201", after := #[{ on := 34, ground := Ground.guard }], guard := some (34, false) }) (v := ?_) rfl (by kernel_rfl) (by kernel_rfl) (by kernel_rfl) (fun _ _ _ h => h) (Or.inl ⟨by rfl, ?_⟩) (by assumption) ?_
              rotate_left 1
              · (intro W hSW; (try dsimp only at hSW); first | (go_simp; done) | (go_simp; with_reducible rfl))
              try simp only [Act.put, List.setIfInBounds_toArray, List.set_cons_zero, List.set_cons_succ]
              refine wpAnyH_take (i := 37) (oi := { dst := some 196, op := Op.load 24 (Operand.tmp 195), type := 24, pos := "law.go:201", after := #[{ on := 36, ground := Ground.data }, { on := 34, ground := Ground.guard }], guard := some (34, false) }) (v := ?_) rfl (by kernel_rfl) (by kernel_rfl) (by kernel_rfl) (fun _ _ _ h => h) (Or.inl ⟨by rfl, ?_⟩) (by assumption) ?_
              rotate_left 1
              · (intro W hSW; (try dsimp only at hSW); first | (go_simp; done) | (go_simp; with_reducible rfl))
              try simp only [Act.put, List.setIfInBounds_toArray, List.set_cons_zero, List.set_cons_succ]
              refine wpAnyH_take (i := 38) (oi := { dst := some 197, op := Op.move (Operand.tmp 22), type := 33, pos := "law.go:201", after := #[{ on := 34, ground := Ground.guard }], guard := some (34, false) }) (v := ?_) rfl (by kernel_rfl) (by kernel_rfl) (by kernel_rfl) (fun _ _ _ h => h) (Or.inl ⟨by rfl, ?_⟩) (by assumption) ?_
              rotate_left 1
              · (intro W hSW; (try dsimp only at hSW); first | (go_simp; done) | (go_simp; with_reducible rfl))
              try simp only [Act.put, List.setIfInBounds_toArray, List.set_cons_zero, List.set_cons_succ]
              refine wpAnyH_take (i := 39) (oi := { dst := some 198, op := Op.move (Operand.tmp 25), type := 3, pos := "law.go:201", after := #[{ on := 34, ground := Ground.guard }], guard := some (34, false) }) (v := ?_) rfl (by kernel_rfl) (by kernel_rfl) (by kernel_rfl) (fun _ _ _ h => h) (Or.inl ⟨by rfl, ?_⟩) (by assumption) ?_
              rotate_left 1
              · (intro W hSW; (try dsimp only at hSW); first | (go_simp; done) | (go_simp; with_reducible rfl))
              try simp only [Act.put, List.setIfInBounds_toArray, List.set_cons_zero, List.set_cons_succ]
              refine wpAnyH_take (i := 40) (oi := { dst := some 199, op := Op.indexAddr 33 (Operand.tmp 197) (Operand.tmp 198), type := 0, pos := "law.go:201", after := #[{ on := 38, ground := Ground.data }, { on := 39, ground := Ground.data }, { on := 34, ground := Ground.guard }], guard := some (34, false) }) (v := ?_) rfl (by kernel_rfl) (by kernel_rfl) (by kernel_rfl) (fun _ _ _ h => h) (Or.inl ⟨by rfl, ?_⟩) (by assumption) ?_
              rotate_left 1
              · (intro W hSW; (try dsimp only at hSW); first | (go_simp; done) | (go_simp; with_reducible rfl))
              try simp only [Act.put, List.setIfInBounds_toArray, List.set_cons_zero, List.set_cons_succ]
              refine wpAnyH_take (i := 41) (oi := { dst := some 200, op := Op.load 3 (Operand.tmp 199), type := 3, pos := "law.go:201", after := #[{ on := 40, ground := Ground.data }, { on := 34, ground := Ground.guard }], guard := some (34, false) }) (v := ?_) rfl (by kernel_rfl) (by kernel_rfl) (by kernel_rfl) (fun _ _ _ h => h) (Or.inl ⟨by rfl, ?_⟩) (by assumption) ?_
              rotate_left 1
              · (intro W hSW; (try dsimp only at hSW); first | (go_simp; done) | (go_simp; with_reducible rfl))
              try simp only [Act.put, List.setIfInBounds_toArray, List.set_cons_zero, List.set_cons_succ]
              refine wpAnyH_take (i := 43) (oi := { dst := some 202, op := Op.move (Operand.tmp 24), type := 4, pos := "law.go:201", after := #[{ on := 34, ground := Ground.guard }], guard := some (34, false) }) (v := ?_) rfl (by kernel_rfl) (by kernel_rfl) (by kernel_rfl) (fun _ _ _ h => h) (Or.inl ⟨by rfl, ?_⟩) (by assumption) ?_
              rotate_left 1
              · (intro W hSW; (try dsimp only at hSW); first | (go_simp; done) | (go_simp; with_reducible rfl))
              try simp only [Act.put, List.setIfInBounds_toArray, List.set_cons_zero, List.set_cons_succ]
              refine wpAnyH_ready (rs := [42]) (by kernel_rfl) (by simp) ?_
              refine (AllReadyH.cons (o := { dst := some 201, op := Op.call { callee := Callee.value (Operand.func 18), args := #[Operand.tmp 194, Operand.tmp 196, Operand.tmp 200], argTypes := #[32, 24, 3] }, type := 4, pos := "law.go:201", after := #[{ on := 35, ground := Ground.data }, { on := 37, ground := Ground.data }, { on := 41, ground := Ground.data }, { on := 34, ground := Ground.chain }, { on := 34, ground := Ground.guard }], guard := some (34, false) }) rfl (fun K hK => ?_) AllReadyH.nil)
              rw [if_pos (by rfl)]
              go_simp
              go_at_call 18
              refine (reval_n gK vals xK true HNV.out FK.out (by have := GK.out.2.1; omega) HV20.out GK.out.1 XK.out ((HKu.out.grown (World.grownBy.trans HG24.out hgr3)).2.2) (HIu.out.v.grown (World.grownBy.trans HG24.out hgr3))).mono ?_
              rintro e wc4 ⟨rfl, gc4⟩
              have hgr4 := World.grownBy.trans hgr3 gc4
              go_wp2_with fail
              refine hK.out _ _ (HS.out _ hgr4) (fun hHeld => ?_)
              clear hK K
              try simp only [Act.put, List.setIfInBounds_toArray, List.set_cons_zero, List.set_cons_succ]
              refine wpAnyH_take (i := 44) (oi := { dst := some 203, op := Op.binOp BinOp.eql 4 (Operand.tmp 201) (Operand.tmp 202) 4, type := 4, pos := "law.go:201", after := #[{ on := 42, ground := Ground.data }, { on := 43, ground := Ground.data }, { on := 34, ground := Ground.guard }], guard := some (34, false) }) (v := ?_) rfl (by kernel_rfl) (by kernel_rfl) (by kernel_rfl) (fun _ _ _ h => h) (Or.inl ⟨by rfl, ?_⟩) (by assumption) ?_
              rotate_left 1
              · (intro W hSW; (try dsimp only at hSW); first | (go_simp; done) | (go_simp; with_reducible rfl))
              try simp only [Act.put, List.setIfInBounds_toArray, List.set_cons_zero, List.set_cons_succ]
              refine wpAnyH_take (i := 45) (oi := { dst := some 204, op := Op.pick (Operand.tmp 193) (Operand.const (Value.bool true)) (Operand.tmp 203), type := 4, pos := "law.go:201", after := #[{ on := 34, ground := Ground.data }, { on := 44, ground := Ground.data }], guard := none }) (v := ?_) rfl (by kernel_rfl) (by kernel_rfl) (by kernel_rfl) (fun _ _ _ h => h) (Or.inl ⟨by rfl, ?_⟩) (by assumption) ?_
              rotate_left 1
              · (intro W hSW; (try dsimp only at hSW); first | (go_simp; done) | (go_simp; with_reducible rfl))
              try simp only [Act.put, List.setIfInBounds_toArray, List.set_cons_zero, List.set_cons_succ]
              refine wpAnyH_done (by kernel_rfl) ?_ _
              have hEND := hgr4
              clear hHeld
              have HE := Lib.hid (World.grownBy.trans HGQ.out (World.grownBy.trans HG24.out hEND))
              clear hEND
              rw [← EEy.out]
              rw [← EFy.out]
              rw [← EJy.out]
              rw [← EKy.out]
              rw [← EDy.out]
              go_wp2_with fail
              go_roundg (k - (i + 1))
              case measure => rw [HI3.out]; omega
              case rel => exact ⟨i + 1, rfl, rfl, by omega, HE.out⟩
          · have f1 : decide (i < k) = false := decide_eq_false hin
            have f2 : decide ((i : Int) < (k : Int)) = false := decide_eq_false (by omega)
            clear hin
            go_wp2_with fail
            go_ret
            exact ⟨rfl, World.grownBy.trans HGV.out HGQ.out⟩
end Go.Proofs.Ythagoihpppppkaa

/- Whether a model is valid. -/
import Derived.Test.YtbddpjofhddilaaNSB
import Derived.Test.YtbddpjofhddilaaNRQ
namespace Go.Proofs.Ytbddpjofhddilaa
open Go.RowKit

set_option maxRecDepth 100000 in
set_option maxHeartbeats 1000000 in
theorem full_empty (zs : List Nat) (n : Nat) (hn : zs.length = n) (a : Option Addr) (c : Nat) (st : Int) (ta : Option Addr) (tc : Nat) (w : World) :
    Calls Try.prog 65 #[.agg #[.slice a n c, .int .i64 st], .slice ta 0 tc] w (FullR w zs n []) := by
  have HF : Hid (∀ W : World, w.grownBy W none → FullR w zs n [] (.returned (.agg #[.int .i64 0, .slice none 0 0])) W) := Lib.hid fun W hW => full_zero hn (by simp [fits]) hW
  clear hn
  go_enter Try.func65, Try.ntmps65
  go_wp2_with fail
  exact bodyPost_ret (results28 _ _ (w.heap.size + 1) none 0 0 0 rfl (by go_simp) (by go_simp)) rfl (HF.out _ ((World.grownBy_alloc _ _ none).trans (World.grownBy_alloc _ _ none)))
theorem full_weak (zs : List Nat) (a : Option Addr) (c : Nat) (st : Int) (ss : List Int) (ta : Option Addr) (tc : Nat) (w : World) (h : Nums w a c zs) (hz : ∀ z ∈ zs, z ≤ 5) (hl : zs.length ≤ 4) (ht : IntsW w ta tc ss) (htl : ss.length ≤ 1000) :
    Calls Try.prog 65 #[.agg #[.slice a zs.length c, .int .i64 st], .slice ta ss.length tc] w (FullR w zs zs.length ss) := by
  cases ss with
  | nil => exact full_empty zs zs.length rfl a c st ta tc w
  | cons s l => exact full_calls zs a c st (s :: l) ta tc w h hz hl (ht.strict (by simp)) htl

/-- Whether a state's relation of field i fits. -/
def fieldB (zs : List Nat) (nf i : Nat) (f : Fd) (l0 l : List Rl) : Bool :=
  decide (l.length = nf) && fitsB (sum zs) (l.getD i (0, [])) ((fullK zs.length f.2.1 : Nat), fullL zs f.2.1) && (f.2.2 || decide (l.getD i (0, []) = l0.getD i (0, [])))
/-- Whether a field's relations fit in all states. -/
def fieldsB (zs : List Nat) (nf i : Nat) (f : Fd) (L : List (List Rl)) : Bool := L.all (fieldB zs nf i f (L.getD 0 []))
def allM (zs : List Nat) (F : List Fd) (L : List (List Rl)) : Bool := (List.range F.length).all fun i => fieldsB zs F.length i (F.getD i (ByteArray.empty, [], false)) L
def validM (k : Nat) (us : List Int) (st : Int) (F : List Fd) (L : List (List Rl)) (lp : Int) : Bool :=
  validI k us st && decide ((L.length : Int) = st) && loopedB L.length lp && allM (us.map Int.toNat) F L && !oddState F.length L

theorem three_cells (w : World) (u0 u1 u2 : Value) (t : TypeId) : (w.alloc (.cells #[u0, u1, u2] t)).cell? ⟨w.heap.size, 0, none⟩ = some u0 ∧ (w.alloc (.cells #[u0, u1, u2] t)).cell? ⟨w.heap.size, 1, none⟩ = some u1 ∧
    (w.alloc (.cells #[u0, u1, u2] t)).cell? ⟨w.heap.size, 2, none⟩ = some u2 := by
  refine ⟨by go_simp, by go_simp, by go_simp⟩
theorem two_cells' (w : World) (u0 u1 : Value) (t : TypeId) : (w.alloc (.cells #[u0, u1] t)).cell? ⟨w.heap.size, 0, none⟩ = some u0 ∧ (w.alloc (.cells #[u0, u1] t)).cell? ⟨w.heap.size, 1, none⟩ = some u1 := by
  refine ⟨by go_simp, by go_simp⟩
theorem fits_calls (zs : List Nat) (za : Option Addr) (zc : Nat) (st : Int) (r y : Rl) (xa ya : Option Addr) (xc yc : Nat) (w : World) (hn : Nums w za zc zs) (hz : ∀ z ∈ zs, z ≤ 5) (hzl : zs.length ≤ 4) (h : IntsW w xa xc r.2) (h' : IntsW w ya yc y.2) (hl : r.2.length ≤ 100000) (hl' : y.2.length ≤ 100000) :
    Calls Try.prog 66 #[.agg #[.slice za zs.length zc, .int .i64 st], .agg #[.int .i64 r.1, .slice xa r.2.length xc], .agg #[.int .i64 y.1, .slice ya y.2.length yc]] w fun e w' => e = .returned (.bool (fitsB (sum zs) r y)) ∧ w.grownBy w' none := by
  obtain ⟨x, xs⟩ := r
  obtain ⟨y, ys⟩ := y
  simp only at h h' hl hl' ⊢
  by_cases hxy : x = y
  · subst hxy
    cases hv : relValid (sum zs : Nat) x xs with
    | true =>
      have := fits_yes zs za zc st x xs ys xa ya xc yc w hn hz hzl h h' hl hl' hv
      simpa [fitsB, hv] using this
    | false =>
      have := fits_invalid zs za zc st x xs ys xa ya xc yc w hn hz hzl h hl hv
      simpa [fitsB, hv] using this
  · have := fits_arity za zc st x y xs.length ys.length zs.length xa ya xc yc w hxy
    simpa [fitsB, hxy] using this
theorem fullL_len {zs : List Nat} (hz : ∀ z ∈ zs, z ≤ 5) (ss : List Int) : (fullL zs ss).length ≤ 125 := by
  unfold fullL
  split
  · rename_i h
    simp only [fits, decide_eq_true_eq] at h
    have h1 := digs_length hz (ss.map Int.toNat) 0
    have h2 : 5 ^ (ss.map Int.toNat).length ≤ 5 ^ 3 := Nat.pow_le_pow_right (by omega) (by rw [List.length_map]; exact h.2.1)
    have h3 : (5 : Nat) ^ 3 = 125 := rfl
    rw [List.length_map]
    omega
  · simp
theorem validM_not {k : Nat} {us : List Int} {st : Int} {F : List Fd} {L : List (List Rl)} {lp : Int} {i j : Nat} {fd : Fd} {l : List Rl} (hf : F[i]? = some fd) (hl : L[j]? = some l)
    (h : fieldB (us.map Int.toNat) F.length i fd (L.getD 0 []) l = false) : validM k us st F L lp = false := by
  have hi := (List.getElem?_eq_some_iff.1 hf).1
  have : allM (us.map Int.toNat) F L = false := by
    unfold allM
    rw [List.all_eq_false]
    refine ⟨i, List.mem_range.2 hi, ?_⟩
    unfold fieldsB
    rw [List.getD_eq_getElem?_getD, hf, Bool.not_eq_true, List.all_eq_false]
    exact ⟨l, List.mem_of_getElem? hl, by rw [Option.getD_some, h]; simp⟩
  unfold validM
  rw [this]; simp
theorem validI_facts {k : Nat} {us : List Int} {st : Int} (h : validI k us st = true) : (∀ z ∈ us, 0 ≤ z) ∧ (∀ z ∈ us.map Int.toNat, z ≤ 5) ∧ us.length ≤ 4 := by
  simp only [validI, Bool.and_eq_true, decide_eq_true_eq] at h
  obtain ⟨⟨⟨⟨⟨h0, h1⟩, _⟩, _⟩, hs⟩, _⟩ := h
  refine ⟨fun z hz => by have := sized_at hs hz; omega, fun z hz => ?_, by omega⟩
  obtain ⟨y, hy, rfl⟩ := List.mem_map.1 hz
  have := sized_at hs hy
  omega

set_option maxRecDepth 100000 in
set_option maxHeartbeats 8000000 in
theorem modelValid_calls (s1 fa s3 s4 : Option Addr) (ns c1 fc n3 q3 n4 q4 : Nat) (F : List Fd) (us : List Int) (sa : Option Addr) (sc : Nat) (st : Int) (ta : Option Addr) (L : List (List Rl)) (tc : Nat) (lp : Int) (w : World) (hF : Fields w fa fc F) (hu : Ints w sa sc us) (hT : Sts w ta tc L)
    (hns : ns ≤ 10) (hnf : F.length ≤ 10) (hus : us.length ≤ 10) (hk : L.length ≤ 64) (hr : ∀ l ∈ L, l.length ≤ 10 ∧ ∀ r ∈ l, r.2.length ≤ 200) (hf : ∀ f ∈ F, f.2.1.length ≤ 10) :
    Calls Try.prog 18 #[.agg #[.slice s1 ns c1, .slice fa F.length fc, .slice s3 n3 q3, .slice s4 n4 q4], .agg #[.slice sa us.length sc, .int .i64 st, .slice ta L.length tc, .int .i64 lp]] w
      fun e w' => e = .returned (.bool (validM ns us st F L lp)) ∧ w.grownBy w' none := by
  obtain ⟨n, hn⟩ : ∃ n, us.length = n := ⟨_, rfl⟩
  obtain ⟨f, hff⟩ : ∃ f, F.length = f := ⟨_, rfl⟩
  obtain ⟨k, hk1⟩ : ∃ k, L.length = k := ⟨_, rfl⟩
  have hg := (World.grownBy_alloc w (.cells #[.slice s1 ns c1, .slice fa f fc, .slice s3 n3 q3, .slice s4 n4 q4] 27) none).trans (World.grownBy_alloc (w.alloc (.cells #[.slice s1 ns c1, .slice fa f fc, .slice s3 n3 q3, .slice s4 n4 q4] 27)) (.cells #[.slice sa n sc, .int .i64 st, .slice ta k tc, .int .i64 lp] 33) none)
  have hc := eight_cells w (.slice s1 ns c1) (.slice fa f fc) (.slice s3 n3 q3) (.slice s4 n4 q4) (.slice sa n sc) (.int .i64 st) (.slice ta k tc) (.int .i64 lp) 27 33
  obtain ⟨W, hW⟩ : ∃ W, (w.alloc (.cells #[.slice s1 ns c1, .slice fa f fc, .slice s3 n3 q3, .slice s4 n4 q4] 27)).alloc (.cells #[.slice sa n sc, .int .i64 st, .slice ta k tc, .int .i64 lp] 33) = W := ⟨_, rfl⟩
  rw [hW] at hg hc
  have HUV := Lib.hid (fun (W' : World) (hW' : W.grownBy W' none) => valid_calls s1 ns c1 fa s3 s4 f fc n3 q3 n4 q4 us sa sc st W' ((hu.grown hg).grown hW') (by omega) (by omega))
  have HLO := Lib.hid (fun (W' : World) => looped_calls sa n sc st ta L.length tc lp W')
  rw [hn] at HUV
  rw [hk1] at HLO
  have HN := Lib.hid (And.intro hn (And.intro hff hk1))
  have HX := Lib.hid (And.intro (hF.grown hg) (And.intro (hu.grown hg) (And.intro (hT.grown hg) (And.intro hr hf)))); clear hF hu hT hr hf
  have HG := Lib.hid hg
  rw [hn, hff, hk1]
  rw [hff] at hnf
  rw [hk1] at hk
  rw [hn] at hus
  clear hn hff hk1 hg
  have HBX := Lib.hid (fun (W' : World) (g : W.grownBy W' none) => And.intro (And.intro (g.cell hc.1.1 (by simp)) (And.intro (g.cell hc.1.2.1 (by simp)) (And.intro (g.cell hc.1.2.2.1 (by simp)) (g.cell hc.1.2.2.2 (by simp)))))
    (And.intro (g.cell hc.2.1 (by simp)) (And.intro (g.cell hc.2.2.1 (by simp)) (And.intro (g.cell hc.2.2.2.1 (by simp)) (g.cell hc.2.2.2.2 (by simp))))))
  have HVM : Hid (∀ b, validM ns us st F L lp = b → validM ns us st F L lp = b) := Lib.hid fun _ h => h
  obtain ⟨⟨a0, a1, a2, a3⟩, b0, b1, b2, b3⟩ := hc
  go_enter Try.func18, Try.ntmps18
  go_wp2_with fail
  clear hW
  refine (HUV.out _ (grown_refl _ _)).mono ?_
  rintro e W1 ⟨rfl, g1⟩
  have HG1 := Lib.hid g1; clear g1 a0 a1 a2 a3 b0 b1 b2 b3
  obtain ⟨A, hA⟩ : ∃ A, validI ns us st = A := ⟨_, rfl⟩
  rw [hA]
  obtain ⟨⟨a0, a1, a2, a3⟩, b0, b1, b2, b3⟩ := HBX.out W1 HG1.out
  cases A with
  | false =>
    have HR : Hid (validM ns us st F L lp = false) := Lib.hid (by unfold validM; rw [hA]; rfl)
    clear hA
    go_wp2_with fail
    go_ret
    exact ⟨by rw [HR.out]; rfl, HG.out.trans HG1.out⟩
  | true =>
  have HA := Lib.hid hA; clear hA
  by_cases hks : (k : Int) = st
  · have e1 : ((k : Int) != st) = false := by simpa using hks
    have HKS := Lib.hid hks; clear hks
    go_wp2_with fail
    refine (HLO.out W1).mono ?_
    rintro e W2 ⟨rfl, g2⟩
    have HG2 := Lib.hid (HG1.out.trans g2); clear g2 HG1 a0 a1 a2 a3 b0 b1 b2 b3 e1
    obtain ⟨⟨a0, a1, a2, a3⟩, b0, b1, b2, b3⟩ := HBX.out W2 HG2.out
    obtain ⟨C, hC⟩ : ∃ C, loopedB k lp = C := ⟨_, rfl⟩
    rw [hC]
    cases C with
    | false =>
      have HR : Hid (validM ns us st F L lp = false) := Lib.hid (by unfold validM; rw [HN.out.2.2, hC]; simp)
      clear hC
      go_wp2_with fail
      go_ret
      exact ⟨by rw [HR.out]; rfl, HG.out.trans HG2.out⟩
    | true =>
      have HC := Lib.hid hC; clear hC
      go_wp2_with fail
      clear a0 a1 a2 a3 b0 b1 b2 b3
      obtain ⟨zs, hzs⟩ : ∃ zs, us.map Int.toNat = zs := ⟨_, rfl⟩
      have HV := Lib.hid (validI_facts HA.out)
      have hzl : zs.length = n := by rw [← hzs, List.length_map, HN.out.1]
      have HFU := Lib.hid (fun (ss : List Int) (ra : Option Addr) (rc : Nat) (W' : World) (hW' : W.grownBy W' none) (hss : IntsW W' ra rc ss) (hl : ss.length ≤ 10) =>
        full_weak zs sa sc st ss ra rc W' (by rw [← hzs]; exact (HX.out.2.1.grown hW').nums HV.out.1) (by rw [← hzs]; exact HV.out.2.1) (by rw [hzl, ← HN.out.1]; exact HV.out.2.2) hss (by omega))
      rw [hzl] at HFU
      have HZ := Lib.hid (And.intro hzs hzl); clear hzs hzl
      go_loopg [32] f (fun g s32 wr => ∃ i : Nat, s32 = .int .i64 (i : Int) ∧ g = f - i ∧ i ≤ f ∧ (∀ j, j < i → fieldsB zs f j (F.getD j (ByteArray.empty, [], false)) L = true) ∧ W.grownBy wr none)
      case atStart => exact ⟨0, rfl, rfl, Nat.zero_le _, fun j hj => absurd hj (Nat.not_lt_zero _), HG2.out⟩
      case round =>
        obtain ⟨i, rfl, hgi, hi, hok, hgr⟩ := hrel
        have HI := Lib.hid (And.intro hgi (And.intro hok hgr)); clear hgi hok
        by_cases hin : i < f
        · have hinB : decide (i < f) = true := by simpa using hin
          have hinI : (i : Int) < (f : Int) := by omega
          obtain ⟨fd, hfd⟩ : ∃ fd, F[i]? = some fd := ⟨_, List.getElem?_eq_getElem (by rw [HN.out.2.1]; exact hin)⟩
          obtain ⟨fb, fo, rfl, r0, ⟨fra, frc, r1, hss⟩, r2⟩ := (HX.out.1.grown hgr).2 i fd hfd
          have hfl := HX.out.2.2.2.2 fd (List.mem_of_getElem? hfd)
          have HFD := Lib.hid (And.intro hfd (And.intro hss hfl)); clear hfd hss hfl
          obtain ⟨⟨a0, a1, a2, a3⟩, b0, b1, b2, b3⟩ := HBX.out wr hgr
          clear a0 a1 a2 a3 b0 b1 b2 b3
          obtain ⟨m, hm⟩ : ∃ m, fd.2.1.length = m := ⟨_, rfl⟩
          have hgV := World.grownBy_alloc wr (.cells #[.string fd.1, .slice fra m frc, .bool fd.2.2] 51) none
          have hp := three_cells wr (.string fd.1) (.slice fra m frc) (.bool fd.2.2) 51
          obtain ⟨pb, hpb⟩ : ∃ pb, wr.heap.size = pb := ⟨_, rfl⟩
          obtain ⟨V, hV⟩ : ∃ V, wr.alloc (.cells #[.string fd.1, .slice fra m frc, .bool fd.2.2] 51) = V := ⟨_, rfl⟩
          rw [hpb, hV] at hp
          rw [hV] at hgV
          obtain ⟨p0, p1, p2⟩ := hp
          have HP := Lib.hid (fun (W' : World) (g : V.grownBy W' none) => And.intro (g.cell p0 (by simp)) (And.intro (g.cell p1 (by simp)) (g.cell p2 (by simp))))
          have HGV := Lib.hid (And.intro hgV (hgr.trans hgV)); clear hgV
          have HFC := Lib.hid (HFU.out fd.2.1 fra frc V HGV.out.2 (HFD.out.2.1.grown HGV.out.1) HFD.out.2.2)
          rw [hm] at HFC r1
          have HM := Lib.hid hm; clear hm
          obtain ⟨⟨a0, a1, a2, a3⟩, b0, b1, b2, b3⟩ := HBX.out V HGV.out.2
          clear hgr
          go_wp2_with fail
          clear hV hpb
          refine HFC.out.mono ?_
          rintro e V1 ⟨fla, flc, rfl, hfi, g3⟩
          have HFL := Lib.hid hfi; clear hfi
          have HGV1 := Lib.hid (HGV.out.2.trans g3)
          have HPV1 := Lib.hid g3; clear g3 p0 p1 p2 a0 a1 a2 a3 b0 b1 b2 b3 r0 r1 r2
          obtain ⟨K, hK⟩ : ∃ K, fullK n fd.2.1 = K := ⟨_, rfl⟩
          obtain ⟨FL, hFL⟩ : ∃ FL, fullL zs fd.2.1 = FL := ⟨_, rfl⟩
          rw [hK, hFL]
          rw [hFL] at HFL
          have HKL := Lib.hid (And.intro hK hFL); clear hK hFL
          obtain ⟨fm, hfm⟩ : ∃ fm, FL.length = fm := ⟨_, rfl⟩
          rw [hfm]
          have hg2 := World.grownBy_alloc V1 (.cells #[.int .i64 K, .slice fla fm flc] 53) none
          have hq := two_cells' V1 (.int .i64 K) (.slice fla fm flc) 53
          obtain ⟨qb, hqb⟩ : ∃ qb, V1.heap.size = qb := ⟨_, rfl⟩
          obtain ⟨V2, hV2⟩ : ∃ V2, V1.alloc (.cells #[.int .i64 K, .slice fla fm flc] 53) = V2 := ⟨_, rfl⟩
          rw [hqb, hV2] at hq
          rw [hV2] at hg2
          have HGV2 := Lib.hid (And.intro (HGV1.out.trans hg2) (And.intro (HPV1.out.trans hg2) (HFL.out.grown hg2))); clear hg2
          have HQ := Lib.hid (fun (W' : World) (g : V2.grownBy W' none) => And.intro (g.cell hq.1 (by simp)) (g.cell hq.2 (by simp)))
          clear hq
          have HFLL : Hid (FL.length ≤ 100000) := Lib.hid (by rw [← HKL.out.2]; have := fullL_len (zs := zs) (by rw [← HZ.out.1]; exact HV.out.2.1) fd.2.1; omega)
          have HFM := Lib.hid hfm; clear hfm
          obtain ⟨⟨a0, a1, a2, a3⟩, b0, b1, b2, b3⟩ := HBX.out V2 HGV2.out.1
          go_wp2_with fail
          clear hV2 hqb
          clear a0 a1 a2 a3 b0 b1 b2 b3
          go_loopg [45] k (fun g s45 wq => ∃ j : Nat, s45 = .int .i64 (j : Int) ∧ g = k - j ∧ j ≤ k ∧ (∀ l ∈ L.take j, fieldB zs f i fd (L.getD 0 []) l = true) ∧ V2.grownBy wq none)
          case atStart => exact ⟨0, rfl, rfl, Nat.zero_le _, fun l hl => by simp at hl, grown_refl _ _⟩
          case round =>
            obtain ⟨j, rfl, hgj, hj, hokj, hgrj⟩ := hrel
            have HJ := Lib.hid (And.intro hgj hokj); clear hgj hokj
            have HGJ := Lib.hid (And.intro hgrj (HGV2.out.1.trans hgrj))
            by_cases hjn : j < k
            · have hjB : decide (j < k) = true := by simpa using hjn
              have hjI : (j : Int) < (k : Int) := by omega
              obtain ⟨l, hx⟩ : ∃ l, L[j]? = some l := ⟨_, List.getElem?_eq_getElem (by rw [HN.out.2.2]; exact hjn)⟩
              obtain ⟨tb, to, rfl, la, lc, d0, hrels⟩ := (HX.out.2.2.1.grown HGJ.out.2).2 j l hx
              obtain ⟨p, hp⟩ : ∃ p, l.length = p := ⟨_, rfl⟩
              rw [hp] at d0
              have HL := Lib.hid (And.intro hx (And.intro hp hrels)); clear hx hp hrels
              obtain ⟨⟨a0, a1, a2, a3⟩, b0, b1, b2, b3⟩ := HBX.out _ HGJ.out.2
              obtain ⟨p0, p1, p2⟩ := HP.out _ (HGV2.out.2.1.trans hgrj)
              obtain ⟨q0, q1⟩ := HQ.out _ hgrj
              clear hgrj
              by_cases hpf : p = f
              · subst hpf
                have e1 : ((p : Int) != (p : Int)) = false := by simp
                obtain ⟨r, hr⟩ : ∃ r, l[i]? = some r := ⟨_, List.getElem?_eq_getElem (by rw [HL.out.2.1]; exact hin)⟩
                obtain ⟨lb, lo, rfl, x0, ra, rc, x1, hri⟩ := HL.out.2.2.2 i r hr
                obtain ⟨rn, hrn⟩ : ∃ rn, r.2.length = rn := ⟨_, rfl⟩
                rw [hrn] at x1
                obtain ⟨l0, hx0⟩ : ∃ l0, L[0]? = some l0 := ⟨_, List.getElem?_eq_getElem (by rw [HN.out.2.2]; omega)⟩
                have hl0 : l0.length = p := by
                  by_cases hj0 : j = 0
                  · subst hj0
                    have := HL.out.1
                    rw [hx0] at this
                    cases this
                    exact HL.out.2.1
                  · have h1 := HJ.out.2 l0 (List.mem_of_getElem? (i := 0) (by rw [List.getElem?_take, if_pos (by omega)]; exact hx0))
                    unfold fieldB at h1
                    simp only [Bool.and_eq_true, decide_eq_true_eq] at h1
                    exact h1.1.1
                obtain ⟨tb', to', hte, la0, lc0, d1, hrels0⟩ := (HX.out.2.2.1.grown HGJ.out.2).2 0 l0 hx0
                injection hte with hte
                injection hte with ht1 ht2
                subst ht1 ht2
                rw [Nat.add_zero] at d1
                obtain ⟨r0, hr0⟩ : ∃ r0, l0[i]? = some r0 := ⟨_, List.getElem?_eq_getElem (by rw [hl0]; exact hin)⟩
                obtain ⟨l0b, l0o, rfl, z0, ra0, rc0, z1, hri0⟩ := hrels0.2 i r0 hr0
                obtain ⟨rn0, hrn0⟩ : ∃ rn0, r0.2.length = rn0 := ⟨_, rfl⟩
                rw [hrn0] at z1
                rw [hl0] at d1
                have hrl := (HX.out.2.2.2.1 l (List.mem_of_getElem? HL.out.1)).2 r (List.mem_of_getElem? hr)
                have HFIT := Lib.hid (fun (W' : World) (hW' : wr.grownBy W' none) => fits_calls zs sa sc st r (K, FL) ra fla rc flc W' (by rw [← HZ.out.1]; exact (HX.out.2.1.grown (HGJ.out.2.trans hW')).nums HV.out.1) (by rw [← HZ.out.1]; exact HV.out.2.1) (by rw [HZ.out.2, ← HN.out.1]; exact HV.out.2.2)
                  (hri.grown hW') ((HGV2.out.2.2.grown (HGJ.out.1.trans hW')).weak) (by omega) HFLL.out)
                have HEQ := Lib.hid (fun (W' : World) (hW' : wr.grownBy W' none) => relEqual_calls r r0 ra ra0 rc rc0 W' (hri.grown hW') (hri0.grown hW') (by omega))
                rw [HZ.out.2, hrn, HFM.out] at HFIT
                rw [hrn, hrn0] at HEQ
                have HRR := Lib.hid (And.intro hr (And.intro hx0 hr0)); clear hri hri0 hrels0 hrl hx0 hl0 hr hr0 hrn hrn0
                simp only at HFIT
                obtain ⟨O, hO⟩ : ∃ O, fitsB (sum zs) r (K, FL) = O := ⟨_, rfl⟩
                obtain ⟨E, hE⟩ : ∃ E, decide (r = r0) = E := ⟨_, rfl⟩
                obtain ⟨Y, hY⟩ : ∃ Y, fd.2.2 = Y := ⟨_, rfl⟩
                rw [hO] at HFIT
                rw [hE] at HEQ
                rw [hY] at p2
                have HFB : Hid (fieldB zs p i fd (L.getD 0 []) l = (O && (Y || E))) := Lib.hid (by
                  unfold fieldB
                  rw [HL.out.2.1, List.getD_eq_getElem?_getD (l := l), HRR.out.1, Option.getD_some, List.getD_eq_getElem?_getD (l := L), HRR.out.2.1, Option.getD_some, List.getD_eq_getElem?_getD (l := l0), HRR.out.2.2, Option.getD_some, HZ.out.2, HKL.out.1, HKL.out.2, hO, hE, hY]
                  simp)
                clear hO hE hY
                have hk0 : 0 < k := by omega
                go_wp2_with fail
                cases O with
                | false =>
                  have HS := Lib.hid (fun (W : World) (hW : wr.grownBy W none) => (⟨hW, hW.cell a1 (by simp), hW.cell b0 (by simp), hW.cell b1 (by simp), hW.cell b2 (by simp), hW.cell b3 (by simp), hW.cell p2 (by simp), hW.cell q0 (by simp), hW.cell q1 (by simp), hW.cell x0 (by simp), hW.cell x1 (by simp), hW.cell d1 (by simp), hW.cell z0 (by simp), hW.cell z1 (by simp)⟩ : (fun W : World => wr.grownBy W none ∧ W.cell? ⟨w.heap.size, 1, none⟩ = some (.slice (some ⟨fb, fo, none⟩) p fc) ∧ W.cell? ⟨w.heap.size + 1, 0, none⟩ = some (.slice sa n sc) ∧ W.cell? ⟨w.heap.size + 1, 1, none⟩ = some (.int .i64 st) ∧ W.cell? ⟨w.heap.size + 1, 2, none⟩ = some (.slice (some ⟨tb, to, none⟩) k tc) ∧ W.cell? ⟨w.heap.size + 1, 3, none⟩ = some (.int .i64 lp) ∧ W.cell? ⟨pb, 2, none⟩ = some (.bool Y) ∧ W.cell? ⟨qb, 0, none⟩ = some (.int .i64 K) ∧ W.cell? ⟨qb, 1, none⟩ = some (.slice fla fm flc) ∧ W.cell? ⟨lb, lo + i * 2, none⟩ = some (.int .i64 r.1) ∧ W.cell? ⟨lb, lo + i * 2 + 1, none⟩ = some (.slice ra rn rc) ∧ W.cell? ⟨tb, to, none⟩ = some (.slice (some ⟨l0b, l0o, none⟩) p lc0) ∧ W.cell? ⟨l0b, l0o + i * 2, none⟩ = some (.int .i64 r0.1) ∧ W.cell? ⟨l0b, l0o + i * 2 + 1, none⟩ = some (.slice ra0 rn0 rc0)) W))
                  clear a1 b0 b1 b2 b3 p2 q0 q1 x0 x1 d1 z0 z1 p0 p1 a0 a2 a3 d0
                  have hdr : wr.grownBy wr.drew none := ⟨rfl, rfl, rfl, Nat.le_refl _, fun _ _ _ => rfl⟩
                  refine wp_region_held_drew (S := (fun W : World => wr.grownBy W none ∧ W.cell? ⟨w.heap.size, 1, none⟩ = some (.slice (some ⟨fb, fo, none⟩) p fc) ∧ W.cell? ⟨w.heap.size + 1, 0, none⟩ = some (.slice sa n sc) ∧ W.cell? ⟨w.heap.size + 1, 1, none⟩ = some (.int .i64 st) ∧ W.cell? ⟨w.heap.size + 1, 2, none⟩ = some (.slice (some ⟨tb, to, none⟩) k tc) ∧ W.cell? ⟨w.heap.size + 1, 3, none⟩ = some (.int .i64 lp) ∧ W.cell? ⟨pb, 2, none⟩ = some (.bool Y) ∧ W.cell? ⟨qb, 0, none⟩ = some (.int .i64 K) ∧ W.cell? ⟨qb, 1, none⟩ = some (.slice fla fm flc) ∧ W.cell? ⟨lb, lo + i * 2, none⟩ = some (.int .i64 r.1) ∧ W.cell? ⟨lb, lo + i * 2 + 1, none⟩ = some (.slice ra rn rc) ∧ W.cell? ⟨tb, to, none⟩ = some (.slice (some ⟨l0b, l0o, none⟩) p lc0) ∧ W.cell? ⟨l0b, l0o + i * 2, none⟩ = some (.int .i64 r0.1) ∧ W.cell? ⟨l0b, l0o + i * 2 + 1, none⟩ = some (.slice ra0 rn0 rc0))) (by kernel_rfl) (HS.out _ hdr) (fun hHeld => ?_)
                  refine wpAnyH_take (i := 0) (oi := { dst := some 49, op := Op.move (Operand.tmp 9), type := 40, pos := "model.go:24", after := #[], guard := none }) (v := ?vBz0) rfl (by kernel_rfl) (by kernel_rfl) (by kernel_rfl) (fun _ _ _ h => h) (Or.inl ⟨by rfl, ?yBz0⟩) (by assumption) ?rBz0
                  case yBz0 => (intro W hSW; (try dsimp only at hSW); first | (go_simp; done) | (go_simp; with_reducible rfl))
                  try simp only [Act.put, List.setIfInBounds_toArray, List.set_cons_zero, List.set_cons_succ]
                  refine wpAnyH_take (i := 1) (oi := { dst := some 50, op := Op.call { callee := Callee.builtin Builtin.len, args := #[Operand.tmp 49], argTypes := #[40] }, type := 3, pos := "model.go:24", after := #[{ on := 0, ground := Ground.data }], guard := none }) (v := ?vBz1) rfl (by kernel_rfl) (by kernel_rfl) (by kernel_rfl) (fun _ _ _ h => h) (Or.inl ⟨by rfl, ?yBz1⟩) (by assumption) ?rBz1
                  case yBz1 => (intro W hSW; (try dsimp only at hSW); first | (go_simp; done) | (go_simp; with_reducible rfl))
                  try simp only [Act.put, List.setIfInBounds_toArray, List.set_cons_zero, List.set_cons_succ]
                  refine wpAnyH_take (i := 2) (oi := { dst := some 51, op := Op.fieldAddr 27 (Operand.tmp 2) 1, type := 0, pos := "model.go:24", after := #[], guard := none }) (v := ?vBz2) rfl (by kernel_rfl) (by kernel_rfl) (by kernel_rfl) (fun _ _ _ h => h) (Or.inl ⟨by rfl, ?yBz2⟩) (by assumption) ?rBz2
                  case yBz2 => (intro W hSW; (try dsimp only at hSW); first | (go_simp; done) | (go_simp; with_reducible rfl))
                  try simp only [Act.put, List.setIfInBounds_toArray, List.set_cons_zero, List.set_cons_succ]
                  refine wpAnyH_take (i := 3) (oi := { dst := some 52, op := Op.load 23 (Operand.tmp 51), type := 23, pos := "model.go:24", after := #[{ on := 2, ground := Ground.data }], guard := none }) (v := ?vBz3) rfl (by kernel_rfl) (by kernel_rfl) (by kernel_rfl) (fun _ _ _ h => h) (Or.inl ⟨by rfl, ?yBz3⟩) (by assumption) ?rBz3
                  case yBz3 => (intro W hSW; (try dsimp only at hSW); first | (go_simp; done) | (go_simp; with_reducible rfl))
                  try simp only [Act.put, List.setIfInBounds_toArray, List.set_cons_zero, List.set_cons_succ]
                  refine wpAnyH_take (i := 4) (oi := { dst := some 53, op := Op.call { callee := Callee.builtin Builtin.len, args := #[Operand.tmp 52], argTypes := #[23] }, type := 3, pos := "model.go:24", after := #[{ on := 3, ground := Ground.data }], guard := none }) (v := ?vBz4) rfl (by kernel_rfl) (by kernel_rfl) (by kernel_rfl) (fun _ _ _ h => h) (Or.inl ⟨by rfl, ?yBz4⟩) (by assumption) ?rBz4
                  case yBz4 => (intro W hSW; (try dsimp only at hSW); first | (go_simp; done) | (go_simp; with_reducible rfl))
                  try simp only [Act.put, List.setIfInBounds_toArray, List.set_cons_zero, List.set_cons_succ]
                  refine wpAnyH_take (i := 5) (oi := { dst := some 54, op := Op.binOp BinOp.neq 3 (Operand.tmp 50) (Operand.tmp 53) 3, type := 4, pos := "model.go:24", after := #[{ on := 1, ground := Ground.data }, { on := 4, ground := Ground.data }], guard := none }) (v := ?vBz5) rfl (by kernel_rfl) (by kernel_rfl) (by kernel_rfl) (fun _ _ _ h => h) (Or.inl ⟨by rfl, ?yBz5⟩) (by assumption) ?rBz5
                  case yBz5 => (intro W hSW; (try dsimp only at hSW); first | (go_simp; done) | (go_simp; with_reducible rfl))
                  try simp only [Act.put, List.setIfInBounds_toArray, List.set_cons_zero, List.set_cons_succ]
                  refine wpAnyH_take (i := 6) (oi := { dst := some 55, op := Op.move (Operand.tmp 54), type := 4, pos := "model.go:24", after := #[{ on := 5, ground := Ground.data }], guard := none }) (v := ?vBz6) rfl (by kernel_rfl) (by kernel_rfl) (by kernel_rfl) (fun _ _ _ h => h) (Or.inl ⟨by rfl, ?yBz6⟩) (by assumption) ?rBz6
                  case yBz6 => (intro W hSW; (try dsimp only at hSW); first | (go_simp; done) | (go_simp; with_reducible rfl))
                  try simp only [Act.put, List.setIfInBounds_toArray, List.set_cons_zero, List.set_cons_succ]
                  refine wpAnyH_take (i := 7) (oi := { dst := some 56, op := Op.fieldAddr 33 (Operand.tmp 3) 0, type := 0, pos := "model.go:24", after := #[{ on := 6, ground := Ground.guard }], guard := some (6, false) }) (v := ?vBz7) rfl (by kernel_rfl) (by kernel_rfl) (by kernel_rfl) (fun _ _ _ h => h) (Or.inl ⟨by rfl, ?yBz7⟩) (by assumption) ?rBz7
                  case yBz7 => (intro W hSW; (try dsimp only at hSW); first | (go_simp; done) | (go_simp; with_reducible rfl))
                  try simp only [Act.put, List.setIfInBounds_toArray, List.set_cons_zero, List.set_cons_succ]
                  refine wpAnyH_take (i := 8) (oi := { dst := some 57, op := Op.load 30 (Operand.tmp 56), type := 30, pos := "model.go:24", after := #[{ on := 7, ground := Ground.data }, { on := 6, ground := Ground.guard }], guard := some (6, false) }) (v := ?vBz8) rfl (by kernel_rfl) (by kernel_rfl) (by kernel_rfl) (fun _ _ _ h => h) (Or.inl ⟨by rfl, ?yBz8⟩) (by assumption) ?rBz8
                  case yBz8 => (intro W hSW; (try dsimp only at hSW); first | (go_simp; done) | (go_simp; with_reducible rfl))
                  try simp only [Act.put, List.setIfInBounds_toArray, List.set_cons_zero, List.set_cons_succ]
                  refine wpAnyH_take (i := 9) (oi := { dst := some 58, op := Op.move (Operand.tmp 9), type := 40, pos := "model.go:24", after := #[{ on := 6, ground := Ground.guard }], guard := some (6, false) }) (v := ?vBz9) rfl (by kernel_rfl) (by kernel_rfl) (by kernel_rfl) (fun _ _ _ h => h) (Or.inl ⟨by rfl, ?yBz9⟩) (by assumption) ?rBz9
                  case yBz9 => (intro W hSW; (try dsimp only at hSW); first | (go_simp; done) | (go_simp; with_reducible rfl))
                  try simp only [Act.put, List.setIfInBounds_toArray, List.set_cons_zero, List.set_cons_succ]
                  refine wpAnyH_take (i := 10) (oi := { dst := some 59, op := Op.move (Operand.tmp 5), type := 3, pos := "model.go:24", after := #[{ on := 6, ground := Ground.guard }], guard := some (6, false) }) (v := ?vBz10) rfl (by kernel_rfl) (by kernel_rfl) (by kernel_rfl) (fun _ _ _ h => h) (Or.inl ⟨by rfl, ?yBz10⟩) (by assumption) ?rBz10
                  case yBz10 => (intro W hSW; (try dsimp only at hSW); first | (go_simp; done) | (go_simp; with_reducible rfl))
                  try simp only [Act.put, List.setIfInBounds_toArray, List.set_cons_zero, List.set_cons_succ]
                  refine wpAnyH_take (i := 11) (oi := { dst := some 60, op := Op.indexAddr 40 (Operand.tmp 58) (Operand.tmp 59), type := 0, pos := "model.go:24", after := #[{ on := 9, ground := Ground.data }, { on := 10, ground := Ground.data }, { on := 6, ground := Ground.guard }], guard := some (6, false) }) (v := ?vBz11) rfl (by kernel_rfl) (by kernel_rfl) (by kernel_rfl) (fun _ _ _ h => h) (Or.inl ⟨by rfl, ?yBz11⟩) (by assumption) ?rBz11
                  case yBz11 => (intro W hSW; (try dsimp only at hSW); first | (go_simp; done) | (go_simp; with_reducible rfl))
                  try simp only [Act.put, List.setIfInBounds_toArray, List.set_cons_zero, List.set_cons_succ]
                  refine wpAnyH_take (i := 12) (oi := { dst := some 61, op := Op.load 53 (Operand.tmp 60), type := 53, pos := "model.go:24", after := #[{ on := 11, ground := Ground.data }, { on := 6, ground := Ground.guard }], guard := some (6, false) }) (v := ?vBz12) rfl (by kernel_rfl) (by kernel_rfl) (by kernel_rfl) (fun _ _ _ h => h) (Or.inl ⟨by rfl, ?yBz12⟩) (by assumption) ?rBz12
                  case yBz12 => (intro W hSW; (try dsimp only at hSW); first | (go_simp; done) | (go_simp; with_reducible rfl))
                  try simp only [Act.put, List.setIfInBounds_toArray, List.set_cons_zero, List.set_cons_succ]
                  refine wpAnyH_take (i := 13) (oi := { dst := some 62, op := Op.load 53 (Operand.tmp 7), type := 53, pos := "model.go:24", after := #[{ on := 6, ground := Ground.guard }], guard := some (6, false) }) (v := ?vBz13) rfl (by kernel_rfl) (by kernel_rfl) (by kernel_rfl) (fun _ _ _ h => h) (Or.inl ⟨by rfl, ?yBz13⟩) (by assumption) ?rBz13
                  case yBz13 => (intro W hSW; (try dsimp only at hSW); first | (go_simp; done) | (go_simp; with_reducible rfl))
                  try simp only [Act.put, List.setIfInBounds_toArray, List.set_cons_zero, List.set_cons_succ]
                  refine wpAnyH_ready (rs := [14]) (by kernel_rfl) (by simp) ?_
                  refine AllReadyH.cons (o := { dst := some 63, op := Op.call { callee := Callee.value (Operand.func 66), args := #[Operand.tmp 57, Operand.tmp 61, Operand.tmp 62], argTypes := #[30, 53, 53] }, type := 4, pos := "model.go:24", after := #[{ on := 8, ground := Ground.data }, { on := 12, ground := Ground.data }, { on := 13, ground := Ground.data }, { on := 6, ground := Ground.chain }, { on := 6, ground := Ground.guard }], guard := some (6, false) }) rfl (fun K hK => ?_) AllReadyH.nil
                  go_simp
                  go_at_call 66
                  refine (HFIT.out _ hdr).mono ?_
                  rintro e wc1 ⟨rfl, gc1⟩
                  go_wp2_with fail
                  have hgr1 := World.grownBy.trans hdr gc1
                  refine hK.out _ _ (HS.out _ hgr1) (fun hHeld => ?_)
                  clear hK K
                  try simp only [Act.put, List.setIfInBounds_toArray, List.set_cons_zero, List.set_cons_succ]
                  refine wpAnyH_take (i := 15) (oi := { dst := some 64, op := Op.unOp UnOp.not 4 (Operand.tmp 63), type := 4, pos := "model.go:24", after := #[{ on := 14, ground := Ground.data }, { on := 6, ground := Ground.guard }], guard := some (6, false) }) (v := ?vBz15) rfl (by kernel_rfl) (by kernel_rfl) (by kernel_rfl) (fun _ _ _ h => h) (Or.inl ⟨by rfl, ?yBz15⟩) (by assumption) ?rBz15
                  case yBz15 => (intro W hSW; (try dsimp only at hSW); first | (go_simp; done) | (go_simp; with_reducible rfl))
                  try simp only [Act.put, List.setIfInBounds_toArray, List.set_cons_zero, List.set_cons_succ]
                  refine wpAnyH_take (i := 16) (oi := { dst := some 65, op := Op.pick (Operand.tmp 55) (Operand.const (Value.bool true)) (Operand.tmp 64), type := 4, pos := "model.go:24", after := #[{ on := 6, ground := Ground.data }, { on := 15, ground := Ground.data }], guard := none }) (v := ?vBz16) rfl (by kernel_rfl) (by kernel_rfl) (by kernel_rfl) (fun _ _ _ h => h) (Or.inl ⟨by rfl, ?yBz16⟩) (by assumption) ?rBz16
                  case yBz16 => (intro W hSW; (try dsimp only at hSW); first | (go_simp; done) | (go_simp; with_reducible rfl))
                  try simp only [Act.put, List.setIfInBounds_toArray, List.set_cons_zero, List.set_cons_succ]
                  refine wpAnyH_take (i := 17) (oi := { dst := some 66, op := Op.move (Operand.tmp 65), type := 4, pos := "model.go:24", after := #[{ on := 16, ground := Ground.data }, { on := 14, ground := Ground.chain }], guard := none }) (v := ?vBz17) rfl (by kernel_rfl) (by kernel_rfl) (by kernel_rfl) (fun _ _ _ h => h) (Or.inl ⟨by rfl, ?yBz17⟩) (by assumption) ?rBz17
                  case yBz17 => (intro W hSW; (try dsimp only at hSW); first | (go_simp; done) | (go_simp; with_reducible rfl))
                  try simp only [Act.put, List.setIfInBounds_toArray, List.set_cons_zero, List.set_cons_succ]
                  refine wpAnyH_take (i := 18) (oi := { dst := some 67, op := Op.fieldAddr 51 (Operand.tmp 6) 2, type := 0, pos := "model.go:24", after := #[{ on := 17, ground := Ground.guard }], guard := some (17, false) }) (v := undef) rfl (by kernel_rfl) (by kernel_rfl) (by kernel_rfl) (fun _ _ _ h => h) (Or.inr ⟨by rfl, rfl⟩) (by assumption) ?_
                  try simp only [Act.put, List.setIfInBounds_toArray, List.set_cons_zero, List.set_cons_succ]
                  refine wpAnyH_take (i := 19) (oi := { dst := some 68, op := Op.load 4 (Operand.tmp 67), type := 4, pos := "model.go:24", after := #[{ on := 18, ground := Ground.data }, { on := 17, ground := Ground.guard }], guard := some (17, false) }) (v := undef) rfl (by kernel_rfl) (by kernel_rfl) (by kernel_rfl) (fun _ _ _ h => h) (Or.inr ⟨by rfl, rfl⟩) (by assumption) ?_
                  try simp only [Act.put, List.setIfInBounds_toArray, List.set_cons_zero, List.set_cons_succ]
                  refine wpAnyH_take (i := 20) (oi := { dst := some 69, op := Op.unOp UnOp.not 4 (Operand.tmp 68), type := 4, pos := "model.go:24", after := #[{ on := 19, ground := Ground.data }, { on := 17, ground := Ground.guard }], guard := some (17, false) }) (v := undef) rfl (by kernel_rfl) (by kernel_rfl) (by kernel_rfl) (fun _ _ _ h => h) (Or.inr ⟨by rfl, rfl⟩) (by assumption) ?_
                  try simp only [Act.put, List.setIfInBounds_toArray, List.set_cons_zero, List.set_cons_succ]
                  refine wpAnyH_take (i := 21) (oi := { dst := some 70, op := Op.move (Operand.tmp 69), type := 4, pos := "model.go:24", after := #[{ on := 20, ground := Ground.data }, { on := 17, ground := Ground.chain }, { on := 17, ground := Ground.guard }], guard := some (17, false) }) (v := undef) rfl (by kernel_rfl) (by kernel_rfl) (by kernel_rfl) (fun _ _ _ h => h) (Or.inr ⟨by rfl, rfl⟩) (by assumption) ?_
                  try simp only [Act.put, List.setIfInBounds_toArray, List.set_cons_zero, List.set_cons_succ]
                  refine wpAnyH_take (i := 22) (oi := { dst := some 71, op := Op.move (Operand.tmp 9), type := 40, pos := "model.go:24", after := #[{ on := 21, ground := Ground.guard }], guard := some (21, true) }) (v := undef) rfl (by kernel_rfl) (by kernel_rfl) (by kernel_rfl) (fun _ _ _ h => h) (Or.inr ⟨by rfl, rfl⟩) (by assumption) ?_
                  try simp only [Act.put, List.setIfInBounds_toArray, List.set_cons_zero, List.set_cons_succ]
                  refine wpAnyH_take (i := 23) (oi := { dst := some 72, op := Op.move (Operand.tmp 5), type := 3, pos := "model.go:24", after := #[{ on := 21, ground := Ground.guard }], guard := some (21, true) }) (v := undef) rfl (by kernel_rfl) (by kernel_rfl) (by kernel_rfl) (fun _ _ _ h => h) (Or.inr ⟨by rfl, rfl⟩) (by assumption) ?_
                  try simp only [Act.put, List.setIfInBounds_toArray, List.set_cons_zero, List.set_cons_succ]
                  refine wpAnyH_take (i := 24) (oi := { dst := some 73, op := Op.indexAddr 40 (Operand.tmp 71) (Operand.tmp 72), type := 0, pos := "model.go:24", after := #[{ on := 22, ground := Ground.data }, { on := 23, ground := Ground.data }, { on := 21, ground := Ground.guard }], guard := some (21, true) }) (v := undef) rfl (by kernel_rfl) (by kernel_rfl) (by kernel_rfl) (fun _ _ _ h => h) (Or.inr ⟨by rfl, rfl⟩) (by assumption) ?_
                  try simp only [Act.put, List.setIfInBounds_toArray, List.set_cons_zero, List.set_cons_succ]
                  refine wpAnyH_take (i := 25) (oi := { dst := some 74, op := Op.load 53 (Operand.tmp 73), type := 53, pos := "model.go:24", after := #[{ on := 24, ground := Ground.data }, { on := 21, ground := Ground.guard }], guard := some (21, true) }) (v := undef) rfl (by kernel_rfl) (by kernel_rfl) (by kernel_rfl) (fun _ _ _ h => h) (Or.inr ⟨by rfl, rfl⟩) (by assumption) ?_
                  try simp only [Act.put, List.setIfInBounds_toArray, List.set_cons_zero, List.set_cons_succ]
                  refine wpAnyH_take (i := 26) (oi := { dst := some 75, op := Op.fieldAddr 33 (Operand.tmp 3) 1, type := 0, pos := "model.go:24", after := #[{ on := 21, ground := Ground.guard }], guard := some (21, true) }) (v := undef) rfl (by kernel_rfl) (by kernel_rfl) (by kernel_rfl) (fun _ _ _ h => h) (Or.inr ⟨by rfl, rfl⟩) (by assumption) ?_
                  try simp only [Act.put, List.setIfInBounds_toArray, List.set_cons_zero, List.set_cons_succ]
                  refine wpAnyH_take (i := 27) (oi := { dst := some 76, op := Op.load 31 (Operand.tmp 75), type := 31, pos := "model.go:24", after := #[{ on := 26, ground := Ground.data }, { on := 21, ground := Ground.guard }], guard := some (21, true) }) (v := undef) rfl (by kernel_rfl) (by kernel_rfl) (by kernel_rfl) (fun _ _ _ h => h) (Or.inr ⟨by rfl, rfl⟩) (by assumption) ?_
                  try simp only [Act.put, List.setIfInBounds_toArray, List.set_cons_zero, List.set_cons_succ]
                  refine wpAnyH_take (i := 28) (oi := { dst := some 77, op := Op.indexAddr 31 (Operand.tmp 76) (Operand.const (Value.int IntKind.i64 0)), type := 0, pos := "model.go:24", after := #[{ on := 27, ground := Ground.data }, { on := 21, ground := Ground.guard }], guard := some (21, true) }) (v := undef) rfl (by kernel_rfl) (by kernel_rfl) (by kernel_rfl) (fun _ _ _ h => h) (Or.inr ⟨by rfl, rfl⟩) (by assumption) ?_
                  try simp only [Act.put, List.setIfInBounds_toArray, List.set_cons_zero, List.set_cons_succ]
                  refine wpAnyH_take (i := 29) (oi := { dst := some 78, op := Op.load 40 (Operand.tmp 77), type := 40, pos := "model.go:24", after := #[{ on := 28, ground := Ground.data }, { on := 21, ground := Ground.guard }], guard := some (21, true) }) (v := undef) rfl (by kernel_rfl) (by kernel_rfl) (by kernel_rfl) (fun _ _ _ h => h) (Or.inr ⟨by rfl, rfl⟩) (by assumption) ?_
                  try simp only [Act.put, List.setIfInBounds_toArray, List.set_cons_zero, List.set_cons_succ]
                  refine wpAnyH_take (i := 30) (oi := { dst := some 79, op := Op.move (Operand.tmp 5), type := 3, pos := "model.go:24", after := #[{ on := 21, ground := Ground.guard }], guard := some (21, true) }) (v := undef) rfl (by kernel_rfl) (by kernel_rfl) (by kernel_rfl) (fun _ _ _ h => h) (Or.inr ⟨by rfl, rfl⟩) (by assumption) ?_
                  try simp only [Act.put, List.setIfInBounds_toArray, List.set_cons_zero, List.set_cons_succ]
                  refine wpAnyH_take (i := 31) (oi := { dst := some 80, op := Op.indexAddr 40 (Operand.tmp 78) (Operand.tmp 79), type := 0, pos := "model.go:24", after := #[{ on := 29, ground := Ground.data }, { on := 30, ground := Ground.data }, { on := 21, ground := Ground.guard }], guard := some (21, true) }) (v := undef) rfl (by kernel_rfl) (by kernel_rfl) (by kernel_rfl) (fun _ _ _ h => h) (Or.inr ⟨by rfl, rfl⟩) (by assumption) ?_
                  try simp only [Act.put, List.setIfInBounds_toArray, List.set_cons_zero, List.set_cons_succ]
                  refine wpAnyH_take (i := 32) (oi := { dst := some 81, op := Op.load 53 (Operand.tmp 80), type := 53, pos := "model.go:24", after := #[{ on := 31, ground := Ground.data }, { on := 21, ground := Ground.guard }], guard := some (21, true) }) (v := undef) rfl (by kernel_rfl) (by kernel_rfl) (by kernel_rfl) (fun _ _ _ h => h) (Or.inr ⟨by rfl, rfl⟩) (by assumption) ?_
                  try simp only [Act.put, List.setIfInBounds_toArray, List.set_cons_zero, List.set_cons_succ]
                  refine wpAnyH_take (i := 33) (oi := { dst := some 82, op := Op.call { callee := Callee.value (Operand.func 67), args := #[Operand.tmp 74, Operand.tmp 81], argTypes := #[53, 53] }, type := 4, pos := "model.go:24", after := #[{ on := 25, ground := Ground.data }, { on := 32, ground := Ground.data }, { on := 21, ground := Ground.chain }, { on := 21, ground := Ground.guard }], guard := some (21, true) }) (v := undef) rfl (by kernel_rfl) (by kernel_rfl) (by kernel_rfl) (fun _ _ _ h => h) (Or.inr ⟨by rfl, rfl⟩) (by assumption) ?_
                  try simp only [Act.put, List.setIfInBounds_toArray, List.set_cons_zero, List.set_cons_succ]
                  refine wpAnyH_take (i := 34) (oi := { dst := some 83, op := Op.unOp UnOp.not 4 (Operand.tmp 82), type := 4, pos := "model.go:24", after := #[{ on := 33, ground := Ground.data }, { on := 21, ground := Ground.guard }], guard := some (21, true) }) (v := undef) rfl (by kernel_rfl) (by kernel_rfl) (by kernel_rfl) (fun _ _ _ h => h) (Or.inr ⟨by rfl, rfl⟩) (by assumption) ?_
                  try simp only [Act.put, List.setIfInBounds_toArray, List.set_cons_zero, List.set_cons_succ]
                  refine wpAnyH_take (i := 35) (oi := { dst := some 84, op := Op.pick (Operand.tmp 70) (Operand.tmp 83) (Operand.const (Value.bool false)), type := 4, pos := "model.go:24", after := #[{ on := 21, ground := Ground.data }, { on := 34, ground := Ground.data }, { on := 17, ground := Ground.guard }], guard := some (17, false) }) (v := undef) rfl (by kernel_rfl) (by kernel_rfl) (by kernel_rfl) (fun _ _ _ h => h) (Or.inr ⟨by rfl, rfl⟩) (by assumption) ?_
                  try simp only [Act.put, List.setIfInBounds_toArray, List.set_cons_zero, List.set_cons_succ]
                  refine wpAnyH_take (i := 36) (oi := { dst := some 85, op := Op.pick (Operand.tmp 66) (Operand.const (Value.bool true)) (Operand.tmp 84), type := 4, pos := "model.go:24", after := #[{ on := 17, ground := Ground.data }, { on := 35, ground := Ground.data }], guard := none }) (v := ?vBz36) rfl (by kernel_rfl) (by kernel_rfl) (by kernel_rfl) (fun _ _ _ h => h) (Or.inl ⟨by rfl, ?yBz36⟩) (by assumption) ?rBz36
                  case yBz36 => (intro W hSW; (try dsimp only at hSW); first | (go_simp; done) | (go_simp; with_reducible rfl))
                  try simp only [Act.put, List.setIfInBounds_toArray, List.set_cons_zero, List.set_cons_succ]
                  refine wpAnyH_done (by kernel_rfl) ?_ _
                  have hEND := hgr1
                  clear hHeld
                  have HR : Hid (validM ns us st F L lp = false) := Lib.hid (validM_not (i := i) (fd := fd) (l := l) HFD.out.1 HL.out.1 (by rw [HZ.out.1, HN.out.2.1, HFB.out]; rfl))
                  have HE := Lib.hid (HG.out.trans (HGJ.out.2.trans hEND)); clear hEND
                  go_wp2_with fail
                  go_ret
                  exact ⟨by rw [HR.out]; rfl, HE.out⟩
                | true =>
                  cases Y with
                  | true =>
                    have HS := Lib.hid (fun (W : World) (hW : wr.grownBy W none) => (⟨hW, hW.cell a1 (by simp), hW.cell b0 (by simp), hW.cell b1 (by simp), hW.cell b2 (by simp), hW.cell b3 (by simp), hW.cell p2 (by simp), hW.cell q0 (by simp), hW.cell q1 (by simp), hW.cell x0 (by simp), hW.cell x1 (by simp), hW.cell d1 (by simp), hW.cell z0 (by simp), hW.cell z1 (by simp)⟩ : (fun W : World => wr.grownBy W none ∧ W.cell? ⟨w.heap.size, 1, none⟩ = some (.slice (some ⟨fb, fo, none⟩) p fc) ∧ W.cell? ⟨w.heap.size + 1, 0, none⟩ = some (.slice sa n sc) ∧ W.cell? ⟨w.heap.size + 1, 1, none⟩ = some (.int .i64 st) ∧ W.cell? ⟨w.heap.size + 1, 2, none⟩ = some (.slice (some ⟨tb, to, none⟩) k tc) ∧ W.cell? ⟨w.heap.size + 1, 3, none⟩ = some (.int .i64 lp) ∧ W.cell? ⟨pb, 2, none⟩ = some (.bool true) ∧ W.cell? ⟨qb, 0, none⟩ = some (.int .i64 K) ∧ W.cell? ⟨qb, 1, none⟩ = some (.slice fla fm flc) ∧ W.cell? ⟨lb, lo + i * 2, none⟩ = some (.int .i64 r.1) ∧ W.cell? ⟨lb, lo + i * 2 + 1, none⟩ = some (.slice ra rn rc) ∧ W.cell? ⟨tb, to, none⟩ = some (.slice (some ⟨l0b, l0o, none⟩) p lc0) ∧ W.cell? ⟨l0b, l0o + i * 2, none⟩ = some (.int .i64 r0.1) ∧ W.cell? ⟨l0b, l0o + i * 2 + 1, none⟩ = some (.slice ra0 rn0 rc0)) W))
                    clear a1 b0 b1 b2 b3 p2 q0 q1 x0 x1 d1 z0 z1 p0 p1 a0 a2 a3 d0
                    have hdr : wr.grownBy wr.drew none := ⟨rfl, rfl, rfl, Nat.le_refl _, fun _ _ _ => rfl⟩
                    refine wp_region_held_drew (S := (fun W : World => wr.grownBy W none ∧ W.cell? ⟨w.heap.size, 1, none⟩ = some (.slice (some ⟨fb, fo, none⟩) p fc) ∧ W.cell? ⟨w.heap.size + 1, 0, none⟩ = some (.slice sa n sc) ∧ W.cell? ⟨w.heap.size + 1, 1, none⟩ = some (.int .i64 st) ∧ W.cell? ⟨w.heap.size + 1, 2, none⟩ = some (.slice (some ⟨tb, to, none⟩) k tc) ∧ W.cell? ⟨w.heap.size + 1, 3, none⟩ = some (.int .i64 lp) ∧ W.cell? ⟨pb, 2, none⟩ = some (.bool true) ∧ W.cell? ⟨qb, 0, none⟩ = some (.int .i64 K) ∧ W.cell? ⟨qb, 1, none⟩ = some (.slice fla fm flc) ∧ W.cell? ⟨lb, lo + i * 2, none⟩ = some (.int .i64 r.1) ∧ W.cell? ⟨lb, lo + i * 2 + 1, none⟩ = some (.slice ra rn rc) ∧ W.cell? ⟨tb, to, none⟩ = some (.slice (some ⟨l0b, l0o, none⟩) p lc0) ∧ W.cell? ⟨l0b, l0o + i * 2, none⟩ = some (.int .i64 r0.1) ∧ W.cell? ⟨l0b, l0o + i * 2 + 1, none⟩ = some (.slice ra0 rn0 rc0))) (by kernel_rfl) (HS.out _ hdr) (fun hHeld => ?_)
                    refine wpAnyH_take (i := 0) (oi := { dst := some 49, op := Op.move (Operand.tmp 9), type := 40, pos := "model.go:24", after := #[], guard := none }) (v := ?vCz0) rfl (by kernel_rfl) (by kernel_rfl) (by kernel_rfl) (fun _ _ _ h => h) (Or.inl ⟨by rfl, ?yCz0⟩) (by assumption) ?rCz0
                    case yCz0 => (intro W hSW; (try dsimp only at hSW); first | (go_simp; done) | (go_simp; with_reducible rfl))
                    try simp only [Act.put, List.setIfInBounds_toArray, List.set_cons_zero, List.set_cons_succ]
                    refine wpAnyH_take (i := 1) (oi := { dst := some 50, op := Op.call { callee := Callee.builtin Builtin.len, args := #[Operand.tmp 49], argTypes := #[40] }, type := 3, pos := "model.go:24", after := #[{ on := 0, ground := Ground.data }], guard := none }) (v := ?vCz1) rfl (by kernel_rfl) (by kernel_rfl) (by kernel_rfl) (fun _ _ _ h => h) (Or.inl ⟨by rfl, ?yCz1⟩) (by assumption) ?rCz1
                    case yCz1 => (intro W hSW; (try dsimp only at hSW); first | (go_simp; done) | (go_simp; with_reducible rfl))
                    try simp only [Act.put, List.setIfInBounds_toArray, List.set_cons_zero, List.set_cons_succ]
                    refine wpAnyH_take (i := 2) (oi := { dst := some 51, op := Op.fieldAddr 27 (Operand.tmp 2) 1, type := 0, pos := "model.go:24", after := #[], guard := none }) (v := ?vCz2) rfl (by kernel_rfl) (by kernel_rfl) (by kernel_rfl) (fun _ _ _ h => h) (Or.inl ⟨by rfl, ?yCz2⟩) (by assumption) ?rCz2
                    case yCz2 => (intro W hSW; (try dsimp only at hSW); first | (go_simp; done) | (go_simp; with_reducible rfl))
                    try simp only [Act.put, List.setIfInBounds_toArray, List.set_cons_zero, List.set_cons_succ]
                    refine wpAnyH_take (i := 3) (oi := { dst := some 52, op := Op.load 23 (Operand.tmp 51), type := 23, pos := "model.go:24", after := #[{ on := 2, ground := Ground.data }], guard := none }) (v := ?vCz3) rfl (by kernel_rfl) (by kernel_rfl) (by kernel_rfl) (fun _ _ _ h => h) (Or.inl ⟨by rfl, ?yCz3⟩) (by assumption) ?rCz3
                    case yCz3 => (intro W hSW; (try dsimp only at hSW); first | (go_simp; done) | (go_simp; with_reducible rfl))
                    try simp only [Act.put, List.setIfInBounds_toArray, List.set_cons_zero, List.set_cons_succ]
                    refine wpAnyH_take (i := 4) (oi := { dst := some 53, op := Op.call { callee := Callee.builtin Builtin.len, args := #[Operand.tmp 52], argTypes := #[23] }, type := 3, pos := "model.go:24", after := #[{ on := 3, ground := Ground.data }], guard := none }) (v := ?vCz4) rfl (by kernel_rfl) (by kernel_rfl) (by kernel_rfl) (fun _ _ _ h => h) (Or.inl ⟨by rfl, ?yCz4⟩) (by assumption) ?rCz4
                    case yCz4 => (intro W hSW; (try dsimp only at hSW); first | (go_simp; done) | (go_simp; with_reducible rfl))
                    try simp only [Act.put, List.setIfInBounds_toArray, List.set_cons_zero, List.set_cons_succ]
                    refine wpAnyH_take (i := 5) (oi := { dst := some 54, op := Op.binOp BinOp.neq 3 (Operand.tmp 50) (Operand.tmp 53) 3, type := 4, pos := "model.go:24", after := #[{ on := 1, ground := Ground.data }, { on := 4, ground := Ground.data }], guard := none }) (v := ?vCz5) rfl (by kernel_rfl) (by kernel_rfl) (by kernel_rfl) (fun _ _ _ h => h) (Or.inl ⟨by rfl, ?yCz5⟩) (by assumption) ?rCz5
                    case yCz5 => (intro W hSW; (try dsimp only at hSW); first | (go_simp; done) | (go_simp; with_reducible rfl))
                    try simp only [Act.put, List.setIfInBounds_toArray, List.set_cons_zero, List.set_cons_succ]
                    refine wpAnyH_take (i := 6) (oi := { dst := some 55, op := Op.move (Operand.tmp 54), type := 4, pos := "model.go:24", after := #[{ on := 5, ground := Ground.data }], guard := none }) (v := ?vCz6) rfl (by kernel_rfl) (by kernel_rfl) (by kernel_rfl) (fun _ _ _ h => h) (Or.inl ⟨by rfl, ?yCz6⟩) (by assumption) ?rCz6
                    case yCz6 => (intro W hSW; (try dsimp only at hSW); first | (go_simp; done) | (go_simp; with_reducible rfl))
                    try simp only [Act.put, List.setIfInBounds_toArray, List.set_cons_zero, List.set_cons_succ]
                    refine wpAnyH_take (i := 7) (oi := { dst := some 56, op := Op.fieldAddr 33 (Operand.tmp 3) 0, type := 0, pos := "model.go:24", after := #[{ on := 6, ground := Ground.guard }], guard := some (6, false) }) (v := ?vCz7) rfl (by kernel_rfl) (by kernel_rfl) (by kernel_rfl) (fun _ _ _ h => h) (Or.inl ⟨by rfl, ?yCz7⟩) (by assumption) ?rCz7
                    case yCz7 => (intro W hSW; (try dsimp only at hSW); first | (go_simp; done) | (go_simp; with_reducible rfl))
                    try simp only [Act.put, List.setIfInBounds_toArray, List.set_cons_zero, List.set_cons_succ]
                    refine wpAnyH_take (i := 8) (oi := { dst := some 57, op := Op.load 30 (Operand.tmp 56), type := 30, pos := "model.go:24", after := #[{ on := 7, ground := Ground.data }, { on := 6, ground := Ground.guard }], guard := some (6, false) }) (v := ?vCz8) rfl (by kernel_rfl) (by kernel_rfl) (by kernel_rfl) (fun _ _ _ h => h) (Or.inl ⟨by rfl, ?yCz8⟩) (by assumption) ?rCz8
                    case yCz8 => (intro W hSW; (try dsimp only at hSW); first | (go_simp; done) | (go_simp; with_reducible rfl))
                    try simp only [Act.put, List.setIfInBounds_toArray, List.set_cons_zero, List.set_cons_succ]
                    refine wpAnyH_take (i := 9) (oi := { dst := some 58, op := Op.move (Operand.tmp 9), type := 40, pos := "model.go:24", after := #[{ on := 6, ground := Ground.guard }], guard := some (6, false) }) (v := ?vCz9) rfl (by kernel_rfl) (by kernel_rfl) (by kernel_rfl) (fun _ _ _ h => h) (Or.inl ⟨by rfl, ?yCz9⟩) (by assumption) ?rCz9
                    case yCz9 => (intro W hSW; (try dsimp only at hSW); first | (go_simp; done) | (go_simp; with_reducible rfl))
                    try simp only [Act.put, List.setIfInBounds_toArray, List.set_cons_zero, List.set_cons_succ]
                    refine wpAnyH_take (i := 10) (oi := { dst := some 59, op := Op.move (Operand.tmp 5), type := 3, pos := "model.go:24", after := #[{ on := 6, ground := Ground.guard }], guard := some (6, false) }) (v := ?vCz10) rfl (by kernel_rfl) (by kernel_rfl) (by kernel_rfl) (fun _ _ _ h => h) (Or.inl ⟨by rfl, ?yCz10⟩) (by assumption) ?rCz10
                    case yCz10 => (intro W hSW; (try dsimp only at hSW); first | (go_simp; done) | (go_simp; with_reducible rfl))
                    try simp only [Act.put, List.setIfInBounds_toArray, List.set_cons_zero, List.set_cons_succ]
                    refine wpAnyH_take (i := 11) (oi := { dst := some 60, op := Op.indexAddr 40 (Operand.tmp 58) (Operand.tmp 59), type := 0, pos := "model.go:24", after := #[{ on := 9, ground := Ground.data }, { on := 10, ground := Ground.data }, { on := 6, ground := Ground.guard }], guard := some (6, false) }) (v := ?vCz11) rfl (by kernel_rfl) (by kernel_rfl) (by kernel_rfl) (fun _ _ _ h => h) (Or.inl ⟨by rfl, ?yCz11⟩) (by assumption) ?rCz11
                    case yCz11 => (intro W hSW; (try dsimp only at hSW); first | (go_simp; done) | (go_simp; with_reducible rfl))
                    try simp only [Act.put, List.setIfInBounds_toArray, List.set_cons_zero, List.set_cons_succ]
                    refine wpAnyH_take (i := 12) (oi := { dst := some 61, op := Op.load 53 (Operand.tmp 60), type := 53, pos := "model.go:24", after := #[{ on := 11, ground := Ground.data }, { on := 6, ground := Ground.guard }], guard := some (6, false) }) (v := ?vCz12) rfl (by kernel_rfl) (by kernel_rfl) (by kernel_rfl) (fun _ _ _ h => h) (Or.inl ⟨by rfl, ?yCz12⟩) (by assumption) ?rCz12
                    case yCz12 => (intro W hSW; (try dsimp only at hSW); first | (go_simp; done) | (go_simp; with_reducible rfl))
                    try simp only [Act.put, List.setIfInBounds_toArray, List.set_cons_zero, List.set_cons_succ]
                    refine wpAnyH_take (i := 13) (oi := { dst := some 62, op := Op.load 53 (Operand.tmp 7), type := 53, pos := "model.go:24", after := #[{ on := 6, ground := Ground.guard }], guard := some (6, false) }) (v := ?vCz13) rfl (by kernel_rfl) (by kernel_rfl) (by kernel_rfl) (fun _ _ _ h => h) (Or.inl ⟨by rfl, ?yCz13⟩) (by assumption) ?rCz13
                    case yCz13 => (intro W hSW; (try dsimp only at hSW); first | (go_simp; done) | (go_simp; with_reducible rfl))
                    try simp only [Act.put, List.setIfInBounds_toArray, List.set_cons_zero, List.set_cons_succ]
                    refine wpAnyH_ready (rs := [14]) (by kernel_rfl) (by simp) ?_
                    refine AllReadyH.cons (o := { dst := some 63, op := Op.call { callee := Callee.value (Operand.func 66), args := #[Operand.tmp 57, Operand.tmp 61, Operand.tmp 62], argTypes := #[30, 53, 53] }, type := 4, pos := "model.go:24", after := #[{ on := 8, ground := Ground.data }, { on := 12, ground := Ground.data }, { on := 13, ground := Ground.data }, { on := 6, ground := Ground.chain }, { on := 6, ground := Ground.guard }], guard := some (6, false) }) rfl (fun K hK => ?_) AllReadyH.nil
                    go_simp
                    go_at_call 66
                    refine (HFIT.out _ hdr).mono ?_
                    rintro e wc1 ⟨rfl, gc1⟩
                    go_wp2_with fail
                    have hgr1 := World.grownBy.trans hdr gc1
                    refine hK.out _ _ (HS.out _ hgr1) (fun hHeld => ?_)
                    clear hK K
                    try simp only [Act.put, List.setIfInBounds_toArray, List.set_cons_zero, List.set_cons_succ]
                    refine wpAnyH_take (i := 15) (oi := { dst := some 64, op := Op.unOp UnOp.not 4 (Operand.tmp 63), type := 4, pos := "model.go:24", after := #[{ on := 14, ground := Ground.data }, { on := 6, ground := Ground.guard }], guard := some (6, false) }) (v := ?vCz15) rfl (by kernel_rfl) (by kernel_rfl) (by kernel_rfl) (fun _ _ _ h => h) (Or.inl ⟨by rfl, ?yCz15⟩) (by assumption) ?rCz15
                    case yCz15 => (intro W hSW; (try dsimp only at hSW); first | (go_simp; done) | (go_simp; with_reducible rfl))
                    try simp only [Act.put, List.setIfInBounds_toArray, List.set_cons_zero, List.set_cons_succ]
                    refine wpAnyH_take (i := 16) (oi := { dst := some 65, op := Op.pick (Operand.tmp 55) (Operand.const (Value.bool true)) (Operand.tmp 64), type := 4, pos := "model.go:24", after := #[{ on := 6, ground := Ground.data }, { on := 15, ground := Ground.data }], guard := none }) (v := ?vCz16) rfl (by kernel_rfl) (by kernel_rfl) (by kernel_rfl) (fun _ _ _ h => h) (Or.inl ⟨by rfl, ?yCz16⟩) (by assumption) ?rCz16
                    case yCz16 => (intro W hSW; (try dsimp only at hSW); first | (go_simp; done) | (go_simp; with_reducible rfl))
                    try simp only [Act.put, List.setIfInBounds_toArray, List.set_cons_zero, List.set_cons_succ]
                    refine wpAnyH_take (i := 17) (oi := { dst := some 66, op := Op.move (Operand.tmp 65), type := 4, pos := "model.go:24", after := #[{ on := 16, ground := Ground.data }, { on := 14, ground := Ground.chain }], guard := none }) (v := ?vCz17) rfl (by kernel_rfl) (by kernel_rfl) (by kernel_rfl) (fun _ _ _ h => h) (Or.inl ⟨by rfl, ?yCz17⟩) (by assumption) ?rCz17
                    case yCz17 => (intro W hSW; (try dsimp only at hSW); first | (go_simp; done) | (go_simp; with_reducible rfl))
                    try simp only [Act.put, List.setIfInBounds_toArray, List.set_cons_zero, List.set_cons_succ]
                    refine wpAnyH_take (i := 18) (oi := { dst := some 67, op := Op.fieldAddr 51 (Operand.tmp 6) 2, type := 0, pos := "model.go:24", after := #[{ on := 17, ground := Ground.guard }], guard := some (17, false) }) (v := ?vCz18) rfl (by kernel_rfl) (by kernel_rfl) (by kernel_rfl) (fun _ _ _ h => h) (Or.inl ⟨by rfl, ?yCz18⟩) (by assumption) ?rCz18
                    case yCz18 => (intro W hSW; (try dsimp only at hSW); first | (go_simp; done) | (go_simp; with_reducible rfl))
                    try simp only [Act.put, List.setIfInBounds_toArray, List.set_cons_zero, List.set_cons_succ]
                    refine wpAnyH_take (i := 19) (oi := { dst := some 68, op := Op.load 4 (Operand.tmp 67), type := 4, pos := "model.go:24", after := #[{ on := 18, ground := Ground.data }, { on := 17, ground := Ground.guard }], guard := some (17, false) }) (v := ?vCz19) rfl (by kernel_rfl) (by kernel_rfl) (by kernel_rfl) (fun _ _ _ h => h) (Or.inl ⟨by rfl, ?yCz19⟩) (by assumption) ?rCz19
                    case yCz19 => (intro W hSW; (try dsimp only at hSW); first | (go_simp; done) | (go_simp; with_reducible rfl))
                    try simp only [Act.put, List.setIfInBounds_toArray, List.set_cons_zero, List.set_cons_succ]
                    refine wpAnyH_take (i := 20) (oi := { dst := some 69, op := Op.unOp UnOp.not 4 (Operand.tmp 68), type := 4, pos := "model.go:24", after := #[{ on := 19, ground := Ground.data }, { on := 17, ground := Ground.guard }], guard := some (17, false) }) (v := ?vCz20) rfl (by kernel_rfl) (by kernel_rfl) (by kernel_rfl) (fun _ _ _ h => h) (Or.inl ⟨by rfl, ?yCz20⟩) (by assumption) ?rCz20
                    case yCz20 => (intro W hSW; (try dsimp only at hSW); first | (go_simp; done) | (go_simp; with_reducible rfl))
                    try simp only [Act.put, List.setIfInBounds_toArray, List.set_cons_zero, List.set_cons_succ]
                    refine wpAnyH_take (i := 21) (oi := { dst := some 70, op := Op.move (Operand.tmp 69), type := 4, pos := "model.go:24", after := #[{ on := 20, ground := Ground.data }, { on := 17, ground := Ground.chain }, { on := 17, ground := Ground.guard }], guard := some (17, false) }) (v := ?vCz21) rfl (by kernel_rfl) (by kernel_rfl) (by kernel_rfl) (fun _ _ _ h => h) (Or.inl ⟨by rfl, ?yCz21⟩) (by assumption) ?rCz21
                    case yCz21 => (intro W hSW; (try dsimp only at hSW); first | (go_simp; done) | (go_simp; with_reducible rfl))
                    try simp only [Act.put, List.setIfInBounds_toArray, List.set_cons_zero, List.set_cons_succ]
                    refine wpAnyH_take (i := 22) (oi := { dst := some 71, op := Op.move (Operand.tmp 9), type := 40, pos := "model.go:24", after := #[{ on := 21, ground := Ground.guard }], guard := some (21, true) }) (v := undef) rfl (by kernel_rfl) (by kernel_rfl) (by kernel_rfl) (fun _ _ _ h => h) (Or.inr ⟨by rfl, rfl⟩) (by assumption) ?_
                    try simp only [Act.put, List.setIfInBounds_toArray, List.set_cons_zero, List.set_cons_succ]
                    refine wpAnyH_take (i := 23) (oi := { dst := some 72, op := Op.move (Operand.tmp 5), type := 3, pos := "model.go:24", after := #[{ on := 21, ground := Ground.guard }], guard := some (21, true) }) (v := undef) rfl (by kernel_rfl) (by kernel_rfl) (by kernel_rfl) (fun _ _ _ h => h) (Or.inr ⟨by rfl, rfl⟩) (by assumption) ?_
                    try simp only [Act.put, List.setIfInBounds_toArray, List.set_cons_zero, List.set_cons_succ]
                    refine wpAnyH_take (i := 24) (oi := { dst := some 73, op := Op.indexAddr 40 (Operand.tmp 71) (Operand.tmp 72), type := 0, pos := "model.go:24", after := #[{ on := 22, ground := Ground.data }, { on := 23, ground := Ground.data }, { on := 21, ground := Ground.guard }], guard := some (21, true) }) (v := undef) rfl (by kernel_rfl) (by kernel_rfl) (by kernel_rfl) (fun _ _ _ h => h) (Or.inr ⟨by rfl, rfl⟩) (by assumption) ?_
                    try simp only [Act.put, List.setIfInBounds_toArray, List.set_cons_zero, List.set_cons_succ]
                    refine wpAnyH_take (i := 25) (oi := { dst := some 74, op := Op.load 53 (Operand.tmp 73), type := 53, pos := "model.go:24", after := #[{ on := 24, ground := Ground.data }, { on := 21, ground := Ground.guard }], guard := some (21, true) }) (v := undef) rfl (by kernel_rfl) (by kernel_rfl) (by kernel_rfl) (fun _ _ _ h => h) (Or.inr ⟨by rfl, rfl⟩) (by assumption) ?_
                    try simp only [Act.put, List.setIfInBounds_toArray, List.set_cons_zero, List.set_cons_succ]
                    refine wpAnyH_take (i := 26) (oi := { dst := some 75, op := Op.fieldAddr 33 (Operand.tmp 3) 1, type := 0, pos := "model.go:24", after := #[{ on := 21, ground := Ground.guard }], guard := some (21, true) }) (v := undef) rfl (by kernel_rfl) (by kernel_rfl) (by kernel_rfl) (fun _ _ _ h => h) (Or.inr ⟨by rfl, rfl⟩) (by assumption) ?_
                    try simp only [Act.put, List.setIfInBounds_toArray, List.set_cons_zero, List.set_cons_succ]
                    refine wpAnyH_take (i := 27) (oi := { dst := some 76, op := Op.load 31 (Operand.tmp 75), type := 31, pos := "model.go:24", after := #[{ on := 26, ground := Ground.data }, { on := 21, ground := Ground.guard }], guard := some (21, true) }) (v := undef) rfl (by kernel_rfl) (by kernel_rfl) (by kernel_rfl) (fun _ _ _ h => h) (Or.inr ⟨by rfl, rfl⟩) (by assumption) ?_
                    try simp only [Act.put, List.setIfInBounds_toArray, List.set_cons_zero, List.set_cons_succ]
                    refine wpAnyH_take (i := 28) (oi := { dst := some 77, op := Op.indexAddr 31 (Operand.tmp 76) (Operand.const (Value.int IntKind.i64 0)), type := 0, pos := "model.go:24", after := #[{ on := 27, ground := Ground.data }, { on := 21, ground := Ground.guard }], guard := some (21, true) }) (v := undef) rfl (by kernel_rfl) (by kernel_rfl) (by kernel_rfl) (fun _ _ _ h => h) (Or.inr ⟨by rfl, rfl⟩) (by assumption) ?_
                    try simp only [Act.put, List.setIfInBounds_toArray, List.set_cons_zero, List.set_cons_succ]
                    refine wpAnyH_take (i := 29) (oi := { dst := some 78, op := Op.load 40 (Operand.tmp 77), type := 40, pos := "model.go:24", after := #[{ on := 28, ground := Ground.data }, { on := 21, ground := Ground.guard }], guard := some (21, true) }) (v := undef) rfl (by kernel_rfl) (by kernel_rfl) (by kernel_rfl) (fun _ _ _ h => h) (Or.inr ⟨by rfl, rfl⟩) (by assumption) ?_
                    try simp only [Act.put, List.setIfInBounds_toArray, List.set_cons_zero, List.set_cons_succ]
                    refine wpAnyH_take (i := 30) (oi := { dst := some 79, op := Op.move (Operand.tmp 5), type := 3, pos := "model.go:24", after := #[{ on := 21, ground := Ground.guard }], guard := some (21, true) }) (v := undef) rfl (by kernel_rfl) (by kernel_rfl) (by kernel_rfl) (fun _ _ _ h => h) (Or.inr ⟨by rfl, rfl⟩) (by assumption) ?_
                    try simp only [Act.put, List.setIfInBounds_toArray, List.set_cons_zero, List.set_cons_succ]
                    refine wpAnyH_take (i := 31) (oi := { dst := some 80, op := Op.indexAddr 40 (Operand.tmp 78) (Operand.tmp 79), type := 0, pos := "model.go:24", after := #[{ on := 29, ground := Ground.data }, { on := 30, ground := Ground.data }, { on := 21, ground := Ground.guard }], guard := some (21, true) }) (v := undef) rfl (by kernel_rfl) (by kernel_rfl) (by kernel_rfl) (fun _ _ _ h => h) (Or.inr ⟨by rfl, rfl⟩) (by assumption) ?_
                    try simp only [Act.put, List.setIfInBounds_toArray, List.set_cons_zero, List.set_cons_succ]
                    refine wpAnyH_take (i := 32) (oi := { dst := some 81, op := Op.load 53 (Operand.tmp 80), type := 53, pos := "model.go:24", after := #[{ on := 31, ground := Ground.data }, { on := 21, ground := Ground.guard }], guard := some (21, true) }) (v := undef) rfl (by kernel_rfl) (by kernel_rfl) (by kernel_rfl) (fun _ _ _ h => h) (Or.inr ⟨by rfl, rfl⟩) (by assumption) ?_
                    try simp only [Act.put, List.setIfInBounds_toArray, List.set_cons_zero, List.set_cons_succ]
                    refine wpAnyH_take (i := 33) (oi := { dst := some 82, op := Op.call { callee := Callee.value (Operand.func 67), args := #[Operand.tmp 74, Operand.tmp 81], argTypes := #[53, 53] }, type := 4, pos := "model.go:24", after := #[{ on := 25, ground := Ground.data }, { on := 32, ground := Ground.data }, { on := 21, ground := Ground.chain }, { on := 21, ground := Ground.guard }], guard := some (21, true) }) (v := undef) rfl (by kernel_rfl) (by kernel_rfl) (by kernel_rfl) (fun _ _ _ h => h) (Or.inr ⟨by rfl, rfl⟩) (by assumption) ?_
                    try simp only [Act.put, List.setIfInBounds_toArray, List.set_cons_zero, List.set_cons_succ]
                    refine wpAnyH_take (i := 34) (oi := { dst := some 83, op := Op.unOp UnOp.not 4 (Operand.tmp 82), type := 4, pos := "model.go:24", after := #[{ on := 33, ground := Ground.data }, { on := 21, ground := Ground.guard }], guard := some (21, true) }) (v := undef) rfl (by kernel_rfl) (by kernel_rfl) (by kernel_rfl) (fun _ _ _ h => h) (Or.inr ⟨by rfl, rfl⟩) (by assumption) ?_
                    try simp only [Act.put, List.setIfInBounds_toArray, List.set_cons_zero, List.set_cons_succ]
                    refine wpAnyH_take (i := 35) (oi := { dst := some 84, op := Op.pick (Operand.tmp 70) (Operand.tmp 83) (Operand.const (Value.bool false)), type := 4, pos := "model.go:24", after := #[{ on := 21, ground := Ground.data }, { on := 34, ground := Ground.data }, { on := 17, ground := Ground.guard }], guard := some (17, false) }) (v := ?vCz35) rfl (by kernel_rfl) (by kernel_rfl) (by kernel_rfl) (fun _ _ _ h => h) (Or.inl ⟨by rfl, ?yCz35⟩) (by assumption) ?rCz35
                    case yCz35 => (intro W hSW; (try dsimp only at hSW); first | (go_simp; done) | (go_simp; with_reducible rfl))
                    try simp only [Act.put, List.setIfInBounds_toArray, List.set_cons_zero, List.set_cons_succ]
                    refine wpAnyH_take (i := 36) (oi := { dst := some 85, op := Op.pick (Operand.tmp 66) (Operand.const (Value.bool true)) (Operand.tmp 84), type := 4, pos := "model.go:24", after := #[{ on := 17, ground := Ground.data }, { on := 35, ground := Ground.data }], guard := none }) (v := ?vCz36) rfl (by kernel_rfl) (by kernel_rfl) (by kernel_rfl) (fun _ _ _ h => h) (Or.inl ⟨by rfl, ?yCz36⟩) (by assumption) ?rCz36
                    case yCz36 => (intro W hSW; (try dsimp only at hSW); first | (go_simp; done) | (go_simp; with_reducible rfl))
                    try simp only [Act.put, List.setIfInBounds_toArray, List.set_cons_zero, List.set_cons_succ]
                    refine wpAnyH_done (by kernel_rfl) ?_ _
                    have hEND := hgr1
                    clear hHeld
                    have HE := Lib.hid (HGJ.out.1.trans hEND); clear hEND
                    go_wp2_with fail
                    go_roundg (k - (j + 1))
                    case measure => rw [HJ.out.1]; omega
                    case rel => exact ⟨j + 1, rfl, rfl, by omega, fun l' hl' => by
                      rw [List.take_add_one, HL.out.1, Option.toList_some, List.mem_append, List.mem_singleton] at hl'
                      rcases hl' with h1 | rfl
                      · exact HJ.out.2 l' h1
                      · rw [HFB.out]; rfl, HE.out⟩
                  | false =>
                    cases E with
                    | false =>
                      have HS := Lib.hid (fun (W : World) (hW : wr.grownBy W none) => (⟨hW, hW.cell a1 (by simp), hW.cell b0 (by simp), hW.cell b1 (by simp), hW.cell b2 (by simp), hW.cell b3 (by simp), hW.cell p2 (by simp), hW.cell q0 (by simp), hW.cell q1 (by simp), hW.cell x0 (by simp), hW.cell x1 (by simp), hW.cell d1 (by simp), hW.cell z0 (by simp), hW.cell z1 (by simp)⟩ : (fun W : World => wr.grownBy W none ∧ W.cell? ⟨w.heap.size, 1, none⟩ = some (.slice (some ⟨fb, fo, none⟩) p fc) ∧ W.cell? ⟨w.heap.size + 1, 0, none⟩ = some (.slice sa n sc) ∧ W.cell? ⟨w.heap.size + 1, 1, none⟩ = some (.int .i64 st) ∧ W.cell? ⟨w.heap.size + 1, 2, none⟩ = some (.slice (some ⟨tb, to, none⟩) k tc) ∧ W.cell? ⟨w.heap.size + 1, 3, none⟩ = some (.int .i64 lp) ∧ W.cell? ⟨pb, 2, none⟩ = some (.bool false) ∧ W.cell? ⟨qb, 0, none⟩ = some (.int .i64 K) ∧ W.cell? ⟨qb, 1, none⟩ = some (.slice fla fm flc) ∧ W.cell? ⟨lb, lo + i * 2, none⟩ = some (.int .i64 r.1) ∧ W.cell? ⟨lb, lo + i * 2 + 1, none⟩ = some (.slice ra rn rc) ∧ W.cell? ⟨tb, to, none⟩ = some (.slice (some ⟨l0b, l0o, none⟩) p lc0) ∧ W.cell? ⟨l0b, l0o + i * 2, none⟩ = some (.int .i64 r0.1) ∧ W.cell? ⟨l0b, l0o + i * 2 + 1, none⟩ = some (.slice ra0 rn0 rc0)) W))
                      clear a1 b0 b1 b2 b3 p2 q0 q1 x0 x1 d1 z0 z1 p0 p1 a0 a2 a3 d0
                      have hdr : wr.grownBy wr.drew none := ⟨rfl, rfl, rfl, Nat.le_refl _, fun _ _ _ => rfl⟩
                      refine wp_region_held_drew (S := (fun W : World => wr.grownBy W none ∧ W.cell? ⟨w.heap.size, 1, none⟩ = some (.slice (some ⟨fb, fo, none⟩) p fc) ∧ W.cell? ⟨w.heap.size + 1, 0, none⟩ = some (.slice sa n sc) ∧ W.cell? ⟨w.heap.size + 1, 1, none⟩ = some (.int .i64 st) ∧ W.cell? ⟨w.heap.size + 1, 2, none⟩ = some (.slice (some ⟨tb, to, none⟩) k tc) ∧ W.cell? ⟨w.heap.size + 1, 3, none⟩ = some (.int .i64 lp) ∧ W.cell? ⟨pb, 2, none⟩ = some (.bool false) ∧ W.cell? ⟨qb, 0, none⟩ = some (.int .i64 K) ∧ W.cell? ⟨qb, 1, none⟩ = some (.slice fla fm flc) ∧ W.cell? ⟨lb, lo + i * 2, none⟩ = some (.int .i64 r.1) ∧ W.cell? ⟨lb, lo + i * 2 + 1, none⟩ = some (.slice ra rn rc) ∧ W.cell? ⟨tb, to, none⟩ = some (.slice (some ⟨l0b, l0o, none⟩) p lc0) ∧ W.cell? ⟨l0b, l0o + i * 2, none⟩ = some (.int .i64 r0.1) ∧ W.cell? ⟨l0b, l0o + i * 2 + 1, none⟩ = some (.slice ra0 rn0 rc0))) (by kernel_rfl) (HS.out _ hdr) (fun hHeld => ?_)
                      refine wpAnyH_take (i := 0) (oi := { dst := some 49, op := Op.move (Operand.tmp 9), type := 40, pos := "model.go:24", after := #[], guard := none }) (v := ?vDz0) rfl (by kernel_rfl) (by kernel_rfl) (by kernel_rfl) (fun _ _ _ h => h) (Or.inl ⟨by rfl, ?yDz0⟩) (by assumption) ?rDz0
                      case yDz0 => (intro W hSW; (try dsimp only at hSW); first | (go_simp; done) | (go_simp; with_reducible rfl))
                      try simp only [Act.put, List.setIfInBounds_toArray, List.set_cons_zero, List.set_cons_succ]
                      refine wpAnyH_take (i := 1) (oi := { dst := some 50, op := Op.call { callee := Callee.builtin Builtin.len, args := #[Operand.tmp 49], argTypes := #[40] }, type := 3, pos := "model.go:24", after := #[{ on := 0, ground := Ground.data }], guard := none }) (v := ?vDz1) rfl (by kernel_rfl) (by kernel_rfl) (by kernel_rfl) (fun _ _ _ h => h) (Or.inl ⟨by rfl, ?yDz1⟩) (by assumption) ?rDz1
                      case yDz1 => (intro W hSW; (try dsimp only at hSW); first | (go_simp; done) | (go_simp; with_reducible rfl))
                      try simp only [Act.put, List.setIfInBounds_toArray, List.set_cons_zero, List.set_cons_succ]
                      refine wpAnyH_take (i := 2) (oi := { dst := some 51, op := Op.fieldAddr 27 (Operand.tmp 2) 1, type := 0, pos := "model.go:24", after := #[], guard := none }) (v := ?vDz2) rfl (by kernel_rfl) (by kernel_rfl) (by kernel_rfl) (fun _ _ _ h => h) (Or.inl ⟨by rfl, ?yDz2⟩) (by assumption) ?rDz2
                      case yDz2 => (intro W hSW; (try dsimp only at hSW); first | (go_simp; done) | (go_simp; with_reducible rfl))
                      try simp only [Act.put, List.setIfInBounds_toArray, List.set_cons_zero, List.set_cons_succ]
                      refine wpAnyH_take (i := 3) (oi := { dst := some 52, op := Op.load 23 (Operand.tmp 51), type := 23, pos := "model.go:24", after := #[{ on := 2, ground := Ground.data }], guard := none }) (v := ?vDz3) rfl (by kernel_rfl) (by kernel_rfl) (by kernel_rfl) (fun _ _ _ h => h) (Or.inl ⟨by rfl, ?yDz3⟩) (by assumption) ?rDz3
                      case yDz3 => (intro W hSW; (try dsimp only at hSW); first | (go_simp; done) | (go_simp; with_reducible rfl))
                      try simp only [Act.put, List.setIfInBounds_toArray, List.set_cons_zero, List.set_cons_succ]
                      refine wpAnyH_take (i := 4) (oi := { dst := some 53, op := Op.call { callee := Callee.builtin Builtin.len, args := #[Operand.tmp 52], argTypes := #[23] }, type := 3, pos := "model.go:24", after := #[{ on := 3, ground := Ground.data }], guard := none }) (v := ?vDz4) rfl (by kernel_rfl) (by kernel_rfl) (by kernel_rfl) (fun _ _ _ h => h) (Or.inl ⟨by rfl, ?yDz4⟩) (by assumption) ?rDz4
                      case yDz4 => (intro W hSW; (try dsimp only at hSW); first | (go_simp; done) | (go_simp; with_reducible rfl))
                      try simp only [Act.put, List.setIfInBounds_toArray, List.set_cons_zero, List.set_cons_succ]
                      refine wpAnyH_take (i := 5) (oi := { dst := some 54, op := Op.binOp BinOp.neq 3 (Operand.tmp 50) (Operand.tmp 53) 3, type := 4, pos := "model.go:24", after := #[{ on := 1, ground := Ground.data }, { on := 4, ground := Ground.data }], guard := none }) (v := ?vDz5) rfl (by kernel_rfl) (by kernel_rfl) (by kernel_rfl) (fun _ _ _ h => h) (Or.inl ⟨by rfl, ?yDz5⟩) (by assumption) ?rDz5
                      case yDz5 => (intro W hSW; (try dsimp only at hSW); first | (go_simp; done) | (go_simp; with_reducible rfl))
                      try simp only [Act.put, List.setIfInBounds_toArray, List.set_cons_zero, List.set_cons_succ]
                      refine wpAnyH_take (i := 6) (oi := { dst := some 55, op := Op.move (Operand.tmp 54), type := 4, pos := "model.go:24", after := #[{ on := 5, ground := Ground.data }], guard := none }) (v := ?vDz6) rfl (by kernel_rfl) (by kernel_rfl) (by kernel_rfl) (fun _ _ _ h => h) (Or.inl ⟨by rfl, ?yDz6⟩) (by assumption) ?rDz6
                      case yDz6 => (intro W hSW; (try dsimp only at hSW); first | (go_simp; done) | (go_simp; with_reducible rfl))
                      try simp only [Act.put, List.setIfInBounds_toArray, List.set_cons_zero, List.set_cons_succ]
                      refine wpAnyH_take (i := 7) (oi := { dst := some 56, op := Op.fieldAddr 33 (Operand.tmp 3) 0, type := 0, pos := "model.go:24", after := #[{ on := 6, ground := Ground.guard }], guard := some (6, false) }) (v := ?vDz7) rfl (by kernel_rfl) (by kernel_rfl) (by kernel_rfl) (fun _ _ _ h => h) (Or.inl ⟨by rfl, ?yDz7⟩) (by assumption) ?rDz7
                      case yDz7 => (intro W hSW; (try dsimp only at hSW); first | (go_simp; done) | (go_simp; with_reducible rfl))
                      try simp only [Act.put, List.setIfInBounds_toArray, List.set_cons_zero, List.set_cons_succ]
                      refine wpAnyH_take (i := 8) (oi := { dst := some 57, op := Op.load 30 (Operand.tmp 56), type := 30, pos := "model.go:24", after := #[{ on := 7, ground := Ground.data }, { on := 6, ground := Ground.guard }], guard := some (6, false) }) (v := ?vDz8) rfl (by kernel_rfl) (by kernel_rfl) (by kernel_rfl) (fun _ _ _ h => h) (Or.inl ⟨by rfl, ?yDz8⟩) (by assumption) ?rDz8
                      case yDz8 => (intro W hSW; (try dsimp only at hSW); first | (go_simp; done) | (go_simp; with_reducible rfl))
                      try simp only [Act.put, List.setIfInBounds_toArray, List.set_cons_zero, List.set_cons_succ]
                      refine wpAnyH_take (i := 9) (oi := { dst := some 58, op := Op.move (Operand.tmp 9), type := 40, pos := "model.go:24", after := #[{ on := 6, ground := Ground.guard }], guard := some (6, false) }) (v := ?vDz9) rfl (by kernel_rfl) (by kernel_rfl) (by kernel_rfl) (fun _ _ _ h => h) (Or.inl ⟨by rfl, ?yDz9⟩) (by assumption) ?rDz9
                      case yDz9 => (intro W hSW; (try dsimp only at hSW); first | (go_simp; done) | (go_simp; with_reducible rfl))
                      try simp only [Act.put, List.setIfInBounds_toArray, List.set_cons_zero, List.set_cons_succ]
                      refine wpAnyH_take (i := 10) (oi := { dst := some 59, op := Op.move (Operand.tmp 5), type := 3, pos := "model.go:24", after := #[{ on := 6, ground := Ground.guard }], guard := some (6, false) }) (v := ?vDz10) rfl (by kernel_rfl) (by kernel_rfl) (by kernel_rfl) (fun _ _ _ h => h) (Or.inl ⟨by rfl, ?yDz10⟩) (by assumption) ?rDz10
                      case yDz10 => (intro W hSW; (try dsimp only at hSW); first | (go_simp; done) | (go_simp; with_reducible rfl))
                      try simp only [Act.put, List.setIfInBounds_toArray, List.set_cons_zero, List.set_cons_succ]
                      refine wpAnyH_take (i := 11) (oi := { dst := some 60, op := Op.indexAddr 40 (Operand.tmp 58) (Operand.tmp 59), type := 0, pos := "model.go:24", after := #[{ on := 9, ground := Ground.data }, { on := 10, ground := Ground.data }, { on := 6, ground := Ground.guard }], guard := some (6, false) }) (v := ?vDz11) rfl (by kernel_rfl) (by kernel_rfl) (by kernel_rfl) (fun _ _ _ h => h) (Or.inl ⟨by rfl, ?yDz11⟩) (by assumption) ?rDz11
                      case yDz11 => (intro W hSW; (try dsimp only at hSW); first | (go_simp; done) | (go_simp; with_reducible rfl))
                      try simp only [Act.put, List.setIfInBounds_toArray, List.set_cons_zero, List.set_cons_succ]
                      refine wpAnyH_take (i := 12) (oi := { dst := some 61, op := Op.load 53 (Operand.tmp 60), type := 53, pos := "model.go:24", after := #[{ on := 11, ground := Ground.data }, { on := 6, ground := Ground.guard }], guard := some (6, false) }) (v := ?vDz12) rfl (by kernel_rfl) (by kernel_rfl) (by kernel_rfl) (fun _ _ _ h => h) (Or.inl ⟨by rfl, ?yDz12⟩) (by assumption) ?rDz12
                      case yDz12 => (intro W hSW; (try dsimp only at hSW); first | (go_simp; done) | (go_simp; with_reducible rfl))
                      try simp only [Act.put, List.setIfInBounds_toArray, List.set_cons_zero, List.set_cons_succ]
                      refine wpAnyH_take (i := 13) (oi := { dst := some 62, op := Op.load 53 (Operand.tmp 7), type := 53, pos := "model.go:24", after := #[{ on := 6, ground := Ground.guard }], guard := some (6, false) }) (v := ?vDz13) rfl (by kernel_rfl) (by kernel_rfl) (by kernel_rfl) (fun _ _ _ h => h) (Or.inl ⟨by rfl, ?yDz13⟩) (by assumption) ?rDz13
                      case yDz13 => (intro W hSW; (try dsimp only at hSW); first | (go_simp; done) | (go_simp; with_reducible rfl))
                      try simp only [Act.put, List.setIfInBounds_toArray, List.set_cons_zero, List.set_cons_succ]
                      refine wpAnyH_ready (rs := [14]) (by kernel_rfl) (by simp) ?_
                      refine AllReadyH.cons (o := { dst := some 63, op := Op.call { callee := Callee.value (Operand.func 66), args := #[Operand.tmp 57, Operand.tmp 61, Operand.tmp 62], argTypes := #[30, 53, 53] }, type := 4, pos := "model.go:24", after := #[{ on := 8, ground := Ground.data }, { on := 12, ground := Ground.data }, { on := 13, ground := Ground.data }, { on := 6, ground := Ground.chain }, { on := 6, ground := Ground.guard }], guard := some (6, false) }) rfl (fun K hK => ?_) AllReadyH.nil
                      go_simp
                      go_at_call 66
                      refine (HFIT.out _ hdr).mono ?_
                      rintro e wc1 ⟨rfl, gc1⟩
                      go_wp2_with fail
                      have hgr1 := World.grownBy.trans hdr gc1
                      refine hK.out _ _ (HS.out _ hgr1) (fun hHeld => ?_)
                      clear hK K
                      try simp only [Act.put, List.setIfInBounds_toArray, List.set_cons_zero, List.set_cons_succ]
                      refine wpAnyH_take (i := 15) (oi := { dst := some 64, op := Op.unOp UnOp.not 4 (Operand.tmp 63), type := 4, pos := "model.go:24", after := #[{ on := 14, ground := Ground.data }, { on := 6, ground := Ground.guard }], guard := some (6, false) }) (v := ?vDz15) rfl (by kernel_rfl) (by kernel_rfl) (by kernel_rfl) (fun _ _ _ h => h) (Or.inl ⟨by rfl, ?yDz15⟩) (by assumption) ?rDz15
                      case yDz15 => (intro W hSW; (try dsimp only at hSW); first | (go_simp; done) | (go_simp; with_reducible rfl))
                      try simp only [Act.put, List.setIfInBounds_toArray, List.set_cons_zero, List.set_cons_succ]
                      refine wpAnyH_take (i := 16) (oi := { dst := some 65, op := Op.pick (Operand.tmp 55) (Operand.const (Value.bool true)) (Operand.tmp 64), type := 4, pos := "model.go:24", after := #[{ on := 6, ground := Ground.data }, { on := 15, ground := Ground.data }], guard := none }) (v := ?vDz16) rfl (by kernel_rfl) (by kernel_rfl) (by kernel_rfl) (fun _ _ _ h => h) (Or.inl ⟨by rfl, ?yDz16⟩) (by assumption) ?rDz16
                      case yDz16 => (intro W hSW; (try dsimp only at hSW); first | (go_simp; done) | (go_simp; with_reducible rfl))
                      try simp only [Act.put, List.setIfInBounds_toArray, List.set_cons_zero, List.set_cons_succ]
                      refine wpAnyH_take (i := 17) (oi := { dst := some 66, op := Op.move (Operand.tmp 65), type := 4, pos := "model.go:24", after := #[{ on := 16, ground := Ground.data }, { on := 14, ground := Ground.chain }], guard := none }) (v := ?vDz17) rfl (by kernel_rfl) (by kernel_rfl) (by kernel_rfl) (fun _ _ _ h => h) (Or.inl ⟨by rfl, ?yDz17⟩) (by assumption) ?rDz17
                      case yDz17 => (intro W hSW; (try dsimp only at hSW); first | (go_simp; done) | (go_simp; with_reducible rfl))
                      try simp only [Act.put, List.setIfInBounds_toArray, List.set_cons_zero, List.set_cons_succ]
                      refine wpAnyH_take (i := 18) (oi := { dst := some 67, op := Op.fieldAddr 51 (Operand.tmp 6) 2, type := 0, pos := "model.go:24", after := #[{ on := 17, ground := Ground.guard }], guard := some (17, false) }) (v := ?vDz18) rfl (by kernel_rfl) (by kernel_rfl) (by kernel_rfl) (fun _ _ _ h => h) (Or.inl ⟨by rfl, ?yDz18⟩) (by assumption) ?rDz18
                      case yDz18 => (intro W hSW; (try dsimp only at hSW); first | (go_simp; done) | (go_simp; with_reducible rfl))
                      try simp only [Act.put, List.setIfInBounds_toArray, List.set_cons_zero, List.set_cons_succ]
                      refine wpAnyH_take (i := 19) (oi := { dst := some 68, op := Op.load 4 (Operand.tmp 67), type := 4, pos := "model.go:24", after := #[{ on := 18, ground := Ground.data }, { on := 17, ground := Ground.guard }], guard := some (17, false) }) (v := ?vDz19) rfl (by kernel_rfl) (by kernel_rfl) (by kernel_rfl) (fun _ _ _ h => h) (Or.inl ⟨by rfl, ?yDz19⟩) (by assumption) ?rDz19
                      case yDz19 => (intro W hSW; (try dsimp only at hSW); first | (go_simp; done) | (go_simp; with_reducible rfl))
                      try simp only [Act.put, List.setIfInBounds_toArray, List.set_cons_zero, List.set_cons_succ]
                      refine wpAnyH_take (i := 20) (oi := { dst := some 69, op := Op.unOp UnOp.not 4 (Operand.tmp 68), type := 4, pos := "model.go:24", after := #[{ on := 19, ground := Ground.data }, { on := 17, ground := Ground.guard }], guard := some (17, false) }) (v := ?vDz20) rfl (by kernel_rfl) (by kernel_rfl) (by kernel_rfl) (fun _ _ _ h => h) (Or.inl ⟨by rfl, ?yDz20⟩) (by assumption) ?rDz20
                      case yDz20 => (intro W hSW; (try dsimp only at hSW); first | (go_simp; done) | (go_simp; with_reducible rfl))
                      try simp only [Act.put, List.setIfInBounds_toArray, List.set_cons_zero, List.set_cons_succ]
                      refine wpAnyH_take (i := 21) (oi := { dst := some 70, op := Op.move (Operand.tmp 69), type := 4, pos := "model.go:24", after := #[{ on := 20, ground := Ground.data }, { on := 17, ground := Ground.chain }, { on := 17, ground := Ground.guard }], guard := some (17, false) }) (v := ?vDz21) rfl (by kernel_rfl) (by kernel_rfl) (by kernel_rfl) (fun _ _ _ h => h) (Or.inl ⟨by rfl, ?yDz21⟩) (by assumption) ?rDz21
                      case yDz21 => (intro W hSW; (try dsimp only at hSW); first | (go_simp; done) | (go_simp; with_reducible rfl))
                      try simp only [Act.put, List.setIfInBounds_toArray, List.set_cons_zero, List.set_cons_succ]
                      refine wpAnyH_take (i := 22) (oi := { dst := some 71, op := Op.move (Operand.tmp 9), type := 40, pos := "model.go:24", after := #[{ on := 21, ground := Ground.guard }], guard := some (21, true) }) (v := ?vDz22) rfl (by kernel_rfl) (by kernel_rfl) (by kernel_rfl) (fun _ _ _ h => h) (Or.inl ⟨by rfl, ?yDz22⟩) (by assumption) ?rDz22
                      case yDz22 => (intro W hSW; (try dsimp only at hSW); first | (go_simp; done) | (go_simp; with_reducible rfl))
                      try simp only [Act.put, List.setIfInBounds_toArray, List.set_cons_zero, List.set_cons_succ]
                      refine wpAnyH_take (i := 23) (oi := { dst := some 72, op := Op.move (Operand.tmp 5), type := 3, pos := "model.go:24", after := #[{ on := 21, ground := Ground.guard }], guard := some (21, true) }) (v := ?vDz23) rfl (by kernel_rfl) (by kernel_rfl) (by kernel_rfl) (fun _ _ _ h => h) (Or.inl ⟨by rfl, ?yDz23⟩) (by assumption) ?rDz23
                      case yDz23 => (intro W hSW; (try dsimp only at hSW); first | (go_simp; done) | (go_simp; with_reducible rfl))
                      try simp only [Act.put, List.setIfInBounds_toArray, List.set_cons_zero, List.set_cons_succ]
                      refine wpAnyH_take (i := 24) (oi := { dst := some 73, op := Op.indexAddr 40 (Operand.tmp 71) (Operand.tmp 72), type := 0, pos := "model.go:24", after := #[{ on := 22, ground := Ground.data }, { on := 23, ground := Ground.data }, { on := 21, ground := Ground.guard }], guard := some (21, true) }) (v := ?vDz24) rfl (by kernel_rfl) (by kernel_rfl) (by kernel_rfl) (fun _ _ _ h => h) (Or.inl ⟨by rfl, ?yDz24⟩) (by assumption) ?rDz24
                      case yDz24 => (intro W hSW; (try dsimp only at hSW); first | (go_simp; done) | (go_simp; with_reducible rfl))
                      try simp only [Act.put, List.setIfInBounds_toArray, List.set_cons_zero, List.set_cons_succ]
                      refine wpAnyH_take (i := 25) (oi := { dst := some 74, op := Op.load 53 (Operand.tmp 73), type := 53, pos := "model.go:24", after := #[{ on := 24, ground := Ground.data }, { on := 21, ground := Ground.guard }], guard := some (21, true) }) (v := ?vDz25) rfl (by kernel_rfl) (by kernel_rfl) (by kernel_rfl) (fun _ _ _ h => h) (Or.inl ⟨by rfl, ?yDz25⟩) (by assumption) ?rDz25
                      case yDz25 => (intro W hSW; (try dsimp only at hSW); first | (go_simp; done) | (go_simp; with_reducible rfl))
                      try simp only [Act.put, List.setIfInBounds_toArray, List.set_cons_zero, List.set_cons_succ]
                      refine wpAnyH_take (i := 26) (oi := { dst := some 75, op := Op.fieldAddr 33 (Operand.tmp 3) 1, type := 0, pos := "model.go:24", after := #[{ on := 21, ground := Ground.guard }], guard := some (21, true) }) (v := ?vDz26) rfl (by kernel_rfl) (by kernel_rfl) (by kernel_rfl) (fun _ _ _ h => h) (Or.inl ⟨by rfl, ?yDz26⟩) (by assumption) ?rDz26
                      case yDz26 => (intro W hSW; (try dsimp only at hSW); first | (go_simp; done) | (go_simp; with_reducible rfl))
                      try simp only [Act.put, List.setIfInBounds_toArray, List.set_cons_zero, List.set_cons_succ]
                      refine wpAnyH_take (i := 27) (oi := { dst := some 76, op := Op.load 31 (Operand.tmp 75), type := 31, pos := "model.go:24", after := #[{ on := 26, ground := Ground.data }, { on := 21, ground := Ground.guard }], guard := some (21, true) }) (v := ?vDz27) rfl (by kernel_rfl) (by kernel_rfl) (by kernel_rfl) (fun _ _ _ h => h) (Or.inl ⟨by rfl, ?yDz27⟩) (by assumption) ?rDz27
                      case yDz27 => (intro W hSW; (try dsimp only at hSW); first | (go_simp; done) | (go_simp; with_reducible rfl))
                      try simp only [Act.put, List.setIfInBounds_toArray, List.set_cons_zero, List.set_cons_succ]
                      refine wpAnyH_take (i := 28) (oi := { dst := some 77, op := Op.indexAddr 31 (Operand.tmp 76) (Operand.const (Value.int IntKind.i64 0)), type := 0, pos := "model.go:24", after := #[{ on := 27, ground := Ground.data }, { on := 21, ground := Ground.guard }], guard := some (21, true) }) (v := ?vDz28) rfl (by kernel_rfl) (by kernel_rfl) (by kernel_rfl) (fun _ _ _ h => h) (Or.inl ⟨by rfl, ?yDz28⟩) (by assumption) ?rDz28
                      case yDz28 => (intro W hSW; (try dsimp only at hSW); first | (go_simp; done) | (go_simp; with_reducible rfl))
                      try simp only [Act.put, List.setIfInBounds_toArray, List.set_cons_zero, List.set_cons_succ]
                      refine wpAnyH_take (i := 29) (oi := { dst := some 78, op := Op.load 40 (Operand.tmp 77), type := 40, pos := "model.go:24", after := #[{ on := 28, ground := Ground.data }, { on := 21, ground := Ground.guard }], guard := some (21, true) }) (v := ?vDz29) rfl (by kernel_rfl) (by kernel_rfl) (by kernel_rfl) (fun _ _ _ h => h) (Or.inl ⟨by rfl, ?yDz29⟩) (by assumption) ?rDz29
                      case yDz29 => (intro W hSW; (try dsimp only at hSW); first | (go_simp; done) | (go_simp; with_reducible rfl))
                      try simp only [Act.put, List.setIfInBounds_toArray, List.set_cons_zero, List.set_cons_succ]
                      refine wpAnyH_take (i := 30) (oi := { dst := some 79, op := Op.move (Operand.tmp 5), type := 3, pos := "model.go:24", after := #[{ on := 21, ground := Ground.guard }], guard := some (21, true) }) (v := ?vDz30) rfl (by kernel_rfl) (by kernel_rfl) (by kernel_rfl) (fun _ _ _ h => h) (Or.inl ⟨by rfl, ?yDz30⟩) (by assumption) ?rDz30
                      case yDz30 => (intro W hSW; (try dsimp only at hSW); first | (go_simp; done) | (go_simp; with_reducible rfl))
                      try simp only [Act.put, List.setIfInBounds_toArray, List.set_cons_zero, List.set_cons_succ]
                      refine wpAnyH_take (i := 31) (oi := { dst := some 80, op := Op.indexAddr 40 (Operand.tmp 78) (Operand.tmp 79), type := 0, pos := "model.go:24", after := #[{ on := 29, ground := Ground.data }, { on := 30, ground := Ground.data }, { on := 21, ground := Ground.guard }], guard := some (21, true) }) (v := ?vDz31) rfl (by kernel_rfl) (by kernel_rfl) (by kernel_rfl) (fun _ _ _ h => h) (Or.inl ⟨by rfl, ?yDz31⟩) (by assumption) ?rDz31
                      case yDz31 => (intro W hSW; (try dsimp only at hSW); first | (go_simp; done) | (go_simp; with_reducible rfl))
                      try simp only [Act.put, List.setIfInBounds_toArray, List.set_cons_zero, List.set_cons_succ]
                      refine wpAnyH_take (i := 32) (oi := { dst := some 81, op := Op.load 53 (Operand.tmp 80), type := 53, pos := "model.go:24", after := #[{ on := 31, ground := Ground.data }, { on := 21, ground := Ground.guard }], guard := some (21, true) }) (v := ?vDz32) rfl (by kernel_rfl) (by kernel_rfl) (by kernel_rfl) (fun _ _ _ h => h) (Or.inl ⟨by rfl, ?yDz32⟩) (by assumption) ?rDz32
                      case yDz32 => (intro W hSW; (try dsimp only at hSW); first | (go_simp; done) | (go_simp; with_reducible rfl))
                      try simp only [Act.put, List.setIfInBounds_toArray, List.set_cons_zero, List.set_cons_succ]
                      refine wpAnyH_ready (rs := [33]) (by kernel_rfl) (by simp) ?_
                      refine AllReadyH.cons (o := { dst := some 82, op := Op.call { callee := Callee.value (Operand.func 67), args := #[Operand.tmp 74, Operand.tmp 81], argTypes := #[53, 53] }, type := 4, pos := "model.go:24", after := #[{ on := 25, ground := Ground.data }, { on := 32, ground := Ground.data }, { on := 21, ground := Ground.chain }, { on := 21, ground := Ground.guard }], guard := some (21, true) }) rfl (fun K hK => ?_) AllReadyH.nil
                      go_simp
                      go_at_call 67
                      refine (HEQ.out _ hgr1).mono ?_
                      rintro e wc2 ⟨rfl, gc2⟩
                      go_wp2_with fail
                      have hgr2 := World.grownBy.trans hgr1 gc2
                      refine hK.out _ _ (HS.out _ hgr2) (fun hHeld => ?_)
                      clear hK K
                      try simp only [Act.put, List.setIfInBounds_toArray, List.set_cons_zero, List.set_cons_succ]
                      refine wpAnyH_take (i := 34) (oi := { dst := some 83, op := Op.unOp UnOp.not 4 (Operand.tmp 82), type := 4, pos := "model.go:24", after := #[{ on := 33, ground := Ground.data }, { on := 21, ground := Ground.guard }], guard := some (21, true) }) (v := ?vDz34) rfl (by kernel_rfl) (by kernel_rfl) (by kernel_rfl) (fun _ _ _ h => h) (Or.inl ⟨by rfl, ?yDz34⟩) (by assumption) ?rDz34
                      case yDz34 => (intro W hSW; (try dsimp only at hSW); first | (go_simp; done) | (go_simp; with_reducible rfl))
                      try simp only [Act.put, List.setIfInBounds_toArray, List.set_cons_zero, List.set_cons_succ]
                      refine wpAnyH_take (i := 35) (oi := { dst := some 84, op := Op.pick (Operand.tmp 70) (Operand.tmp 83) (Operand.const (Value.bool false)), type := 4, pos := "model.go:24", after := #[{ on := 21, ground := Ground.data }, { on := 34, ground := Ground.data }, { on := 17, ground := Ground.guard }], guard := some (17, false) }) (v := ?vDz35) rfl (by kernel_rfl) (by kernel_rfl) (by kernel_rfl) (fun _ _ _ h => h) (Or.inl ⟨by rfl, ?yDz35⟩) (by assumption) ?rDz35
                      case yDz35 => (intro W hSW; (try dsimp only at hSW); first | (go_simp; done) | (go_simp; with_reducible rfl))
                      try simp only [Act.put, List.setIfInBounds_toArray, List.set_cons_zero, List.set_cons_succ]
                      refine wpAnyH_take (i := 36) (oi := { dst := some 85, op := Op.pick (Operand.tmp 66) (Operand.const (Value.bool true)) (Operand.tmp 84), type := 4, pos := "model.go:24", after := #[{ on := 17, ground := Ground.data }, { on := 35, ground := Ground.data }], guard := none }) (v := ?vDz36) rfl (by kernel_rfl) (by kernel_rfl) (by kernel_rfl) (fun _ _ _ h => h) (Or.inl ⟨by rfl, ?yDz36⟩) (by assumption) ?rDz36
                      case yDz36 => (intro W hSW; (try dsimp only at hSW); first | (go_simp; done) | (go_simp; with_reducible rfl))
                      try simp only [Act.put, List.setIfInBounds_toArray, List.set_cons_zero, List.set_cons_succ]
                      refine wpAnyH_done (by kernel_rfl) ?_ _
                      have hEND := hgr2
                      clear hHeld
                      have HR : Hid (validM ns us st F L lp = false) := Lib.hid (validM_not (i := i) (fd := fd) (l := l) HFD.out.1 HL.out.1 (by rw [HZ.out.1, HN.out.2.1, HFB.out]; rfl))
                      have HE := Lib.hid (HG.out.trans (HGJ.out.2.trans hEND)); clear hEND
                      go_wp2_with fail
                      go_ret
                      exact ⟨by rw [HR.out]; rfl, HE.out⟩
                    | true =>
                      have HS := Lib.hid (fun (W : World) (hW : wr.grownBy W none) => (⟨hW, hW.cell a1 (by simp), hW.cell b0 (by simp), hW.cell b1 (by simp), hW.cell b2 (by simp), hW.cell b3 (by simp), hW.cell p2 (by simp), hW.cell q0 (by simp), hW.cell q1 (by simp), hW.cell x0 (by simp), hW.cell x1 (by simp), hW.cell d1 (by simp), hW.cell z0 (by simp), hW.cell z1 (by simp)⟩ : (fun W : World => wr.grownBy W none ∧ W.cell? ⟨w.heap.size, 1, none⟩ = some (.slice (some ⟨fb, fo, none⟩) p fc) ∧ W.cell? ⟨w.heap.size + 1, 0, none⟩ = some (.slice sa n sc) ∧ W.cell? ⟨w.heap.size + 1, 1, none⟩ = some (.int .i64 st) ∧ W.cell? ⟨w.heap.size + 1, 2, none⟩ = some (.slice (some ⟨tb, to, none⟩) k tc) ∧ W.cell? ⟨w.heap.size + 1, 3, none⟩ = some (.int .i64 lp) ∧ W.cell? ⟨pb, 2, none⟩ = some (.bool false) ∧ W.cell? ⟨qb, 0, none⟩ = some (.int .i64 K) ∧ W.cell? ⟨qb, 1, none⟩ = some (.slice fla fm flc) ∧ W.cell? ⟨lb, lo + i * 2, none⟩ = some (.int .i64 r.1) ∧ W.cell? ⟨lb, lo + i * 2 + 1, none⟩ = some (.slice ra rn rc) ∧ W.cell? ⟨tb, to, none⟩ = some (.slice (some ⟨l0b, l0o, none⟩) p lc0) ∧ W.cell? ⟨l0b, l0o + i * 2, none⟩ = some (.int .i64 r0.1) ∧ W.cell? ⟨l0b, l0o + i * 2 + 1, none⟩ = some (.slice ra0 rn0 rc0)) W))
                      clear a1 b0 b1 b2 b3 p2 q0 q1 x0 x1 d1 z0 z1 p0 p1 a0 a2 a3 d0
                      have hdr : wr.grownBy wr.drew none := ⟨rfl, rfl, rfl, Nat.le_refl _, fun _ _ _ => rfl⟩
                      refine wp_region_held_drew (S := (fun W : World => wr.grownBy W none ∧ W.cell? ⟨w.heap.size, 1, none⟩ = some (.slice (some ⟨fb, fo, none⟩) p fc) ∧ W.cell? ⟨w.heap.size + 1, 0, none⟩ = some (.slice sa n sc) ∧ W.cell? ⟨w.heap.size + 1, 1, none⟩ = some (.int .i64 st) ∧ W.cell? ⟨w.heap.size + 1, 2, none⟩ = some (.slice (some ⟨tb, to, none⟩) k tc) ∧ W.cell? ⟨w.heap.size + 1, 3, none⟩ = some (.int .i64 lp) ∧ W.cell? ⟨pb, 2, none⟩ = some (.bool false) ∧ W.cell? ⟨qb, 0, none⟩ = some (.int .i64 K) ∧ W.cell? ⟨qb, 1, none⟩ = some (.slice fla fm flc) ∧ W.cell? ⟨lb, lo + i * 2, none⟩ = some (.int .i64 r.1) ∧ W.cell? ⟨lb, lo + i * 2 + 1, none⟩ = some (.slice ra rn rc) ∧ W.cell? ⟨tb, to, none⟩ = some (.slice (some ⟨l0b, l0o, none⟩) p lc0) ∧ W.cell? ⟨l0b, l0o + i * 2, none⟩ = some (.int .i64 r0.1) ∧ W.cell? ⟨l0b, l0o + i * 2 + 1, none⟩ = some (.slice ra0 rn0 rc0))) (by kernel_rfl) (HS.out _ hdr) (fun hHeld => ?_)
                      refine wpAnyH_take (i := 0) (oi := { dst := some 49, op := Op.move (Operand.tmp 9), type := 40, pos := "model.go:24", after := #[], guard := none }) (v := ?vEz0) rfl (by kernel_rfl) (by kernel_rfl) (by kernel_rfl) (fun _ _ _ h => h) (Or.inl ⟨by rfl, ?yEz0⟩) (by assumption) ?rEz0
                      case yEz0 => (intro W hSW; (try dsimp only at hSW); first | (go_simp; done) | (go_simp; with_reducible rfl))
                      try simp only [Act.put, List.setIfInBounds_toArray, List.set_cons_zero, List.set_cons_succ]
                      refine wpAnyH_take (i := 1) (oi := { dst := some 50, op := Op.call { callee := Callee.builtin Builtin.len, args := #[Operand.tmp 49], argTypes := #[40] }, type := 3, pos := "model.go:24", after := #[{ on := 0, ground := Ground.data }], guard := none }) (v := ?vEz1) rfl (by kernel_rfl) (by kernel_rfl) (by kernel_rfl) (fun _ _ _ h => h) (Or.inl ⟨by rfl, ?yEz1⟩) (by assumption) ?rEz1
                      case yEz1 => (intro W hSW; (try dsimp only at hSW); first | (go_simp; done) | (go_simp; with_reducible rfl))
                      try simp only [Act.put, List.setIfInBounds_toArray, List.set_cons_zero, List.set_cons_succ]
                      refine wpAnyH_take (i := 2) (oi := { dst := some 51, op := Op.fieldAddr 27 (Operand.tmp 2) 1, type := 0, pos := "model.go:24", after := #[], guard := none }) (v := ?vEz2) rfl (by kernel_rfl) (by kernel_rfl) (by kernel_rfl) (fun _ _ _ h => h) (Or.inl ⟨by rfl, ?yEz2⟩) (by assumption) ?rEz2
                      case yEz2 => (intro W hSW; (try dsimp only at hSW); first | (go_simp; done) | (go_simp; with_reducible rfl))
                      try simp only [Act.put, List.setIfInBounds_toArray, List.set_cons_zero, List.set_cons_succ]
                      refine wpAnyH_take (i := 3) (oi := { dst := some 52, op := Op.load 23 (Operand.tmp 51), type := 23, pos := "model.go:24", after := #[{ on := 2, ground := Ground.data }], guard := none }) (v := ?vEz3) rfl (by kernel_rfl) (by kernel_rfl) (by kernel_rfl) (fun _ _ _ h => h) (Or.inl ⟨by rfl, ?yEz3⟩) (by assumption) ?rEz3
                      case yEz3 => (intro W hSW; (try dsimp only at hSW); first | (go_simp; done) | (go_simp; with_reducible rfl))
                      try simp only [Act.put, List.setIfInBounds_toArray, List.set_cons_zero, List.set_cons_succ]
                      refine wpAnyH_take (i := 4) (oi := { dst := some 53, op := Op.call { callee := Callee.builtin Builtin.len, args := #[Operand.tmp 52], argTypes := #[23] }, type := 3, pos := "model.go:24", after := #[{ on := 3, ground := Ground.data }], guard := none }) (v := ?vEz4) rfl (by kernel_rfl) (by kernel_rfl) (by kernel_rfl) (fun _ _ _ h => h) (Or.inl ⟨by rfl, ?yEz4⟩) (by assumption) ?rEz4
                      case yEz4 => (intro W hSW; (try dsimp only at hSW); first | (go_simp; done) | (go_simp; with_reducible rfl))
                      try simp only [Act.put, List.setIfInBounds_toArray, List.set_cons_zero, List.set_cons_succ]
                      refine wpAnyH_take (i := 5) (oi := { dst := some 54, op := Op.binOp BinOp.neq 3 (Operand.tmp 50) (Operand.tmp 53) 3, type := 4, pos := "model.go:24", after := #[{ on := 1, ground := Ground.data }, { on := 4, ground := Ground.data }], guard := none }) (v := ?vEz5) rfl (by kernel_rfl) (by kernel_rfl) (by kernel_rfl) (fun _ _ _ h => h) (Or.inl ⟨by rfl, ?yEz5⟩) (by assumption) ?rEz5
                      case yEz5 => (intro W hSW; (try dsimp only at hSW); first | (go_simp; done) | (go_simp; with_reducible rfl))
                      try simp only [Act.put, List.setIfInBounds_toArray, List.set_cons_zero, List.set_cons_succ]
                      refine wpAnyH_take (i := 6) (oi := { dst := some 55, op := Op.move (Operand.tmp 54), type := 4, pos := "model.go:24", after := #[{ on := 5, ground := Ground.data }], guard := none }) (v := ?vEz6) rfl (by kernel_rfl) (by kernel_rfl) (by kernel_rfl) (fun _ _ _ h => h) (Or.inl ⟨by rfl, ?yEz6⟩) (by assumption) ?rEz6
                      case yEz6 => (intro W hSW; (try dsimp only at hSW); first | (go_simp; done) | (go_simp; with_reducible rfl))
                      try simp only [Act.put, List.setIfInBounds_toArray, List.set_cons_zero, List.set_cons_succ]
                      refine wpAnyH_take (i := 7) (oi := { dst := some 56, op := Op.fieldAddr 33 (Operand.tmp 3) 0, type := 0, pos := "model.go:24", after := #[{ on := 6, ground := Ground.guard }], guard := some (6, false) }) (v := ?vEz7) rfl (by kernel_rfl) (by kernel_rfl) (by kernel_rfl) (fun _ _ _ h => h) (Or.inl ⟨by rfl, ?yEz7⟩) (by assumption) ?rEz7
                      case yEz7 => (intro W hSW; (try dsimp only at hSW); first | (go_simp; done) | (go_simp; with_reducible rfl))
                      try simp only [Act.put, List.setIfInBounds_toArray, List.set_cons_zero, List.set_cons_succ]
                      refine wpAnyH_take (i := 8) (oi := { dst := some 57, op := Op.load 30 (Operand.tmp 56), type := 30, pos := "model.go:24", after := #[{ on := 7, ground := Ground.data }, { on := 6, ground := Ground.guard }], guard := some (6, false) }) (v := ?vEz8) rfl (by kernel_rfl) (by kernel_rfl) (by kernel_rfl) (fun _ _ _ h => h) (Or.inl ⟨by rfl, ?yEz8⟩) (by assumption) ?rEz8
                      case yEz8 => (intro W hSW; (try dsimp only at hSW); first | (go_simp; done) | (go_simp; with_reducible rfl))
                      try simp only [Act.put, List.setIfInBounds_toArray, List.set_cons_zero, List.set_cons_succ]
                      refine wpAnyH_take (i := 9) (oi := { dst := some 58, op := Op.move (Operand.tmp 9), type := 40, pos := "model.go:24", after := #[{ on := 6, ground := Ground.guard }], guard := some (6, false) }) (v := ?vEz9) rfl (by kernel_rfl) (by kernel_rfl) (by kernel_rfl) (fun _ _ _ h => h) (Or.inl ⟨by rfl, ?yEz9⟩) (by assumption) ?rEz9
                      case yEz9 => (intro W hSW; (try dsimp only at hSW); first | (go_simp; done) | (go_simp; with_reducible rfl))
                      try simp only [Act.put, List.setIfInBounds_toArray, List.set_cons_zero, List.set_cons_succ]
                      refine wpAnyH_take (i := 10) (oi := { dst := some 59, op := Op.move (Operand.tmp 5), type := 3, pos := "model.go:24", after := #[{ on := 6, ground := Ground.guard }], guard := some (6, false) }) (v := ?vEz10) rfl (by kernel_rfl) (by kernel_rfl) (by kernel_rfl) (fun _ _ _ h => h) (Or.inl ⟨by rfl, ?yEz10⟩) (by assumption) ?rEz10
                      case yEz10 => (intro W hSW; (try dsimp only at hSW); first | (go_simp; done) | (go_simp; with_reducible rfl))
                      try simp only [Act.put, List.setIfInBounds_toArray, List.set_cons_zero, List.set_cons_succ]
                      refine wpAnyH_take (i := 11) (oi := { dst := some 60, op := Op.indexAddr 40 (Operand.tmp 58) (Operand.tmp 59), type := 0, pos := "model.go:24", after := #[{ on := 9, ground := Ground.data }, { on := 10, ground := Ground.data }, { on := 6, ground := Ground.guard }], guard := some (6, false) }) (v := ?vEz11) rfl (by kernel_rfl) (by kernel_rfl) (by kernel_rfl) (fun _ _ _ h => h) (Or.inl ⟨by rfl, ?yEz11⟩) (by assumption) ?rEz11
                      case yEz11 => (intro W hSW; (try dsimp only at hSW); first | (go_simp; done) | (go_simp; with_reducible rfl))
                      try simp only [Act.put, List.setIfInBounds_toArray, List.set_cons_zero, List.set_cons_succ]
                      refine wpAnyH_take (i := 12) (oi := { dst := some 61, op := Op.load 53 (Operand.tmp 60), type := 53, pos := "model.go:24", after := #[{ on := 11, ground := Ground.data }, { on := 6, ground := Ground.guard }], guard := some (6, false) }) (v := ?vEz12) rfl (by kernel_rfl) (by kernel_rfl) (by kernel_rfl) (fun _ _ _ h => h) (Or.inl ⟨by rfl, ?yEz12⟩) (by assumption) ?rEz12
                      case yEz12 => (intro W hSW; (try dsimp only at hSW); first | (go_simp; done) | (go_simp; with_reducible rfl))
                      try simp only [Act.put, List.setIfInBounds_toArray, List.set_cons_zero, List.set_cons_succ]
                      refine wpAnyH_take (i := 13) (oi := { dst := some 62, op := Op.load 53 (Operand.tmp 7), type := 53, pos := "model.go:24", after := #[{ on := 6, ground := Ground.guard }], guard := some (6, false) }) (v := ?vEz13) rfl (by kernel_rfl) (by kernel_rfl) (by kernel_rfl) (fun _ _ _ h => h) (Or.inl ⟨by rfl, ?yEz13⟩) (by assumption) ?rEz13
                      case yEz13 => (intro W hSW; (try dsimp only at hSW); first | (go_simp; done) | (go_simp; with_reducible rfl))
                      try simp only [Act.put, List.setIfInBounds_toArray, List.set_cons_zero, List.set_cons_succ]
                      refine wpAnyH_ready (rs := [14]) (by kernel_rfl) (by simp) ?_
                      refine AllReadyH.cons (o := { dst := some 63, op := Op.call { callee := Callee.value (Operand.func 66), args := #[Operand.tmp 57, Operand.tmp 61, Operand.tmp 62], argTypes := #[30, 53, 53] }, type := 4, pos := "model.go:24", after := #[{ on := 8, ground := Ground.data }, { on := 12, ground := Ground.data }, { on := 13, ground := Ground.data }, { on := 6, ground := Ground.chain }, { on := 6, ground := Ground.guard }], guard := some (6, false) }) rfl (fun K hK => ?_) AllReadyH.nil
                      go_simp
                      go_at_call 66
                      refine (HFIT.out _ hdr).mono ?_
                      rintro e wc1 ⟨rfl, gc1⟩
                      go_wp2_with fail
                      have hgr1 := World.grownBy.trans hdr gc1
                      refine hK.out _ _ (HS.out _ hgr1) (fun hHeld => ?_)
                      clear hK K
                      try simp only [Act.put, List.setIfInBounds_toArray, List.set_cons_zero, List.set_cons_succ]
                      refine wpAnyH_take (i := 15) (oi := { dst := some 64, op := Op.unOp UnOp.not 4 (Operand.tmp 63), type := 4, pos := "model.go:24", after := #[{ on := 14, ground := Ground.data }, { on := 6, ground := Ground.guard }], guard := some (6, false) }) (v := ?vEz15) rfl (by kernel_rfl) (by kernel_rfl) (by kernel_rfl) (fun _ _ _ h => h) (Or.inl ⟨by rfl, ?yEz15⟩) (by assumption) ?rEz15
                      case yEz15 => (intro W hSW; (try dsimp only at hSW); first | (go_simp; done) | (go_simp; with_reducible rfl))
                      try simp only [Act.put, List.setIfInBounds_toArray, List.set_cons_zero, List.set_cons_succ]
                      refine wpAnyH_take (i := 16) (oi := { dst := some 65, op := Op.pick (Operand.tmp 55) (Operand.const (Value.bool true)) (Operand.tmp 64), type := 4, pos := "model.go:24", after := #[{ on := 6, ground := Ground.data }, { on := 15, ground := Ground.data }], guard := none }) (v := ?vEz16) rfl (by kernel_rfl) (by kernel_rfl) (by kernel_rfl) (fun _ _ _ h => h) (Or.inl ⟨by rfl, ?yEz16⟩) (by assumption) ?rEz16
                      case yEz16 => (intro W hSW; (try dsimp only at hSW); first | (go_simp; done) | (go_simp; with_reducible rfl))
                      try simp only [Act.put, List.setIfInBounds_toArray, List.set_cons_zero, List.set_cons_succ]
                      refine wpAnyH_take (i := 17) (oi := { dst := some 66, op := Op.move (Operand.tmp 65), type := 4, pos := "model.go:24", after := #[{ on := 16, ground := Ground.data }, { on := 14, ground := Ground.chain }], guard := none }) (v := ?vEz17) rfl (by kernel_rfl) (by kernel_rfl) (by kernel_rfl) (fun _ _ _ h => h) (Or.inl ⟨by rfl, ?yEz17⟩) (by assumption) ?rEz17
                      case yEz17 => (intro W hSW; (try dsimp only at hSW); first | (go_simp; done) | (go_simp; with_reducible rfl))
                      try simp only [Act.put, List.setIfInBounds_toArray, List.set_cons_zero, List.set_cons_succ]
                      refine wpAnyH_take (i := 18) (oi := { dst := some 67, op := Op.fieldAddr 51 (Operand.tmp 6) 2, type := 0, pos := "model.go:24", after := #[{ on := 17, ground := Ground.guard }], guard := some (17, false) }) (v := ?vEz18) rfl (by kernel_rfl) (by kernel_rfl) (by kernel_rfl) (fun _ _ _ h => h) (Or.inl ⟨by rfl, ?yEz18⟩) (by assumption) ?rEz18
                      case yEz18 => (intro W hSW; (try dsimp only at hSW); first | (go_simp; done) | (go_simp; with_reducible rfl))
                      try simp only [Act.put, List.setIfInBounds_toArray, List.set_cons_zero, List.set_cons_succ]
                      refine wpAnyH_take (i := 19) (oi := { dst := some 68, op := Op.load 4 (Operand.tmp 67), type := 4, pos := "model.go:24", after := #[{ on := 18, ground := Ground.data }, { on := 17, ground := Ground.guard }], guard := some (17, false) }) (v := ?vEz19) rfl (by kernel_rfl) (by kernel_rfl) (by kernel_rfl) (fun _ _ _ h => h) (Or.inl ⟨by rfl, ?yEz19⟩) (by assumption) ?rEz19
                      case yEz19 => (intro W hSW; (try dsimp only at hSW); first | (go_simp; done) | (go_simp; with_reducible rfl))
                      try simp only [Act.put, List.setIfInBounds_toArray, List.set_cons_zero, List.set_cons_succ]
                      refine wpAnyH_take (i := 20) (oi := { dst := some 69, op := Op.unOp UnOp.not 4 (Operand.tmp 68), type := 4, pos := "model.go:24", after := #[{ on := 19, ground := Ground.data }, { on := 17, ground := Ground.guard }], guard := some (17, false) }) (v := ?vEz20) rfl (by kernel_rfl) (by kernel_rfl) (by kernel_rfl) (fun _ _ _ h => h) (Or.inl ⟨by rfl, ?yEz20⟩) (by assumption) ?rEz20
                      case yEz20 => (intro W hSW; (try dsimp only at hSW); first | (go_simp; done) | (go_simp; with_reducible rfl))
                      try simp only [Act.put, List.setIfInBounds_toArray, List.set_cons_zero, List.set_cons_succ]
                      refine wpAnyH_take (i := 21) (oi := { dst := some 70, op := Op.move (Operand.tmp 69), type := 4, pos := "model.go:24", after := #[{ on := 20, ground := Ground.data }, { on := 17, ground := Ground.chain }, { on := 17, ground := Ground.guard }], guard := some (17, false) }) (v := ?vEz21) rfl (by kernel_rfl) (by kernel_rfl) (by kernel_rfl) (fun _ _ _ h => h) (Or.inl ⟨by rfl, ?yEz21⟩) (by assumption) ?rEz21
                      case yEz21 => (intro W hSW; (try dsimp only at hSW); first | (go_simp; done) | (go_simp; with_reducible rfl))
                      try simp only [Act.put, List.setIfInBounds_toArray, List.set_cons_zero, List.set_cons_succ]
                      refine wpAnyH_take (i := 22) (oi := { dst := some 71, op := Op.move (Operand.tmp 9), type := 40, pos := "model.go:24", after := #[{ on := 21, ground := Ground.guard }], guard := some (21, true) }) (v := ?vEz22) rfl (by kernel_rfl) (by kernel_rfl) (by kernel_rfl) (fun _ _ _ h => h) (Or.inl ⟨by rfl, ?yEz22⟩) (by assumption) ?rEz22
                      case yEz22 => (intro W hSW; (try dsimp only at hSW); first | (go_simp; done) | (go_simp; with_reducible rfl))
                      try simp only [Act.put, List.setIfInBounds_toArray, List.set_cons_zero, List.set_cons_succ]
                      refine wpAnyH_take (i := 23) (oi := { dst := some 72, op := Op.move (Operand.tmp 5), type := 3, pos := "model.go:24", after := #[{ on := 21, ground := Ground.guard }], guard := some (21, true) }) (v := ?vEz23) rfl (by kernel_rfl) (by kernel_rfl) (by kernel_rfl) (fun _ _ _ h => h) (Or.inl ⟨by rfl, ?yEz23⟩) (by assumption) ?rEz23
                      case yEz23 => (intro W hSW; (try dsimp only at hSW); first | (go_simp; done) | (go_simp; with_reducible rfl))
                      try simp only [Act.put, List.setIfInBounds_toArray, List.set_cons_zero, List.set_cons_succ]
                      refine wpAnyH_take (i := 24) (oi := { dst := some 73, op := Op.indexAddr 40 (Operand.tmp 71) (Operand.tmp 72), type := 0, pos := "model.go:24", after := #[{ on := 22, ground := Ground.data }, { on := 23, ground := Ground.data }, { on := 21, ground := Ground.guard }], guard := some (21, true) }) (v := ?vEz24) rfl (by kernel_rfl) (by kernel_rfl) (by kernel_rfl) (fun _ _ _ h => h) (Or.inl ⟨by rfl, ?yEz24⟩) (by assumption) ?rEz24
                      case yEz24 => (intro W hSW; (try dsimp only at hSW); first | (go_simp; done) | (go_simp; with_reducible rfl))
                      try simp only [Act.put, List.setIfInBounds_toArray, List.set_cons_zero, List.set_cons_succ]
                      refine wpAnyH_take (i := 25) (oi := { dst := some 74, op := Op.load 53 (Operand.tmp 73), type := 53, pos := "model.go:24", after := #[{ on := 24, ground := Ground.data }, { on := 21, ground := Ground.guard }], guard := some (21, true) }) (v := ?vEz25) rfl (by kernel_rfl) (by kernel_rfl) (by kernel_rfl) (fun _ _ _ h => h) (Or.inl ⟨by rfl, ?yEz25⟩) (by assumption) ?rEz25
                      case yEz25 => (intro W hSW; (try dsimp only at hSW); first | (go_simp; done) | (go_simp; with_reducible rfl))
                      try simp only [Act.put, List.setIfInBounds_toArray, List.set_cons_zero, List.set_cons_succ]
                      refine wpAnyH_take (i := 26) (oi := { dst := some 75, op := Op.fieldAddr 33 (Operand.tmp 3) 1, type := 0, pos := "model.go:24", after := #[{ on := 21, ground := Ground.guard }], guard := some (21, true) }) (v := ?vEz26) rfl (by kernel_rfl) (by kernel_rfl) (by kernel_rfl) (fun _ _ _ h => h) (Or.inl ⟨by rfl, ?yEz26⟩) (by assumption) ?rEz26
                      case yEz26 => (intro W hSW; (try dsimp only at hSW); first | (go_simp; done) | (go_simp; with_reducible rfl))
                      try simp only [Act.put, List.setIfInBounds_toArray, List.set_cons_zero, List.set_cons_succ]
                      refine wpAnyH_take (i := 27) (oi := { dst := some 76, op := Op.load 31 (Operand.tmp 75), type := 31, pos := "model.go:24", after := #[{ on := 26, ground := Ground.data }, { on := 21, ground := Ground.guard }], guard := some (21, true) }) (v := ?vEz27) rfl (by kernel_rfl) (by kernel_rfl) (by kernel_rfl) (fun _ _ _ h => h) (Or.inl ⟨by rfl, ?yEz27⟩) (by assumption) ?rEz27
                      case yEz27 => (intro W hSW; (try dsimp only at hSW); first | (go_simp; done) | (go_simp; with_reducible rfl))
                      try simp only [Act.put, List.setIfInBounds_toArray, List.set_cons_zero, List.set_cons_succ]
                      refine wpAnyH_take (i := 28) (oi := { dst := some 77, op := Op.indexAddr 31 (Operand.tmp 76) (Operand.const (Value.int IntKind.i64 0)), type := 0, pos := "model.go:24", after := #[{ on := 27, ground := Ground.data }, { on := 21, ground := Ground.guard }], guard := some (21, true) }) (v := ?vEz28) rfl (by kernel_rfl) (by kernel_rfl) (by kernel_rfl) (fun _ _ _ h => h) (Or.inl ⟨by rfl, ?yEz28⟩) (by assumption) ?rEz28
                      case yEz28 => (intro W hSW; (try dsimp only at hSW); first | (go_simp; done) | (go_simp; with_reducible rfl))
                      try simp only [Act.put, List.setIfInBounds_toArray, List.set_cons_zero, List.set_cons_succ]
                      refine wpAnyH_take (i := 29) (oi := { dst := some 78, op := Op.load 40 (Operand.tmp 77), type := 40, pos := "model.go:24", after := #[{ on := 28, ground := Ground.data }, { on := 21, ground := Ground.guard }], guard := some (21, true) }) (v := ?vEz29) rfl (by kernel_rfl) (by kernel_rfl) (by kernel_rfl) (fun _ _ _ h => h) (Or.inl ⟨by rfl, ?yEz29⟩) (by assumption) ?rEz29
                      case yEz29 => (intro W hSW; (try dsimp only at hSW); first | (go_simp; done) | (go_simp; with_reducible rfl))
                      try simp only [Act.put, List.setIfInBounds_toArray, List.set_cons_zero, List.set_cons_succ]
                      refine wpAnyH_take (i := 30) (oi := { dst := some 79, op := Op.move (Operand.tmp 5), type := 3, pos := "model.go:24", after := #[{ on := 21, ground := Ground.guard }], guard := some (21, true) }) (v := ?vEz30) rfl (by kernel_rfl) (by kernel_rfl) (by kernel_rfl) (fun _ _ _ h => h) (Or.inl ⟨by rfl, ?yEz30⟩) (by assumption) ?rEz30
                      case yEz30 => (intro W hSW; (try dsimp only at hSW); first | (go_simp; done) | (go_simp; with_reducible rfl))
                      try simp only [Act.put, List.setIfInBounds_toArray, List.set_cons_zero, List.set_cons_succ]
                      refine wpAnyH_take (i := 31) (oi := { dst := some 80, op := Op.indexAddr 40 (Operand.tmp 78) (Operand.tmp 79), type := 0, pos := "model.go:24", after := #[{ on := 29, ground := Ground.data }, { on := 30, ground := Ground.data }, { on := 21, ground := Ground.guard }], guard := some (21, true) }) (v := ?vEz31) rfl (by kernel_rfl) (by kernel_rfl) (by kernel_rfl) (fun _ _ _ h => h) (Or.inl ⟨by rfl, ?yEz31⟩) (by assumption) ?rEz31
                      case yEz31 => (intro W hSW; (try dsimp only at hSW); first | (go_simp; done) | (go_simp; with_reducible rfl))
                      try simp only [Act.put, List.setIfInBounds_toArray, List.set_cons_zero, List.set_cons_succ]
                      refine wpAnyH_take (i := 32) (oi := { dst := some 81, op := Op.load 53 (Operand.tmp 80), type := 53, pos := "model.go:24", after := #[{ on := 31, ground := Ground.data }, { on := 21, ground := Ground.guard }], guard := some (21, true) }) (v := ?vEz32) rfl (by kernel_rfl) (by kernel_rfl) (by kernel_rfl) (fun _ _ _ h => h) (Or.inl ⟨by rfl, ?yEz32⟩) (by assumption) ?rEz32
                      case yEz32 => (intro W hSW; (try dsimp only at hSW); first | (go_simp; done) | (go_simp; with_reducible rfl))
                      try simp only [Act.put, List.setIfInBounds_toArray, List.set_cons_zero, List.set_cons_succ]
                      refine wpAnyH_ready (rs := [33]) (by kernel_rfl) (by simp) ?_
                      refine AllReadyH.cons (o := { dst := some 82, op := Op.call { callee := Callee.value (Operand.func 67), args := #[Operand.tmp 74, Operand.tmp 81], argTypes := #[53, 53] }, type := 4, pos := "model.go:24", after := #[{ on := 25, ground := Ground.data }, { on := 32, ground := Ground.data }, { on := 21, ground := Ground.chain }, { on := 21, ground := Ground.guard }], guard := some (21, true) }) rfl (fun K hK => ?_) AllReadyH.nil
                      go_simp
                      go_at_call 67
                      refine (HEQ.out _ hgr1).mono ?_
                      rintro e wc2 ⟨rfl, gc2⟩
                      go_wp2_with fail
                      have hgr2 := World.grownBy.trans hgr1 gc2
                      refine hK.out _ _ (HS.out _ hgr2) (fun hHeld => ?_)
                      clear hK K
                      try simp only [Act.put, List.setIfInBounds_toArray, List.set_cons_zero, List.set_cons_succ]
                      refine wpAnyH_take (i := 34) (oi := { dst := some 83, op := Op.unOp UnOp.not 4 (Operand.tmp 82), type := 4, pos := "model.go:24", after := #[{ on := 33, ground := Ground.data }, { on := 21, ground := Ground.guard }], guard := some (21, true) }) (v := ?vEz34) rfl (by kernel_rfl) (by kernel_rfl) (by kernel_rfl) (fun _ _ _ h => h) (Or.inl ⟨by rfl, ?yEz34⟩) (by assumption) ?rEz34
                      case yEz34 => (intro W hSW; (try dsimp only at hSW); first | (go_simp; done) | (go_simp; with_reducible rfl))
                      try simp only [Act.put, List.setIfInBounds_toArray, List.set_cons_zero, List.set_cons_succ]
                      refine wpAnyH_take (i := 35) (oi := { dst := some 84, op := Op.pick (Operand.tmp 70) (Operand.tmp 83) (Operand.const (Value.bool false)), type := 4, pos := "model.go:24", after := #[{ on := 21, ground := Ground.data }, { on := 34, ground := Ground.data }, { on := 17, ground := Ground.guard }], guard := some (17, false) }) (v := ?vEz35) rfl (by kernel_rfl) (by kernel_rfl) (by kernel_rfl) (fun _ _ _ h => h) (Or.inl ⟨by rfl, ?yEz35⟩) (by assumption) ?rEz35
                      case yEz35 => (intro W hSW; (try dsimp only at hSW); first | (go_simp; done) | (go_simp; with_reducible rfl))
                      try simp only [Act.put, List.setIfInBounds_toArray, List.set_cons_zero, List.set_cons_succ]
                      refine wpAnyH_take (i := 36) (oi := { dst := some 85, op := Op.pick (Operand.tmp 66) (Operand.const (Value.bool true)) (Operand.tmp 84), type := 4, pos := "model.go:24", after := #[{ on := 17, ground := Ground.data }, { on := 35, ground := Ground.data }], guard := none }) (v := ?vEz36) rfl (by kernel_rfl) (by kernel_rfl) (by kernel_rfl) (fun _ _ _ h => h) (Or.inl ⟨by rfl, ?yEz36⟩) (by assumption) ?rEz36
                      case yEz36 => (intro W hSW; (try dsimp only at hSW); first | (go_simp; done) | (go_simp; with_reducible rfl))
                      try simp only [Act.put, List.setIfInBounds_toArray, List.set_cons_zero, List.set_cons_succ]
                      refine wpAnyH_done (by kernel_rfl) ?_ _
                      have hEND := hgr2
                      clear hHeld
                      have HE := Lib.hid (HGJ.out.1.trans hEND); clear hEND
                      go_wp2_with fail
                      go_roundg (k - (j + 1))
                      case measure => rw [HJ.out.1]; omega
                      case rel => exact ⟨j + 1, rfl, rfl, by omega, fun l' hl' => by
                        rw [List.take_add_one, HL.out.1, Option.toList_some, List.mem_append, List.mem_singleton] at hl'
                        rcases hl' with h1 | rfl
                        · exact HJ.out.2 l' h1
                        · rw [HFB.out]; rfl, HE.out⟩
              · have e1 : ((p : Int) != (f : Int)) = true := by simp; omega
                have HR : Hid (validM ns us st F L lp = false) := Lib.hid (validM_not (i := i) (fd := fd) (l := l) HFD.out.1 HL.out.1 (by
                  rw [HZ.out.1]; unfold fieldB; rw [HL.out.2.1, HN.out.2.1, decide_eq_false hpf]; rfl))
                clear hpf
                go_wp2_with fail
                go_quiet (fail)
                go_wp2_with fail
                go_ret
                exact ⟨by rw [HR.out]; rfl, HG.out.trans (HGJ.out.2.trans (grown_drewN _ _ _))⟩
            · have hje : j = k := by omega
              subst hje
              have hjB : decide (j < j) = false := by simp
              have HFB : Hid (fieldsB zs f i (F.getD i (ByteArray.empty, [], false)) L = true) := Lib.hid (by
                have h1 := HJ.out.2
                rw [List.take_of_length_le (by rw [HN.out.2.2]; exact Nat.le_refl _)] at h1
                rw [List.getD_eq_getElem?_getD, HFD.out.1]
                exact List.all_eq_true.2 h1)
              go_wp2_with fail
              go_roundg (f - (i + 1))
              case measure => rw [HI.out.1]; omega
              case rel => exact ⟨i + 1, rfl, rfl, by omega, fun t ht => by
                by_cases h1 : t < i
                · exact HI.out.2.1 t h1
                · have : t = i := by omega
                  subst this; exact HFB.out, HGJ.out.2⟩
        · have hie : i = f := by omega
          subst hie
          have hinB : decide (i < i) = false := by simp
          obtain ⟨⟨a0, a1, a2, a3⟩, b0, b1, b2, b3⟩ := HBX.out wr hgr
          have HCN := Lib.hid (contains1_calls L ta fa tc i fc w.heap.size wr (HX.out.2.2.1.grown hgr) (by rw [HN.out.2.2]; omega) a1)
          rw [HN.out.2.2] at HCN
          have HR : Hid (validM ns us st F L lp = !oddState i L) := Lib.hid (by
            have hall : allM (us.map Int.toNat) F L = true := by
              unfold allM
              rw [List.all_eq_true]
              intro j hj
              rw [HZ.out.1, HN.out.2.1]
              exact HI.out.2.1 j (by rw [← HN.out.2.1]; exact List.mem_range.1 hj)
            unfold validM
            rw [HA.out, HN.out.2.2, decide_eq_true HKS.out, HC.out, hall, HN.out.2.1]; rfl)
          obtain ⟨O, hO⟩ : ∃ O, oddState i L = O := ⟨_, rfl⟩
          rw [hO] at HCN HR
          clear hO
          go_wp2_with fail
          refine HCN.out.mono ?_
          rintro e V3 ⟨rfl, rfl⟩
          cases O
          all_goals
            go_wp2_with fail
            go_ret
            exact ⟨by rw [HR.out]; rfl, HG.out.trans HI.out.2.2⟩
  · have e1 : ((k : Int) != st) = true := by simpa using hks
    have HR : Hid (validM ns us st F L lp = false) := Lib.hid (by unfold validM; rw [HN.out.2.2, decide_eq_false hks]; simp)
    clear hks
    go_wp2_with fail
    go_ret
    exact ⟨by rw [HR.out]; rfl, HG.out.trans HG1.out⟩
end Go.Proofs.Ytbddpjofhddilaa

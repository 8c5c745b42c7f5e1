/- ClosureTransitive is proved: for every input, the law returns true and leaves its arguments as they were (the closure contains the relation, is transitive, and holds nothing but paths); there are no further conditions. -/
import Derived.Test.YthdhmflodiincaaGreatCB26
import Derived.Test.YthdhmflodiincaaGreatCB20
import Derived.Test.YthdhmflodiincaaGreatCB23
import Derived.Test.YthdhmflodiincaaGreatCB25
import Derived.Deep.DeepCutAuto
import Derived.Test.YthdhmflodiincaaGreatCB13
set_option maxRecDepth 100000
set_option maxHeartbeats 8000000
namespace Go.Proofs.YthdhmflodiincaaGreat

def Pairs (n : Nat) (A : List Int) : Prop := ∀ z ∈ A, ∃ u v, u < n ∧ v < n ∧ z = ((u * n + v : Nat) : Int)
theorem mem_joinP {n : Nat} {A B : List Int} (hA : Pairs n A) (hB : Pairs n B) {x y : Nat} (hx : x < n) (hy : y < n) :
    ((x * n + y : Nat) : Int) ∈ joinP n (n ^ (2 - 1)) A B ↔ ∃ z, z < n ∧ Hs A (x * n + z) ∧ Hs B (z * n + y) := by
  have e1 : n ^ (2 - 1) = n := Nat.pow_one n
  rw [e1]
  unfold joinP
  rw [List.mem_flatMap]
  have hdm : ∀ p q : Nat, q < n → ((p * n + q : Nat) : Int) / (n : Int) = (p : Int) ∧ ((p * n + q : Nat) : Int) % (n : Int) = (q : Int) := fun p q hq => by
    have h1 : (p * n + q) / n = p := pair_div hq
    have h2 : (p * n + q) % n = q := pair_mod hq
    constructor
    · rw [← Int.natCast_ediv, h1]
    · rw [← Int.natCast_emod, h2]
  constructor
  · rintro ⟨a, ha, h⟩
    unfold meetRow at h
    rw [List.mem_filterMap] at h
    obtain ⟨b, hb, h⟩ := h
    obtain ⟨u, v, hu, hv, rfl⟩ := hA a ha
    obtain ⟨p, q, hp, hq, rfl⟩ := hB b hb
    rw [(hdm u v hv).1, (hdm u v hv).2, (hdm p q hq).1, (hdm p q hq).2] at h
    split at h
    · rename_i e
      have e : v = p := by exact_mod_cast e
      subst e
      injection h with h
      have h : u * n + q = x * n + y := by exact_mod_cast h
      obtain ⟨rfl, rfl⟩ := pair_inj hq hy h
      exact ⟨v, hv, ha, hb⟩
    · cases h
  · rintro ⟨z, hz, h1, h2⟩
    refine ⟨_, h1, ?_⟩
    unfold meetRow
    rw [List.mem_filterMap]
    refine ⟨_, h2, ?_⟩
    rw [(hdm x z hz).1, (hdm x z hz).2, (hdm z y hy).1, (hdm z y hy).2, if_pos rfl]
    simp
theorem joinP_pairs {n : Nat} {A B : List Int} (hA : Pairs n A) (hB : Pairs n B) : Pairs n (joinP n (n ^ (2 - 1)) A B) := fun c hc => by
  have e1 : n ^ (2 - 1) = n := Nat.pow_one n
  rw [e1] at hc
  unfold joinP at hc
  rw [List.mem_flatMap] at hc
  obtain ⟨a, ha, h⟩ := hc
  unfold meetRow at h
  rw [List.mem_filterMap] at h
  obtain ⟨b, hb, h⟩ := h
  obtain ⟨u, v, hu, hv, rfl⟩ := hA a ha
  obtain ⟨p, q, hp, hq, rfl⟩ := hB b hb
  split at h
  · injection h with h
    refine ⟨u, q, hu, hq, ?_⟩
    rw [← h]
    have h1 : (u * n + v) / n = u := pair_div hv
    have h2 : (p * n + q) % n = q := pair_mod hq
    rw [← Int.natCast_ediv, h1, ← Int.natCast_emod, h2]
    simp
  · cases h
theorem pairs_small {n : Nat} {A : List Int} (hA : Pairs n A) (hn : n ≤ 4) : ∀ z ∈ A, 0 ≤ z ∧ z ≤ 15 := fun z hz => by
  obtain ⟨u, v, hu, hv, rfl⟩ := hA z hz
  have h1 : u * n ≤ 3 * 4 := Nat.mul_le_mul (by omega) hn
  omega
theorem pairs_len {n : Nat} {A : List Int} (hA : Pairs n A) (hn : n ≤ 4) (hu : Up A) : A.length ≤ 16 := by
  have h := up_len (A.map fun z => ((z, 0) : Cl)) 0 16 (by
    unfold UpM
    rw [List.map_map]
    have e : ((fun c : Cl => c.1) ∘ fun z : Int => ((z, 0) : Cl)) = id := rfl
    rw [e, List.map_id]
    exact hu) (fun c hc => by
    obtain ⟨z, hz, rfl⟩ := List.mem_map.1 hc
    have := pairs_small hA hn z hz
    show 0 ≤ z ∧ z < 0 + 16
    omega)
  rwa [List.length_map] at h
theorem wf_small {z : Int} (h : 0 ≤ z) (h2 : z ≤ 15) : (Lit.int .i64 z).wf = true := wfK_small h (by omega)
def pathL (n : Nat) (P : List Int) : Nat → List Int
  | 0 => P
  | k + 1 => uniq (joinP n (n ^ (2 - 1)) (pathL n P k) P)
def allL (n : Nat) (P : List Int) : Nat → List Int
  | 0 => P
  | k + 1 => unionL (allL n P k) (pathL n P (k + 1))
section
variable {n : Nat} {P : List Int}
theorem pathL_pairs (hP : Pairs n P) : ∀ k, Pairs n (pathL n P k)
  | 0 => hP
  | k + 1 => fun z hz => joinP_pairs (pathL_pairs hP k) hP z (mem_uniq.1 hz)
theorem pathL_up (hu : Up P) : ∀ k, Up (pathL n P k)
  | 0 => hu
  | _ + 1 => uniq_up _
theorem allL_up (hu : Up P) : ∀ k, Up (allL n P k)
  | 0 => hu
  | k + 1 => merge_up _ _ _ (allL_up hu k) (pathL_up hu (k + 1))
theorem allL_pairs (hP : Pairs n P) (hu : Up P) : ∀ k, Pairs n (allL n P k)
  | 0 => hP
  | k + 1 => fun z hz => by
    rcases (mem_union (allL_up hu k) (pathL_up hu (k + 1))).1 hz with h | h
    · exact allL_pairs hP hu k z h
    · exact pathL_pairs hP (k + 1) z h
theorem pathL_way (hP : Pairs n P) : ∀ (k x y : Nat), x < n → y < n → (Hs (pathL n P k) (x * n + y) ↔ ∃ v : Nat → Nat, v 0 = x ∧ v (k + 1) = y ∧ (∀ i, i ≤ k + 1 → v i < n) ∧ ∀ i, i < k + 1 → Hs P (v i * n + v (i + 1)))
  | 0, x, y, hx, hy => by
    constructor
    · intro h
      refine ⟨fun i => if i = 0 then x else y, rfl, rfl, fun i _ => by dsimp only; split <;> assumption, fun i hi => ?_⟩
      obtain rfl : i = 0 := by omega
      exact h
    · rintro ⟨v, rfl, rfl, _, h⟩
      exact h 0 (by omega)
  | k + 1, x, y, hx, hy => by
    have e : Hs (pathL n P (k + 1)) (x * n + y) ↔ ((x * n + y : Nat) : Int) ∈ joinP n (n ^ (2 - 1)) (pathL n P k) P := mem_uniq
    rw [e, mem_joinP (pathL_pairs hP k) hP hx hy]
    constructor
    · rintro ⟨z, hz, h1, h2⟩
      obtain ⟨v, rfl, e2, hv, hr⟩ := (pathL_way hP k x z hx hz).1 h1
      refine ⟨fun i => if i ≤ k + 1 then v i else y, if_pos (by omega), if_neg (by omega), fun i hi => ?_, fun i hi => ?_⟩
      · dsimp only
        split
        · exact hv i (by omega)
        · exact hy
      · dsimp only
        by_cases h : i < k + 1
        · rw [if_pos (by omega), if_pos (by omega)]
          exact hr i h
        · obtain rfl : i = k + 1 := by omega
          rw [if_pos (by omega), if_neg (by omega), e2]
          exact h2
    · rintro ⟨v, rfl, rfl, hv, hr⟩
      exact ⟨v (k + 1), hv _ (by omega), (pathL_way hP k _ _ hx (hv _ (by omega))).2 ⟨v, rfl, rfl, fun i hi => hv i (by omega), fun i hi => hr i (by omega)⟩, hr (k + 1) (by omega)⟩
theorem allL_way (hP : Pairs n P) (hu : Up P) : ∀ (k x y : Nat), x < n → y < n → (Hs (allL n P k) (x * n + y) ↔ Way (fun x y => Hs P (x * n + y)) n (k + 1) x y)
  | 0, x, y, hx, hy => (way_one (R := fun x y => Hs P (x * n + y)) hx hy).symm
  | k + 1, x, y, hx, hy => by
    have e : Hs (allL n P (k + 1)) (x * n + y) ↔ Hs (allL n P k) (x * n + y) ∨ Hs (pathL n P (k + 1)) (x * n + y) := mem_union (allL_up hu k) (pathL_up hu (k + 1))
    rw [e, allL_way hP hu k x y hx hy, pathL_way hP (k + 1) x y hx hy]
    constructor
    · rintro (h | ⟨v, h1, h2, h3, h4⟩)
      · exact h.wide (by omega)
      · exact ⟨k + 1 + 1, v, by omega, by omega, h1, h2, h3, h4⟩
    · rintro ⟨m, v, h1, h2, h3, h4, h5, h6⟩
      by_cases h : m ≤ k + 1
      · exact .inl ⟨m, v, h1, h, h3, h4, h5, h6⟩
      · obtain rfl : m = k + 1 + 1 := by omega
        exact .inr ⟨v, h3, h4, h5, h6⟩
theorem allL_clos (hP : Pairs n P) (hu : Up P) (hn : 1 ≤ n) : allL n P (n - 1) = uniq (closS n P) :=
  pairs_ext (allL_up hu _) (uniq_up _) (allL_pairs hP hu _) (clos_pairs hP) fun x y hx hy => by
    rw [allL_way hP hu _ x y hx hy, clos_way hP hx hy, Nat.sub_add_cancel hn]
theorem inB_sub {A B : List Int} (hA : Up A) (hB : Up B) (h : ∀ z ∈ A, z ∈ B) : inB A B = true := by
  unfold inB
  rw [decide_eq_true_iff, List.length_eq_zero_iff]
  refine List.eq_nil_iff_forall_not_mem.2 fun z hz => ?_
  obtain ⟨h1, h2⟩ := (mem_diff hA hB).1 hz
  exact h2 (h z h1)
theorem in_clos (hP : Pairs n P) (hu : Up P) : inB P (uniq (closS n P)) = true := inB_sub hu (uniq_up _) fun z hz => by
  obtain ⟨x, y, hx, hy, rfl⟩ := hP z hz
  refine (clos_way hP hx hy).2 (((way_one (R := fun x y => Hs P (x * n + y)) hx hy).2 hz).wide (by omega))
theorem join_clos (hP : Pairs n P) : inB (uniq (joinP n (n ^ (2 - 1)) (uniq (closS n P)) (uniq (closS n P)))) (uniq (closS n P)) = true := inB_sub (uniq_up _) (uniq_up _) fun z hz => by
  have hC : Pairs n (uniq (closS n P)) := clos_pairs hP
  rw [mem_uniq] at hz
  obtain ⟨x, y, hx, hy, rfl⟩ := joinP_pairs hC hC z hz
  obtain ⟨m, hm, h1, h2⟩ := (mem_joinP hC hC hx hy).1 hz
  exact (clos_way hP hx hy).2 (((clos_way hP hx hm).1 h1).join ((clos_way hP hm hy).1 h2)).short
end
end Go.Proofs.YthdhmflodiincaaGreat

namespace Go.Proofs.YthdhmflodiincaaGreat
open Go.RowKit Go.Maps

theorem value15_at {g : List Gt} {vs : List Bool} {m : List Cl} {C : List Int} {na nC : Nat} {xa ma va : Option Addr} {xc mc vc : Nat} {w : World} (ar : Int) (hC : valL g vs m = C) (hnC : C.length = nC) (hna : m.length = na) (hv8 : vs.length = 8) (hG : Good g) (hl : g.length ≤ 1000) (hok : ∀ c ∈ m, Ok g c.2) (hn : na ≤ 1000) (h : GatesW w xa xc g) (hm : CellsW w ma mc m) (hv : BoolsW w va vc vs) :
    Calls Tryz.prog 12 #[.agg #[.slice xa g.length xc], .agg #[.int .i64 ar, .slice ma na mc], .slice va 8 vc] w fun e w' => ∃ b d, e = .returned (.agg #[.int .i64 ar, .slice b nC d]) ∧ IntsW w' b d C ∧ w.grownBy w' none := by
  refine (value_at ar hna hv8 hG hl hok hn h hm hv).mono fun e w' he => ?_
  obtain ⟨b, nv, d, rfl, hl2, hi, hg⟩ := he
  rw [hC] at hl2 hi
  exact ⟨b, d, by rw [← hl2, hnC], hi, hg⟩
theorem join22_at {n : Nat} {A B J : List Int} {la lb lj : Nat} {xa ya : Option Addr} {xc yc : Nat} {w : World} (hn1 : 1 ≤ n) (hn : n ≤ 4) (hA : Pairs n A) (hB : Pairs n B) (hJ : uniq (joinP n (n ^ (2 - 1)) A B) = J) (h1 : A.length = la) (h2 : B.length = lb) (h3 : J.length = lj) (ha : la ≤ 16) (hb : lb ≤ 16) (h : IntsW w xa xc A) (h' : IntsW w ya yc B) :
    Calls Tryz.prog 14 #[.int .i64 (n : Int), .agg #[.int .i64 2, .slice xa la xc], .agg #[.int .i64 2, .slice ya lb yc]] w fun e w' => ∃ a c, e = .returned (.tuple #[.agg #[.int .i64 2, .slice a lj c], .int .i64 0]) ∧ Span w.heap.size w'.heap.size w' (fun W => IntsW W a c J) ∧ w.grownBy w' none := by
  have h9 := join_span n 2 2 A B xa ya xc yc w h h' (by omega) (by omega) hn1 (by omega) (by decide) (by decide) (by decide) (by decide) (fun x hx => by have := pairs_small hA hn x hx; omega) (fun y hy => by have := pairs_small hB hn y hy; omega) (fun v hv => by have := pairs_small (joinP_pairs hA hB) hn v hv; exact wf_small this.1 this.2)
  rw [h1, h2, hJ, h3] at h9
  exact h9
theorem transitive15_calls (s bt : Nat) (l : List Stp) (X : List Nat) (nl nx : Nat) (sa xa : Option Addr) (sc xc : Nat) (w : World) (hs : s < 256) (hbt : bt < 256) (hnl : l.length = nl) (hnx : X.length = nx)
    (hl : StpsW w sa sc l) (ho : ∀ s ∈ l, StpOk s) (hx : U8W w xa xc X) (hxb : ∀ z ∈ X, z < 256) (hxm : (X.length : Int) ≤ 9223372036854775807) :
    Calls Tryz.prog 5 #[.int .u8 (s : Int), .slice sa nl sc, .slice xa nx xc, .int .u8 (bt : Int)] w fun e w' => e = .returned (.bool true) ∧ w.grownBy w' none := by
  have HG := Lib.hid (grown_refl w none)
  obtain ⟨n, hn⟩ : ∃ z, s % 4 + 1 = z := ⟨_, rfl⟩
  have HNK := Lib.hid (show 1 ≤ n ∧ n ≤ 4 ∧ s < 256 ∧ s % 4 + 1 = n from by omega)
  clear hn
  have HL := Lib.hid hl
  have HX := Lib.hid hx
  have HSO := Lib.hid ho
  have HXB := Lib.hid (And.intro hxb hxm)
  have HLN := Lib.hid (And.intro hnl hnx)
  clear hl hx ho hxb hxm hnl hnx hs
  have HV := Lib.hid (fun (U : World) => values15_calls bt hbt U)
  go_enter Tryz.func5, Tryz.ntmps5
  go_wp2_with fail
  refine (head15_calls _).mono ?_
  rintro e V1 ⟨rfl, g⟩
  replace HL := Lib.hid (HL.out.grown g)
  replace HX := Lib.hid (HX.out.grown g)
  replace HG := Lib.hid (World.grownBy.trans HG.out g)
  clear g
  by_cases hbig : 20 < nl
  · have f1 : decide (20 < nl) = true := decide_eq_true hbig
    have f2 : decide ((20 : Int) < (nl : Int)) = true := decide_eq_true (by omega)
    go_wp2_with fail
    go_ret
    exact ⟨rfl, HG.out⟩
  · have f1 : decide (20 < nl) = false := decide_eq_false hbig
    have f2 : decide ((20 : Int) < (nl : Int)) = false := decide_eq_false (by omega)
    obtain ⟨qb, hqb⟩ : ∃ z, buildC l = z := ⟨_, rfl⟩
    obtain ⟨g, refs⟩ := qb
    have hbu := built l (by rw [HLN.out.1]; omega)
    rw [hqb] at hbu
    have HBU := Lib.hid (show Good g ∧ g.length ≤ 61 ∧ refs.length ≤ 20 ∧ ∀ r ∈ refs, Ok g r from ⟨hbu.good, by have h1 := hbu.len; have h2 := HLN.out.1; simp only at h1; omega, by have h1 := hbu.refs; have h2 := HLN.out.1; simp only at h1; omega, hbu.ok⟩)
    obtain ⟨t, ht⟩ : ∃ z, min (n ^ 2) nx = z := ⟨_, rfl⟩
    have hT : t ≤ n ^ 2 := by rw [← ht]; exact Nat.min_le_left _ _
    have hM := made_mat HBU.out.1.pos HBU.out.2.2.2 X t
    have hR := (madeC_all refs X t).2
    obtain ⟨A, hA⟩ : ∃ z, madeC refs X t = z := ⟨_, rfl⟩
    rw [hA] at hM hR
    have HMA := Lib.hid (show Sq n g A from ⟨hM, fun c hc => ⟨(hR c hc).1, by have h1 := (hR c hc).2.1; have h3 : (t : Int) ≤ ((n ^ 2 : Nat) : Int) := Int.ofNat_le.2 hT; rw [Nat.pow_two, Int.natCast_mul] at h3; exact Int.lt_of_lt_of_le h1 h3⟩⟩)
    have HBC := Lib.hid (fun (U : World) (hU : w.grownBy U none) (h1 : StpsW U sa sc l) (h2 : U8W U xa xc X) => made15_calls s n l X g refs A nl nx g.length sa xa sc xc U HNK.out.2.2.1 HNK.out.2.2.2 HLN.out.1 HLN.out.2 rfl (by omega) h1 HSO.out h2 HXB.out.1 (by have := HXB.out.2; omega) hqb (by rw [ht]; exact hA))
    have hrc := roundC_le HNK.out.2.1
    have HRC := Lib.hid (show g.length + roundC n * 2 ≤ 440 from by have := HBU.out.2.1; omega)
    clear hqb hbu hbig hM hR hT ht hA hrc
    go_wp2_with fail
    clear f1 f2
    refine (HBC.out _ HG.out HL.out HX.out).mono ?_
    rintro e V2 ⟨a0, c0, aA, mA, cA, rfl, hlA, hr, hm, g1⟩
    clear HBC HL HX
    replace HG := Lib.hid (World.grownBy.trans HG.out g1)
    clear g1
    go_upto_region 5 with fail
    have h1 := CB.new hr
    have gw := World.grownBy_alloc V2 (.cells #[.slice a0 g.length c0] 27) none
    obtain ⟨V3, hU⟩ : ∃ z, World.alloc V2 (.cells #[.slice a0 g.length c0] 27) = z := ⟨_, rfl⟩
    have hsU : V3.heap.size = V2.heap.size + 1 := by rw [← hU]; simp
    rw [hU] at gw h1 ⊢
    clear hU
    obtain ⟨bc, hbb⟩ : ∃ b, V2.heap.size = b := ⟨_, rfl⟩
    rw [hbb] at h1 hsU ⊢
    clear hbb
    replace hm := hm.grown gw
    replace HG := Lib.hid (World.grownBy.trans HG.out gw)
    clear gw
    have hb := XB.new (2 : Int) hm hlA
    have gw := World.grownBy_alloc V3 (.cells #[.int .i64 2, .slice aA mA cA] 35) none
    obtain ⟨V4, hU⟩ : ∃ z, World.alloc V3 (.cells #[.int .i64 2, .slice aA mA cA] 35) = z := ⟨_, rfl⟩
    rw [hU] at gw hb ⊢
    clear hU
    rw [hsU] at hb
    clear hsU
    obtain ⟨ba, hbb⟩ : ∃ b, bc + 1 = b := ⟨_, rfl⟩
    rw [hbb] at hb ⊢
    clear hbb
    replace h1 := h1.grown gw
    replace HG := Lib.hid (World.grownBy.trans HG.out gw)
    clear gw
    have Hc := Lib.hid h1
    clear h1
    have Ha := Lib.hid hb
    clear hb
    clear hr hm hlA
    have qc := Hc.out.1
    have qa := Ha.out.1
    have ra := Ha.out.2.1
    go_wp2_with fail
    clear qc qa ra
    refine (HV.out _).mono ?_
    rintro e V5 ⟨av, cv, rfl, hv, g1⟩
    obtain ⟨vs, hvs⟩ : ∃ z, valsL bt = z := ⟨_, rfl⟩
    have HVL := Lib.hid (show vs.length = 8 from by rw [← hvs]; exact valsL_len bt)
    rw [hvs] at hv
    clear hvs HV
    replace Hc := Lib.hid (Hc.out.grown g1)
    replace Ha := Lib.hid (Ha.out.grown g1)
    replace HG := Lib.hid (World.grownBy.trans HG.out g1)
    clear g1
    have HVV := Lib.hid hv
    clear hv
    have hPp := val_pairs HMA.out vs
    have hPu := val_up (g := g) HMA.out.1.1 vs
    have q1 := (show valL (smP n g A).1 vs (smP n g A).2 = uniq (closS n (valL g vs A)) from smP_val HBU.out.1 HMA.out HNK.out.1 HNK.out.2.1 (by have := HBU.out; omega) vs)
    have o1 := smP_ok HBU.out.1 HMA.out HNK.out.1 HNK.out.2.1 (by have := HBU.out; omega)
    have hcd := smaller_calls V5 n g A a0 aA c0 cA g.length mA rfl Ha.out.2.2.1 Hc.out.2.2 Ha.out.2.2.2 HBU.out.1 HMA.out HNK.out.1 HNK.out.2.1 HRC.out
    obtain ⟨qd, hqd⟩ : ∃ z, smP n g A = z := ⟨_, rfl⟩
    obtain ⟨gd, md⟩ := qd
    rw [hqd] at q1 o1 hcd
    simp only at q1 o1 hcd
    have e1 := allL_clos hPp hPu HNK.out.1
    have i1 := in_clos hPp hPu
    have i2 := join_clos hPp
    have hCp : Pairs n (uniq (closS n (valL g vs A))) := clos_pairs hPp
    have hCu : Up (uniq (closS n (valL g vs A))) := uniq_up _
    obtain ⟨P, hP⟩ : ∃ z, valL g vs A = z := ⟨_, rfl⟩
    rw [hP] at hPp hPu q1 e1 i1 i2 hCp hCu
    obtain ⟨C, hC⟩ : ∃ z, uniq (closS n P) = z := ⟨_, rfl⟩
    rw [hC] at q1 e1 i1 i2 hCp hCu
    obtain ⟨J, hJ⟩ : ∃ z, uniq (joinP n (n ^ (2 - 1)) C C) = z := ⟨_, rfl⟩
    rw [hJ] at i2
    have hJu : Up J := by rw [← hJ]; exact uniq_up _
    have hJp : Pairs n J := fun z hz => by rw [← hJ] at hz; exact joinP_pairs hCp hCp z (mem_uniq.1 hz)
    obtain ⟨nP, hnP⟩ : ∃ z, P.length = z := ⟨_, rfl⟩
    obtain ⟨nC, hnC⟩ : ∃ z, C.length = z := ⟨_, rfl⟩
    obtain ⟨nJ, hnJ⟩ : ∃ z, J.length = z := ⟨_, rfl⟩
    have l1 : nP ≤ 16 := by rw [← hnP]; exact pairs_len hPp HNK.out.2.1 hPu
    have l2 : nC ≤ 16 := by rw [← hnC]; exact pairs_len hCp HNK.out.2.1 hCu
    have l3 : nJ ≤ 16 := by rw [← hnJ]; exact pairs_len hJp HNK.out.2.1 hJu
    have HUgd := Lib.hid (show Good gd ∧ gd.length ≤ 900 ∧ Sq n gd md ∧ md.length ≤ 16 ∧ valL gd vs md = C from ⟨o1.1, by have h1 := o1.2.2.1; have h2 := HRC.out; omega, o1.2.2.2.1, by have h1 := o1.2.2.2.1.len; have : n * n ≤ 4 * 4 := Nat.mul_le_mul HNK.out.2.1 HNK.out.2.1; omega, q1⟩)
    have HLA := Lib.hid (show A.length ≤ 16 from by have h1 := HMA.out.len; have : n * n ≤ 4 * 4 := Nat.mul_le_mul HNK.out.2.1 HNK.out.2.1; omega)
    have HLN2 := Lib.hid (show nP ≤ 16 ∧ nC ≤ 16 ∧ nJ ≤ 16 ∧ P.length = nP ∧ C.length = nC ∧ J.length = nJ from ⟨l1, l2, l3, hnP, hnC, hnJ⟩)
    have HPP := Lib.hid (And.intro hPp hPu)
    have HCP := Lib.hid (And.intro hCp hCu)
    have HE1 := Lib.hid e1
    have HI1 := Lib.hid i1
    have HI2 := Lib.hid i2
    have HJ := Lib.hid hJ
    have HPE := Lib.hid hP
    have HC1 := Lib.hid hcd
    clear hPp hPu q1 o1 hcd hqd e1 i1 i2 hCp hCu hP hC hJ hJu hJp hnP hnC hnJ l1 l2 l3
    have qc := Hc.out.1
    have qa := Ha.out.1
    have ra := Ha.out.2.1
    go_wp2_with fail
    clear qc qa ra
    refine (HC1.out).mono ?_
    rintro e V6 ⟨ad, cd, ae, ne, ce, rfl, hn, hr, hm, g1⟩
    replace Hc := Lib.hid (Hc.out.grown g1)
    replace Ha := Lib.hid (Ha.out.grown g1)
    replace HVV := Lib.hid (HVV.out.grown g1)
    replace HG := Lib.hid (World.grownBy.trans HG.out g1)
    clear g1
    have qc := Hc.out.1
    have qa := Ha.out.1
    have ra := Ha.out.2.1
    go_upto_region 7 with fail
    clear qc qa ra
    have h1 := CB.new hr
    have gw := World.grownBy_alloc V6 (.cells #[.slice ad gd.length cd] 27) none
    obtain ⟨V7, hU⟩ : ∃ z, World.alloc V6 (.cells #[.slice ad gd.length cd] 27) = z := ⟨_, rfl⟩
    have hsU : V7.heap.size = V6.heap.size + 1 := by rw [← hU]; simp
    rw [hU] at gw h1 ⊢
    clear hU
    obtain ⟨bd, hbb⟩ : ∃ b, V6.heap.size = b := ⟨_, rfl⟩
    rw [hbb] at h1 hsU ⊢
    clear hbb
    replace hm := hm.grown gw
    replace Hc := Lib.hid (Hc.out.grown gw)
    replace Ha := Lib.hid (Ha.out.grown gw)
    replace HVV := Lib.hid (HVV.out.grown gw)
    replace HG := Lib.hid (World.grownBy.trans HG.out gw)
    clear gw
    have hb := XB.new (2 : Int) hm hn
    have gw := World.grownBy_alloc V7 (.cells #[.int .i64 2, .slice ae ne ce] 35) none
    obtain ⟨V8, hU⟩ : ∃ z, World.alloc V7 (.cells #[.int .i64 2, .slice ae ne ce] 35) = z := ⟨_, rfl⟩
    rw [hU] at gw hb ⊢
    clear hU
    rw [hsU] at hb
    clear hsU
    obtain ⟨be, hbb⟩ : ∃ b, bd + 1 = b := ⟨_, rfl⟩
    rw [hbb] at hb ⊢
    clear hbb
    replace h1 := h1.grown gw
    replace Hc := Lib.hid (Hc.out.grown gw)
    replace Ha := Lib.hid (Ha.out.grown gw)
    replace HVV := Lib.hid (HVV.out.grown gw)
    replace HG := Lib.hid (World.grownBy.trans HG.out gw)
    clear gw
    have Hd := Lib.hid h1
    clear h1
    have He := Lib.hid hb
    clear hb
    clear hr hm hn
    clear HC1
    have qc := Hc.out.1
    have qa := Ha.out.1
    have ra := Ha.out.2.1
    have qd := Hd.out.1
    have qe := He.out.1
    have re := He.out.2.1
    go_wp2_with fail
    clear qc qa ra qd qe re
    refine (value15_at 2 HPE.out HLN2.out.2.2.2.1 Ha.out.2.2.1 HVL.out HBU.out.1 (by have := HBU.out; omega) (fun c hc => (HMA.out.1.2 c hc).1) (by have := HLA.out; have := Ha.out.2.2.1; omega) Hc.out.2.2 Ha.out.2.2.2 HVV.out).mono ?_
    rintro e V9 ⟨aP, cP, rfl, hr, g1⟩
    clear HPE
    replace Hc := Lib.hid (Hc.out.grown g1)
    replace Ha := Lib.hid (Ha.out.grown g1)
    replace Hd := Lib.hid (Hd.out.grown g1)
    replace He := Lib.hid (He.out.grown g1)
    replace HVV := Lib.hid (HVV.out.grown g1)
    replace HG := Lib.hid (World.grownBy.trans HG.out g1)
    clear g1
    have qc := Hc.out.1
    have qa := Ha.out.1
    have ra := Ha.out.2.1
    have qd := Hd.out.1
    have qe := He.out.1
    have re := He.out.2.1
    go_upto_region 8 with fail
    clear qc qa ra qd qe re
    have hb := YB.new (2 : Int) hr HLN2.out.2.2.2.1
    have gw := World.grownBy_alloc V9 (.cells #[.int .i64 2, .slice aP nP cP] 40) none
    obtain ⟨V10, hV10⟩ : ∃ z, World.alloc V9 (.cells #[.int .i64 2, .slice aP nP cP] 40) = z := ⟨_, rfl⟩
    have hsV10 : V10.heap.size = V9.heap.size + 1 := by rw [← hV10]; simp
    rw [hV10] at gw hb ⊢
    clear hV10
    obtain ⟨bp, hbb⟩ : ∃ b, V9.heap.size = b := ⟨_, rfl⟩
    rw [hbb] at hb hsV10 ⊢
    clear hbb
    replace Hc := Lib.hid (Hc.out.grown gw)
    replace Ha := Lib.hid (Ha.out.grown gw)
    replace Hd := Lib.hid (Hd.out.grown gw)
    replace He := Lib.hid (He.out.grown gw)
    replace HVV := Lib.hid (HVV.out.grown gw)
    replace HG := Lib.hid (World.grownBy.trans HG.out gw)
    clear gw
    have Hp := Lib.hid hb
    clear hb
    clear hr hsV10
    have qc := Hc.out.1
    have qa := Ha.out.1
    have ra := Ha.out.2.1
    have qd := Hd.out.1
    have qe := He.out.1
    have re := He.out.2.1
    have qp := Hp.out.1
    have rp := Hp.out.2.1
    go_wp2_with fail
    clear qc qa ra qd qe re qp rp
    refine (value15_at 2 HUgd.out.2.2.2.2 HLN2.out.2.2.2.2.1 He.out.2.2.1 HVL.out HUgd.out.1 (by have := HUgd.out; omega) (fun c hc => (HUgd.out.2.2.1.1.2 c hc).1) (by have := HUgd.out; have := He.out.2.2.1; omega) Hd.out.2.2 He.out.2.2.2 HVV.out).mono ?_
    rintro e V11 ⟨aC, cC, rfl, hr, g1⟩
    replace Hc := Lib.hid (Hc.out.grown g1)
    replace Ha := Lib.hid (Ha.out.grown g1)
    replace Hd := Lib.hid (Hd.out.grown g1)
    replace He := Lib.hid (He.out.grown g1)
    replace Hp := Lib.hid (Hp.out.grown g1)
    replace HVV := Lib.hid (HVV.out.grown g1)
    replace HG := Lib.hid (World.grownBy.trans HG.out g1)
    clear g1
    have qc := Hc.out.1
    have qa := Ha.out.1
    have ra := Ha.out.2.1
    have qd := Hd.out.1
    have qe := He.out.1
    have re := He.out.2.1
    have qp := Hp.out.1
    have rp := Hp.out.2.1
    go_upto_region 9 with fail
    clear qc qa ra qd qe re qp rp
    have hb := YB.new (2 : Int) hr HLN2.out.2.2.2.2.1
    have gw := World.grownBy_alloc V11 (.cells #[.int .i64 2, .slice aC nC cC] 40) none
    obtain ⟨V12, hV12⟩ : ∃ z, World.alloc V11 (.cells #[.int .i64 2, .slice aC nC cC] 40) = z := ⟨_, rfl⟩
    have hsV12 : V12.heap.size = V11.heap.size + 1 := by rw [← hV12]; simp
    rw [hV12] at gw hb ⊢
    clear hV12
    obtain ⟨bt1, hbb⟩ : ∃ b, V11.heap.size = b := ⟨_, rfl⟩
    rw [hbb] at hb hsV12 ⊢
    clear hbb
    replace Hc := Lib.hid (Hc.out.grown gw)
    replace Ha := Lib.hid (Ha.out.grown gw)
    replace Hd := Lib.hid (Hd.out.grown gw)
    replace He := Lib.hid (He.out.grown gw)
    replace Hp := Lib.hid (Hp.out.grown gw)
    replace HVV := Lib.hid (HVV.out.grown gw)
    replace HG := Lib.hid (World.grownBy.trans HG.out gw)
    clear gw
    have Ht := Lib.hid hb
    clear hb
    clear hr hsV12
    have qc := Hc.out.1
    have qa := Ha.out.1
    have ra := Ha.out.2.1
    have qd := Hd.out.1
    have qe := He.out.1
    have re := He.out.2.1
    have qp := Hp.out.1
    have rp := Hp.out.2.1
    have qt := Ht.out.1
    have rt := Ht.out.2.1
    go_wp2_with fail
    clear qc qa ra qd qe re qp rp qt rt
    refine (join22_at HNK.out.1 HNK.out.2.1 HCP.out.1 HCP.out.1 HJ.out HLN2.out.2.2.2.2.1 HLN2.out.2.2.2.2.1 HLN2.out.2.2.2.2.2 HLN2.out.2.1 HLN2.out.2.1 Ht.out.2.2.2 Ht.out.2.2.2).mono ?_
    rintro e V13 ⟨aJ, cJ, rfl, hsp, g1⟩
    have hr := hsp.here
    clear hsp
    replace Hc := Lib.hid (Hc.out.grown g1)
    replace Ha := Lib.hid (Ha.out.grown g1)
    replace Hd := Lib.hid (Hd.out.grown g1)
    replace He := Lib.hid (He.out.grown g1)
    replace Hp := Lib.hid (Hp.out.grown g1)
    replace Ht := Lib.hid (Ht.out.grown g1)
    replace HVV := Lib.hid (HVV.out.grown g1)
    replace HG := Lib.hid (World.grownBy.trans HG.out g1)
    clear g1
    have qc := Hc.out.1
    have qa := Ha.out.1
    have ra := Ha.out.2.1
    have qd := Hd.out.1
    have qe := He.out.1
    have re := He.out.2.1
    have qp := Hp.out.1
    have rp := Hp.out.2.1
    have qt := Ht.out.1
    have rt := Ht.out.2.1
    go_upto_region 10 with fail
    clear qc qa ra qd qe re qp rp qt rt
    have hb := YB.new (2 : Int) hr HLN2.out.2.2.2.2.2
    have gw := World.grownBy_alloc V13 (.cells #[.int .i64 2, .slice aJ nJ cJ] 40) none
    obtain ⟨V14, hV14⟩ : ∃ z, World.alloc V13 (.cells #[.int .i64 2, .slice aJ nJ cJ] 40) = z := ⟨_, rfl⟩
    have hsV14 : V14.heap.size = V13.heap.size + 1 := by rw [← hV14]; simp
    rw [hV14] at gw hb ⊢
    clear hV14
    obtain ⟨bj, hbb⟩ : ∃ b, V13.heap.size = b := ⟨_, rfl⟩
    rw [hbb] at hb hsV14 ⊢
    clear hbb
    replace Hc := Lib.hid (Hc.out.grown gw)
    replace Ha := Lib.hid (Ha.out.grown gw)
    replace Hd := Lib.hid (Hd.out.grown gw)
    replace He := Lib.hid (He.out.grown gw)
    replace Hp := Lib.hid (Hp.out.grown gw)
    replace Ht := Lib.hid (Ht.out.grown gw)
    replace HVV := Lib.hid (HVV.out.grown gw)
    replace HG := Lib.hid (World.grownBy.trans HG.out gw)
    clear gw
    have Hj := Lib.hid hb
    clear hb
    clear hr hsV14
    have qc := Hc.out.1
    have qa := Ha.out.1
    have ra := Ha.out.2.1
    have qd := Hd.out.1
    have qe := He.out.1
    have re := He.out.2.1
    have qp := Hp.out.1
    have rp := Hp.out.2.1
    have qt := Ht.out.1
    have rt := Ht.out.2.1
    have qj := Hj.out.1
    have rj := Hj.out.2.1
    go_wp2_with fail
    clear qc qa ra qd qe re qp rp qt rt qj rj
    have hin := in_calls 2 2 P C aP aC cP cC V14 Hp.out.2.2.2 Ht.out.2.2.2 (by have := HLN2.out; omega) (by have := HLN2.out; omega)
    rw [HI1.out, HLN2.out.2.2.2.1, HLN2.out.2.2.2.2.1] at hin
    refine hin.mono ?_
    clear hin
    rintro e V15 ⟨rfl, g1⟩
    replace Hc := Lib.hid (Hc.out.grown g1)
    replace Ha := Lib.hid (Ha.out.grown g1)
    replace Hd := Lib.hid (Hd.out.grown g1)
    replace He := Lib.hid (He.out.grown g1)
    replace Hp := Lib.hid (Hp.out.grown g1)
    replace Ht := Lib.hid (Ht.out.grown g1)
    replace Hj := Lib.hid (Hj.out.grown g1)
    replace HVV := Lib.hid (HVV.out.grown g1)
    replace HG := Lib.hid (World.grownBy.trans HG.out g1)
    clear g1
    have qc := Hc.out.1
    have qa := Ha.out.1
    have ra := Ha.out.2.1
    have qd := Hd.out.1
    have qe := He.out.1
    have re := He.out.2.1
    have qp := Hp.out.1
    have rp := Hp.out.2.1
    have qt := Ht.out.1
    have rt := Ht.out.2.1
    have qj := Hj.out.1
    have rj := Hj.out.2.1
    go_wp2_with fail
    clear qc qa ra qd qe re qp rp qt rt qj rj
    have hin := in_calls 2 2 J C aJ aC cJ cC V15 Hj.out.2.2.2 Ht.out.2.2.2 (by have := HLN2.out; omega) (by have := HLN2.out; omega)
    rw [HI2.out, HLN2.out.2.2.2.2.2, HLN2.out.2.2.2.2.1] at hin
    refine hin.mono ?_
    clear hin
    rintro e V16 ⟨rfl, g1⟩
    replace Hc := Lib.hid (Hc.out.grown g1)
    replace Ha := Lib.hid (Ha.out.grown g1)
    replace Hd := Lib.hid (Hd.out.grown g1)
    replace He := Lib.hid (He.out.grown g1)
    replace Hp := Lib.hid (Hp.out.grown g1)
    replace Ht := Lib.hid (Ht.out.grown g1)
    replace Hj := Lib.hid (Hj.out.grown g1)
    replace HVV := Lib.hid (HVV.out.grown g1)
    replace HG := Lib.hid (World.grownBy.trans HG.out g1)
    clear g1
    have HpB := Hp
    have HtB := Ht
    have HGB := HG
    have qc := Hc.out.1
    have qa := Ha.out.1
    have ra := Ha.out.2.1
    have qd := Hd.out.1
    have qe := He.out.1
    have re := He.out.2.1
    have qp := Hp.out.1
    have rp := Hp.out.2.1
    have qt := Ht.out.1
    have rt := Ht.out.2.1
    have qj := Hj.out.1
    have rj := Hj.out.2.1
    go_upto_region 13 with fail
    clear qc qa ra qd qe re qp rp qt rt qj rj
    have h20 := Two.new V16 (.int .i64 2) (.slice aP nP cP) 40
    have gw := World.grownBy_alloc V16 (.cells #[.int .i64 2, .slice aP nP cP] 40) none
    obtain ⟨V17, hU⟩ : ∃ z, World.alloc V16 (.cells #[.int .i64 2, .slice aP nP cP] 40) = z := ⟨_, rfl⟩
    have hs20 : V17.heap.size = V16.heap.size + 1 := by rw [← hU]; simp
    rw [hU] at h20 gw ⊢
    clear hU
    obtain ⟨b20, hb20⟩ : ∃ z, V16.heap.size = z := ⟨_, rfl⟩
    rw [hb20] at h20 hs20 ⊢
    have HGW := Lib.hid gw
    have H20 := Lib.hid h20
    have HB20 := Lib.hid hb20
    have HS20 := Lib.hid hs20
    clear h20 hb20 hs20
    replace Hc := Lib.hid (Hc.out.grown gw)
    replace Ha := Lib.hid (Ha.out.grown gw)
    replace Hd := Lib.hid (Hd.out.grown gw)
    replace He := Lib.hid (He.out.grown gw)
    replace Hp := Lib.hid (Hp.out.grown gw)
    replace Ht := Lib.hid (Ht.out.grown gw)
    replace Hj := Lib.hid (Hj.out.grown gw)
    replace HVV := Lib.hid (HVV.out.grown gw)
    replace HG := Lib.hid (World.grownBy.trans HG.out gw)
    clear gw
    have qc := Hc.out.1
    have qa := Ha.out.1
    have ra := Ha.out.2.1
    have qd := Hd.out.1
    have qe := He.out.1
    have re := He.out.2.1
    have qp := Hp.out.1
    have rp := Hp.out.2.1
    have qt := Ht.out.1
    have rt := Ht.out.2.1
    have qj := Hj.out.1
    have rj := Hj.out.2.1
    go_wp2_with fail
    clear qc qa ra qd qe re qp rp qt rt qj rj
    have h21 := Two.new V17 (.int .i64 2) (.slice aP nP cP) 40
    have gw := World.grownBy_alloc V17 (.cells #[.int .i64 2, .slice aP nP cP] 40) none
    obtain ⟨V18, hU⟩ : ∃ z, World.alloc V17 (.cells #[.int .i64 2, .slice aP nP cP] 40) = z := ⟨_, rfl⟩
    rw [hU] at h21 gw ⊢
    clear hU
    rw [HS20.out] at h21 ⊢
    obtain ⟨b21, hb21⟩ : ∃ z, b20 + 1 = z := ⟨_, rfl⟩
    rw [hb21] at h21 ⊢
    have hg0 := World.grownBy.trans HGW.out gw
    have h20 := H20.out.off gw (fun _ e => by cases e)
    clear gw H20
    have hpl := (intsW_span HpB.out.2.2.2).off hg0 (fun _ e => by cases e)
    rw [HB20.out] at hpl
    have hn1 := HNK.out.1
    go_loopg [22] n (fun gk s22 wr => ∃ (k : Nat) (aq ar : Option Addr) (nq cq nr cr lo1 hi1 lo2 hi2 : Nat), s22 = .int .i64 ((k + 1 : Nat) : Int) ∧ gk = n - k ∧ k + 1 ≤ n ∧ V16.grownBy wr none ∧ Two wr b20 (.int .i64 2) (.slice aq nq cq) ∧ Two wr b21 (.int .i64 2) (.slice ar nr cr) ∧ (pathL n P k).length = nq ∧ (allL n P k).length = nr ∧ Span lo1 hi1 wr (fun W => IntsW W aq cq (pathL n P k)) ∧ (hi1 ≤ b20 ∨ b21 < lo1) ∧ Span lo2 hi2 wr (fun W => IntsW W ar cr (allL n P k)) ∧ (hi2 ≤ b20 ∨ b21 < lo2))
    case atStart => exact ⟨0, aP, aP, nP, cP, nP, cP, 0, b20, 0, b20, rfl, rfl, hn1, hg0, h20, h21, HLN2.out.2.2.2.1, HLN2.out.2.2.2.1, hpl, .inl (Nat.le_refl _), hpl, .inl (Nat.le_refl _)⟩
    case round =>
      clear hg0 h20 h21 hpl hn1
      obtain ⟨k, aq, ar, nq, cq, nr, cr, lo1, hi1, lo2, hi2, rfl, hgk, hk, hg, h20, h21, e1, e2, s1, d1, s2, d2⟩ := hrel
      have HK := Lib.hid (And.intro hgk (And.intro hk (And.intro d1 d2)))
      have HN1 := Lib.hid (And.intro e1 e2)
      have H20 := Lib.hid h20
      have H21 := Lib.hid h21
      have HS1 := Lib.hid s1
      have HS2 := Lib.hid s2
      have HGL := Lib.hid hg
      have hb21L : b20 + 1 = b21 := hb21
      have HB21 := Lib.hid hb21L
      clear hgk e1 e2 d1 d2 h20 h21 s1 s2 hg hb21L hb21
      have hpp := pathL_pairs HPP.out.1 k
      have hpu := pathL_up (n := n) HPP.out.2 k
      have hpp1 := pathL_pairs HPP.out.1 (k + 1)
      have hpu1 := pathL_up (n := n) HPP.out.2 (k + 1)
      have hap := allL_pairs HPP.out.1 HPP.out.2 k
      have hau := allL_up (n := n) HPP.out.2 k
      have hap1 := allL_pairs HPP.out.1 HPP.out.2 (k + 1)
      have hau1 := allL_up (n := n) HPP.out.2 (k + 1)
      have hjj : uniq (joinP n (n ^ (2 - 1)) (pathL n P k) P) = pathL n P (k + 1) := rfl
      have huu : unionL (allL n P k) (pathL n P (k + 1)) = allL n P (k + 1) := rfl
      have hend : k + 1 = n → allL n P k = C := fun e => by rw [← HE1.out, ← e]; rfl
      obtain ⟨Pk, hPk⟩ : ∃ z, pathL n P k = z := ⟨_, rfl⟩
      obtain ⟨Pn, hPn⟩ : ∃ z, pathL n P (k + 1) = z := ⟨_, rfl⟩
      obtain ⟨Ak, hAk⟩ : ∃ z, allL n P k = z := ⟨_, rfl⟩
      obtain ⟨An, hAn⟩ : ∃ z, allL n P (k + 1) = z := ⟨_, rfl⟩
      rw [hPk] at hpp hpu hjj HN1 HS1
      rw [hPn] at hpp1 hpu1 hjj huu
      rw [hAk] at hap hau huu hend HN1 HS2
      rw [hAn] at hap1 hau1 huu
      obtain ⟨mP, hmP⟩ : ∃ z, Pn.length = z := ⟨_, rfl⟩
      obtain ⟨mA, hmA⟩ : ∃ z, An.length = z := ⟨_, rfl⟩
      have HL16 := Lib.hid (show nq ≤ 16 ∧ nr ≤ 16 ∧ mP ≤ 16 ∧ mA ≤ 16 from ⟨by rw [← HN1.out.1]; exact pairs_len hpp HNK.out.2.1 hpu, by rw [← HN1.out.2]; exact pairs_len hap HNK.out.2.1 hau, by rw [← hmP]; exact pairs_len hpp1 HNK.out.2.1 hpu1, by rw [← hmA]; exact pairs_len hap1 HNK.out.2.1 hau1⟩)
      have HPK := Lib.hid hpp
      have HJJ := Lib.hid hjj
      have HUU := Lib.hid huu
      have HEN := Lib.hid hend
      have HPN := Lib.hid hPn
      have HAN := Lib.hid hAn
      have HMM := Lib.hid (And.intro hmP hmA)
      clear hpp hpu hpp1 hpu1 hap hau hap1 hau1 hjj huu hend hPk hPn hAk hAn hmP hmA
      by_cases hkn : k + 1 < n
      · have f1 : decide (k + 1 < n) = true := decide_eq_true hkn
        have f2 : decide (((k + 1 : Nat) : Int) < (n : Int)) = true := decide_eq_true (by omega)
        have f3 : IntKind.i64.wrap ((k : Int) + 1 + 1) = ((k + 1 + 1 : Nat) : Int) := by rw [IntWalk.i64_in _ (by have := HNK.out; omega)]; omega
        have f4 := HNK.out.2.1
        have q0 := H20.out.1.1
        have q1 := H20.out.1.2
        have q2 := (HpB.out.grown HGL.out).1
        have q3 := (HpB.out.grown HGL.out).2.1
        go_wp2_with fail
        clear q0 q1 q2 q3
        have HLT := Lib.hid (And.intro H20.out.lt H21.out.lt)
        refine (join22_at HNK.out.1 HNK.out.2.1 HPK.out HPP.out.1 HJJ.out HN1.out.1 HLN2.out.2.2.2.1 HMM.out.1 HL16.out.1 HLN2.out.1 HS1.out.here (HpB.out.grown HGL.out).2.2.2).mono ?_
        rintro e W1 ⟨aN, cN, rfl, hsp, g1⟩
        replace H20 := Lib.hid (H20.out.off g1 (fun _ e => by cases e))
        replace H21 := Lib.hid (H21.out.off g1 (fun _ e => by cases e))
        have HDD := HK.out.2.2
        replace HS2 := Lib.hid (HS2.out.off g1 (fun _ e => by cases e))
        replace HGL := Lib.hid (World.grownBy.trans HGL.out g1)
        have HSN := Lib.hid hsp
        have HSZ := Lib.hid (World.grownBy.size g1)
        clear hsp g1 HS1
        have q0 := H20.out.1.1
        have q1 := H20.out.1.2
        go_upto_region 18 with fail
        clear q0 q1
        have h23 := Two.new W1 (.int .i64 2) (.slice aN mP cN) 40
        have gw := World.grownBy_alloc W1 (.cells #[.int .i64 2, .slice aN mP cN] 40) none
        obtain ⟨W2, hU⟩ : ∃ z, World.alloc W1 (.cells #[.int .i64 2, .slice aN mP cN] 40) = z := ⟨_, rfl⟩
        rw [hU] at h23 gw ⊢
        clear hU
        obtain ⟨b23, hb23⟩ : ∃ z, W1.heap.size = z := ⟨_, rfl⟩
        rw [hb23] at h23 HSN HSZ ⊢
        replace H20 := Lib.hid (H20.out.off gw (fun _ e => by cases e))
        replace H21 := Lib.hid (H21.out.off gw (fun _ e => by cases e))
        replace HS2 := Lib.hid (HS2.out.off gw (fun _ e => by cases e))
        replace HSN := Lib.hid (HSN.out.off gw (fun _ e => by cases e))
        replace HGL := Lib.hid (World.grownBy.trans HGL.out gw)
        have H23 := Lib.hid h23
        clear h23 gw hb23
        have q0 := H23.out.1.1
        have q1 := H23.out.1.2
        have q2 := H20.out.1.1
        have q3 := H20.out.1.2
        have q4 := H20.out.2 0
        have q5 := H20.out.2 1
        go_upto_region 21 with fail
        clear q0 q1 q2 q3 q4 q5
        obtain ⟨h20, gs⟩ := two_set H20.out (.int .i64 2) (.slice aN mP cN)
        obtain ⟨W3, hU⟩ : ∃ z, (W2.setCell ⟨b20, 0, none⟩ (.int .i64 2)).setCell ⟨b20, 1, none⟩ (.slice aN mP cN) = z := ⟨_, rfl⟩
        rw [hU] at h20 gs ⊢
        clear hU
        replace H20 := Lib.hid h20
        replace H21 := Lib.hid (H21.out.off gs (fun x e => by injection e with e; have := HB21.out; omega))
        replace H23 := Lib.hid (H23.out.off gs (fun x e => by injection e with e; have := HLT.out; have := HSZ.out; omega))
        replace HS2 := Lib.hid (HS2.out.off gs (fun x e => by injection e with e; have := HDD.2; have := HB21.out; omega))
        replace HSN := Lib.hid (HSN.out.off gs (fun x e => by injection e with e; have := HLT.out; omega))
        replace HGL := Lib.hid (grown_own HGL.out gs (fun x e => by injection e with e; have := HB20.out; omega))
        clear h20 gs
        have q0 := H23.out.1.1
        have q1 := H23.out.1.2
        have q2 := H21.out.1.1
        have q3 := H21.out.1.2
        go_wp2_with fail
        clear q0 q1 q2 q3
        have HW3 := Lib.hid (H21.out.lt)
        have hun := union_calls 2 2 Ak Pn ar aN cr cN W3 HS2.out.here HSN.out.here (by have := HN1.out; have := HL16.out; omega) (by have := HMM.out; have := HL16.out; omega)
        rw [HUU.out, HN1.out.2, HMM.out.1, HMM.out.2] at hun
        refine hun.mono ?_
        clear hun
        rintro e W4 ⟨aU, cU, rfl, hsp, g1⟩
        replace H20 := Lib.hid (H20.out.off g1 (fun _ e => by cases e))
        replace H21 := Lib.hid (H21.out.off g1 (fun _ e => by cases e))
        replace HSN := Lib.hid (HSN.out.off g1 (fun _ e => by cases e))
        replace HGL := Lib.hid (World.grownBy.trans HGL.out g1)
        have HSU := Lib.hid hsp
        have HSU := Lib.hid hsp
        clear hsp g1 HS2 H23
        have q2 := H21.out.1.1
        have q3 := H21.out.1.2
        have q4 := H21.out.2 0
        have q5 := H21.out.2 1
        go_wp2_with fail
        clear q2 q3 q4 q5
        obtain ⟨h21, gs⟩ := two_set H21.out (.int .i64 2) (.slice aU mA cU)
        obtain ⟨W5, hU⟩ : ∃ z, (W4.setCell ⟨b21, 0, none⟩ (.int .i64 2)).setCell ⟨b21, 1, none⟩ (.slice aU mA cU) = z := ⟨_, rfl⟩
        rw [hU] at h21 gs ⊢
        clear hU
        replace H21 := Lib.hid h21
        replace H20 := Lib.hid (H20.out.off gs (fun x e => by injection e with e; have := HB21.out; omega))
        replace HSN := Lib.hid (HSN.out.off gs (fun x e => by injection e with e; have := HLT.out; omega))
        replace HSU := Lib.hid (HSU.out.off gs (fun x e => by injection e with e; have := HW3.out; omega))
        replace HGL := Lib.hid (grown_own HGL.out gs (fun x e => by injection e with e; have := HB20.out; have := HB21.out; omega))
        clear h21 gs
        clear f1 f2 f3 f4
        go_roundg (n - (k + 1))
        case measure => rw [HK.out.1]; omega
        case rel => exact ⟨k + 1, aN, aU, mP, cN, mA, cU, _, _, _, _, rfl, rfl, by omega, HGL.out, H20.out, H21.out, by rw [HPN.out]; exact HMM.out.1, by rw [HAN.out]; exact HMM.out.2, by rw [HPN.out]; exact HSN.out, .inr (by have := HLT.out; omega), by rw [HAN.out]; exact HSU.out, .inr (by have := HW3.out; omega)⟩
      · have f1 : decide (k + 1 < n) = false := decide_eq_false hkn
        have f2 : decide (((k + 1 : Nat) : Int) < (n : Int)) = false := decide_eq_false (by omega)
        have hcc := HEN.out (by omega)
        have q0 := H21.out.1.1
        have q1 := H21.out.1.2
        have q2 := (HtB.out.grown HGL.out).1
        have q3 := (HtB.out.grown HGL.out).2.1
        have HCC := Lib.hid hcc
        clear hcc
        go_wp2_with fail
        clear q0 q1 q2 q3
        have hrr := HS2.out.here
        have hnr := HN1.out.2
        rw [HCC.out] at hrr hnr
        obtain rfl : nr = nC := by rw [← hnr]; exact HLN2.out.2.2.2.2.1
        refine (h_eq_at 2 hnr hrr (HtB.out.grown HGL.out).2.2.2 (by have := HL16.out; omega)).mono ?_
        rintro e W1 ⟨rfl, g1⟩
        go_wp2_with fail
        go_ret
        exact ⟨rfl, World.grownBy.trans HGB.out (World.grownBy.trans HGL.out g1)⟩
end Go.Proofs.YthdhmflodiincaaGreat

namespace Go.Proofs.YthdhmflodiincaaGreat
open Go.ChangeShapes Go.WideShapes Go.ChangeAt Go.WideMaps Go.WideElems Go.RowKit

theorem closureTransitive_lifted (os : Os) (started : os.Started) (H : Type) (enc : TypeId × Value → H) :
    ReturnsInHanded {} Tryz.checked os 5 .any (Rows.closureTransitiveSpec.pre6 enc Tryz.prog Tryz.f5 [] false) (Rows.closureTransitiveSpec.post enc Tryz.prog Tryz.f5 false true false false) := by
  refine returnsInHanded_of_change (C := Tryz.checked) own started (by kernel_rfl) Tryz.func5
    (ChangeSpec.witness6 (enc := enc) (C := Tryz.checked) false ⟨#[], #[.int .u8 0, .slice none 0 0, .slice none 0 0, .int .u8 0], []⟩ 8 (by kernel_rfl) (by kernel_rfl) (by kernel_rfl) (by kernel_rfl)) ?_
  intro W base args ds gs before hval0 hW _ _
  have hval : ∀ (j : Nat) t v, Tryz.f5.params[j]? = some t → args[j]? = some v → Value.okWide Tryz.prog W .any base t v := hval0
  have hW' := hW
  obtain ⟨p, q, hA0, hV, rfl, _, _⟩ := hW
  have hA : DataW.TrodAll enc Tryz.prog W 0 (fun _ => true) true Tryz.f5.params.toList args.toList ds p := hA0
  rw [Tryz.params5] at hA hval
  have hpl : ∀ x ∈ p, x.block < W.heap.size := fun x hx => hW'.lt x (by simp [hx])
  have hA2 := hA
  obtain ⟨v0, v1, v2, v3, d0, d1, d2, d3, p0, p1, p2, p3, rfl, rfl, rfl, h0, h1, h2, h3⟩ := trodAll_four hA
  obtain ⟨rfl, rfl⟩ := trodVars_none hV
  obtain ⟨z0, rfl, hz0⟩ := open_u8 (hval 0 5 v0 rfl rfl) h0
  obtain ⟨l1, sa1, sc1, rfl, hs1, ho1, hm1⟩ := open_stps (hval 1 22 v1 rfl rfl) h1
  obtain ⟨l2, sa2, sc2, rfl, hs2, ho2, hm2⟩ := open_u8s (hval 2 23 v2 rfl rfl) h2
  obtain ⟨z3, rfl, hz3⟩ := open_u8 (hval 3 5 v3 rfl rfl) h3
  refine (transitive15_calls z0 z3 l1 l2 _ _ sa1 sa2 sc1 sc2 W hz0 hz3 rfl rfl hs1 ho1 hs2 ho2 hm2).mono fun e W' ⟨he, hw⟩ => ?_
  subst he
  have hbl := below_of hw
  exact ⟨_, rfl, _, _, _, [], _, [], hW', trodAll_mk1 (shut_bool Tryz.underlying4 _), trodAll_below hbl (by decide +kernel) hA2 hpl, rfl, hbl.frame _, fun h => by cases h⟩

theorem closureTransitive_holds : Rows.ClosureTransitiveSaid :=
  OpenClaim.holds_of_wide 5 Tryz.f5 rfl rfl rfl rfl rfl rfl rfl ⟨rfl, rfl, rfl, rfl, rfl⟩ rfl rfl rfl rfl rfl (by kernel_rfl) Tryz.func5 (by kernel_rfl)
    (of_decide_eq_true (by kernel_rfl)) (by unfold Func.isWrapper; rw [if_neg (of_decide_eq_false (by kernel_rfl))]; exact ⟨rfl, rfl⟩)
    (fun os started H enc _ => closureTransitive_lifted os started H enc)
end Go.Proofs.YthdhmflodiincaaGreat

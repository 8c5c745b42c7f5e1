/- What a law gets; Great; the inputs. -/
import Derived.Test.YthagoihpppppkaaQ8
namespace Go.Proofs.Ythagoihpppppkaa
open Go.RowKit Go.Maps

/-- A row of bytes that is read. -/
def U8sW (w : World) (a : Option Addr) (c : Nat) (l : List Nat) : Prop :=
  l.length ≤ c ∧ (l = [] ∨ ∃ b o, a = some ⟨b, o, none⟩ ∧ ∀ (j : Nat) (z : Nat), l[j]? = some z → w.cell? ⟨b, o + j, none⟩ = some (.int .u8 (z : Int)))
theorem U8sW.grown {w w' : World} {a : Option Addr} {c : Nat} {l : List Nat} (h : U8sW w a c l) (hg : w.grownBy w' none) : U8sW w' a c l := by
  obtain ⟨hc, h | ⟨b, o, ha, hz⟩⟩ := h
  · exact ⟨hc, .inl h⟩
  · exact ⟨hc, .inr ⟨b, o, ha, fun j z hj => hg.cell (hz j z hj) (by simp)⟩⟩
theorem U8sW.at {w : World} {a : Option Addr} {c : Nat} {l : List Nat} (h : U8sW w a c l) {i z : Nat} (hz : l[i]? = some z) : ∃ b o, a = some ⟨b, o, none⟩ ∧ w.cell? ⟨b, o + i, none⟩ = some (.int .u8 (z : Int)) := by
  obtain ⟨_, h | ⟨b, o, ha, hc⟩⟩ := h
  · rw [h] at hz; simp at hz
  · exact ⟨b, o, ha, hc i z hz⟩
theorem raw_cells (w : World) (sa : Option Addr) (nl sc : Nat) (aa : Option Addr) (na ac : Nat) (ba : Option Addr) (nb bc : Nat) (va : Option Addr) (nv vc : Nat) (y : Int) :
    let W := w.alloc (.cells #[.slice sa nl sc, .slice aa na ac, .slice ba nb bc, .slice va nv vc, .int .i8 y] 27)
    W.cell? ⟨w.heap.size, 0, none⟩ = some (.slice sa nl sc) ∧ W.cell? ⟨w.heap.size, 1, none⟩ = some (.slice aa na ac) ∧ W.cell? ⟨w.heap.size, 2, none⟩ = some (.slice ba nb bc) ∧ W.cell? ⟨w.heap.size, 3, none⟩ = some (.slice va nv vc) ∧ W.cell? ⟨w.heap.size, 4, none⟩ = some (.int .i8 y) := by
  refine ⟨by go_simp, by go_simp, by go_simp, by go_simp, by go_simp⟩
def greatB (nl na nb nv : Nat) : Bool := decide (40 < nl) || decide (9 < na) || decide (9 < nb) || decide (20 < nv)
theorem great_calls (w : World) (sa : Option Addr) (nl sc : Nat) (aa : Option Addr) (na ac : Nat) (ba : Option Addr) (nb bc : Nat) (va : Option Addr) (nv vc : Nat) (y : Int) :
    Calls Try.prog 11 #[.agg #[.slice sa nl sc, .slice aa na ac, .slice ba nb bc, .slice va nv vc, .int .i8 y]] w fun e w' => e = .returned (.bool (greatB nl na nb nv)) ∧ w.grownBy w' none := by
  obtain ⟨W1, hW1⟩ : ∃ z, w.alloc (.cells #[.slice sa nl sc, .slice aa na ac, .slice ba nb bc, .slice va nv vc, .int .i8 y] 27) = z := ⟨_, rfl⟩
  have hg1 := World.grownBy_alloc w (.cells #[.slice sa nl sc, .slice aa na ac, .slice ba nb bc, .slice va nv vc, .int .i8 y] 27) none
  have q := raw_cells w sa nl sc aa na ac ba nb bc va nv vc y
  rw [hW1] at hg1 q
  have HG := Lib.hid hg1
  obtain ⟨q0, q1, q2, q3, q4⟩ := q
  clear hg1
  by_cases h0 : 40 < nl
  · have f0 : decide ((40 : Int) < (nl : Int)) = true := decide_eq_true (by omega)
    have g0 : decide (40 < nl) = true := decide_eq_true h0
    have HE := Lib.hid (show greatB nl na nb nv = true by simp [greatB, g0])
    clear h0
    go_enter Try.func11, Try.ntmps11
    go_wp2_with fail
    go_ret
    exact ⟨by rw [HE.out]; rfl, HG.out⟩
  · have f0 : decide ((40 : Int) < (nl : Int)) = false := decide_eq_false (by omega)
    have g0 : decide (40 < nl) = false := decide_eq_false h0
    clear h0
    by_cases h1 : 9 < na
    · have f1 : decide ((9 : Int) < (na : Int)) = true := decide_eq_true (by omega)
      have g1 : decide (9 < na) = true := decide_eq_true h1
      have HE := Lib.hid (show greatB nl na nb nv = true by simp [greatB, g0, g1])
      clear h1
      go_enter Try.func11, Try.ntmps11
      go_wp2_with fail
      go_ret
      exact ⟨by rw [HE.out]; rfl, HG.out⟩
    · have f1 : decide ((9 : Int) < (na : Int)) = false := decide_eq_false (by omega)
      have g1 : decide (9 < na) = false := decide_eq_false h1
      clear h1
      by_cases h2 : 9 < nb
      · have f2 : decide ((9 : Int) < (nb : Int)) = true := decide_eq_true (by omega)
        have g2 : decide (9 < nb) = true := decide_eq_true h2
        have HE := Lib.hid (show greatB nl na nb nv = true by simp [greatB, g0, g1, g2])
        clear h2
        go_enter Try.func11, Try.ntmps11
        go_wp2_with fail
        go_ret
        exact ⟨by rw [HE.out]; rfl, HG.out⟩
      · have f2 : decide ((9 : Int) < (nb : Int)) = false := decide_eq_false (by omega)
        have g2 : decide (9 < nb) = false := decide_eq_false h2
        clear h2
        by_cases h3 : 20 < nv
        · have f3 : decide ((20 : Int) < (nv : Int)) = true := decide_eq_true (by omega)
          have g3 : decide (20 < nv) = true := decide_eq_true h3
          have HE := Lib.hid (show greatB nl na nb nv = true by simp [greatB, g0, g1, g2, g3])
          clear h3
          go_enter Try.func11, Try.ntmps11
          go_wp2_with fail
          go_ret
          exact ⟨by rw [HE.out]; rfl, HG.out⟩
        · have f3 : decide ((20 : Int) < (nv : Int)) = false := decide_eq_false (by omega)
          have g3 : decide (20 < nv) = false := decide_eq_false h3
          have HE := Lib.hid (show greatB nl na nb nv = false by simp [greatB, g0, g1, g2, g3])
          clear h3
          go_enter Try.func11, Try.ntmps11
          go_wp2_with fail
          go_ret
          exact ⟨by rw [HE.out]; rfl, HG.out⟩
theorem info33 : True := trivial
theorem resB12 (tmps : Array Value) (w : World) (b : Nat) (a : Option Addr) (n c : Nat) (u v : Value) (ht : tmps.getD 2 undef = .pointer (some ⟨b, 0, none⟩)) (hu : tmps.getD 3 undef = u) (hv : tmps.getD 4 undef = v) (h0 : w.cell? ⟨b, 0, none⟩ = some (.slice a n c)) :
    (results Try.f12 tmps).run Try.prog w = .ok (.tuple #[.agg #[.slice a n c], u, v]) w := by
  have ht' : tmps[2]?.getD undef = .pointer (some ⟨b, 0, none⟩) := by simpa using ht
  have hu' : tmps[3]?.getD undef = u := by simpa using hu
  have hv' : tmps[4]?.getD undef = v := by simpa using hv
  simp [results, ht', hu', hv', go_sem, h0, Result.andThen]
def AnsI (w : World) (g : List Gt) (l m : List Int) (x : Ending) (w' : World) : Prop := ∃ a c b d b2 d2, x = .returned (.tuple #[.agg #[.slice a g.length c], .slice b l.length d, .slice b2 m.length d2]) ∧ GatesW w' a c g ∧ IntsW w' b d l ∧ IntsW w' b2 d2 m ∧ w.grownBy w' none
theorem take_map_snoc {refs : List Int} {A : List Nat} {k z : Nat} (h : A[k]? = some z) : (A.take (k + 1)).map (pickL refs) = (A.take k).map (pickL refs) ++ [pickL refs z] := by rw [List.take_add_one, h, List.map_append]; rfl

set_option maxRecDepth 100000 in
set_option maxHeartbeats 4000000 in
theorem inputs_calls (l : List Stp) (A B : List Nat) (sa : Option Addr) (sc : Nat) (aa : Option Addr) (ac : Nat) (ba : Option Addr) (bc : Nat) (va : Option Addr) (nv vc : Nat) (y : Int) (w : World) (g0 : List Gt) (refs : List Int) (e : buildC l = (g0, refs)) (h : StpsW w sa sc l) (hA : U8sW w aa ac A) (hB : U8sW w ba bc B) (hl : l.length ≤ 40) (hlA : A.length ≤ 9) (hlB : B.length ≤ 9) (hs : ∀ s ∈ l, StpOk s) (hsA : ∀ z ∈ A, z < 256) (hsB : ∀ z ∈ B, z < 256) :
    Calls Try.prog 12 #[.agg #[.slice sa l.length sc, .slice aa A.length ac, .slice ba B.length bc, .slice va nv vc, .int .i8 y]] w fun x w' => AnsI w g0 (A.map (pickL refs)) (B.map (pickL refs)) x w' := by
  obtain ⟨nl, hnl⟩ : ∃ n, l.length = n := ⟨_, rfl⟩
  obtain ⟨na, hna⟩ : ∃ n, A.length = n := ⟨_, rfl⟩
  obtain ⟨nb, hnb⟩ : ∃ n, B.length = n := ⟨_, rfl⟩
  have hbt := built l (by omega)
  rw [e] at hbt
  have HN := Lib.hid (And.intro hnl (And.intro hna hnb))
  have HBT := Lib.hid hbt
  have HRF := Lib.hid (show refs.length ≤ 1000 ∧ ∀ r ∈ refs, r ≤ 9223372036854775807 from ⟨by rw [hbt.refs]; omega, ok_le (by have := hbt.len; simp only at this; show g0.length ≤ 20000; omega) hbt.ok⟩)
  have HBC := Lib.hid (fun (U : World) (hU : StpsW U sa sc l) => rbuild_calls l sa sc U e hU (by omega) hs)
  have HSA := Lib.hid hsA
  have HSB := Lib.hid hsB
  obtain ⟨i0, hi0, hz0, hz1, hz2⟩ := info_parts info3
  rw [hnl] at HBC ⊢
  rw [hna] at hlA ⊢
  rw [hnb] at hlB ⊢
  obtain ⟨W1, hW1⟩ : ∃ z, w.alloc (.cells #[.slice sa nl sc, .slice aa na ac, .slice ba nb bc, .slice va nv vc, .int .i8 y] 27) = z := ⟨_, rfl⟩
  have hg1 := World.grownBy_alloc w (.cells #[.slice sa nl sc, .slice aa na ac, .slice ba nb bc, .slice va nv vc, .int .i8 y] 27) none
  have q := raw_cells w sa nl sc aa na ac ba nb bc va nv vc y
  rw [hW1] at hg1 q
  have HG := Lib.hid hg1
  have HSL := Lib.hid (h.grown hg1)
  have HA1 := Lib.hid (hA.grown hg1)
  have HB1 := Lib.hid (hB.grown hg1)
  have HQ := Lib.hid (And.intro q.2.1 q.2.2.1)
  obtain ⟨q0, q1, q2, q3, q4⟩ := q
  clear hg1
  obtain ⟨bX, hbX⟩ : ∃ z, w.heap.size = z := ⟨_, rfl⟩
  rw [hbX] at q0 q1 q2 q3 q4 HQ
  have hg2 := World.grownBy_alloc W1 (.cells #[.slice none 0 0] 32) none
  have hz := BoxZ.new W1
  obtain ⟨W2, hW2⟩ : ∃ z, W1.alloc (.cells #[.slice none 0 0] 32) = z := ⟨_, rfl⟩
  rw [hW2] at hg2 hz
  obtain ⟨bR, hbR⟩ : ∃ z, W1.heap.size = z := ⟨_, rfl⟩
  rw [hbR] at hz
  have HZ := Lib.hid hz
  have HG2 := Lib.hid hg2
  have HLR := Lib.hid (show w.heap.size ≤ bR from by rw [← hbR]; exact HG.out.size)
  have r0 := hg2.cell q0 (by simp)
  clear h hA hB hl hs hsA hsB hnl hna hnb hbt e q1 q2 q3 q4 hg2 hz
  go_enter Try.func12, Try.ntmps12
  go_wp2_with fail
  clear hW1 hW2
  refine (HBC.out _ (HSL.out.grown HG2.out)).mono ?_
  rintro x V1 ⟨a1, c1, ra, rc, rfl, hr, hri, gv⟩
  have HR1 := Lib.hid (And.intro hr hri)
  have HGV := Lib.hid gv
  clear hr hri gv r0 q0 hbX hbR HBC
  go_upto_region 2 with fail
  have hcb := CB.new HR1.out.1
  have hga := World.grownBy_alloc V1 (.cells #[.slice a1 g0.length c1] 32) none
  obtain ⟨V2, hV2⟩ : ∃ z, V1.alloc (.cells #[.slice a1 g0.length c1] 32) = z := ⟨_, rfl⟩
  rw [hV2] at hcb hga ⊢
  obtain ⟨b5, hb5⟩ : ∃ z, V1.heap.size = z := ⟨_, rfl⟩
  rw [hb5] at hcb ⊢
  have HCB := Lib.hid hcb
  have HGA := Lib.hid hga
  clear hV2 hb5 hcb hga
  go_upto_region 3 with fail
  have hgb := World.grownBy_alloc V2 (.cells #[] 3) none
  have ho1 := World.ownsRow_made (base := V2.heap.size) (e := 3) (size := 1) V2 #[] 0 (Nat.le_refl _) (Nat.zero_le _) rfl
  obtain ⟨V3, hV3⟩ : ∃ z, V2.alloc (.cells #[] 3) = z := ⟨_, rfl⟩
  rw [hV3] at hgb ho1 ⊢
  obtain ⟨BA, hBA⟩ : ∃ z, V2.heap.size = z := ⟨_, rfl⟩
  rw [hBA] at ho1 ⊢
  go_upto_region 4 with fail
  have hgc := World.grownBy_alloc V3 (.cells #[] 3) none
  have ho2 := World.ownsRow_made (base := V3.heap.size) (e := 3) (size := 1) V3 #[] 0 (Nat.le_refl _) (Nat.zero_le _) rfl
  obtain ⟨V4, hV4⟩ : ∃ z, V3.alloc (.cells #[] 3) = z := ⟨_, rfl⟩
  rw [hV4] at hgc ho2 ⊢
  obtain ⟨BB, hBB⟩ : ∃ z, V3.heap.size = z := ⟨_, rfl⟩
  rw [hBB] at ho2 ⊢
  have HLT := Lib.hid (show BA < BB ∧ BB < V4.heap.size ∧ b5 < BA from by
    have h1 := (ho1.lt BA rfl).2
    have h2 := (ho2.lt BB rfl).2
    have h3 : b5 < V2.heap.size := lies_lt HCB.out.1
    omega)
  have HG24 := Lib.hid (World.grownBy.trans hgb hgc)
  have HOA := Lib.hid (own_grown ho1 hgc)
  have HOB := Lib.hid ho2
  have HW4 := Lib.hid (show W1.grownBy V4 none from World.grownBy.trans (World.grownBy.trans (World.grownBy.trans HG2.out HGV.out) HGA.out) HG24.out)
  have HR4 := Lib.hid (show IntsW V4 ra rc refs from (HR1.out.2.grown HGA.out).grown HG24.out)
  have HV2 := Lib.hid (show W1.grownBy V2 none from World.grownBy.trans (World.grownBy.trans HG2.out HGV.out) HGA.out)
  have HRV := Lib.hid (show IntsW V2 ra rc refs from HR1.out.2.grown HGA.out)
  have HBA := Lib.hid hBA
  clear hV3 hV4 hgb hgc ho1 ho2 hBA hBB
  have q1 := HW4.out.cell HQ.out.1 (by simp)
  go_wp2_with fail
  clear q1
  go_loopg [7, 9] na (fun gk s7 s9 wr => ∃ (k : Nat) (xa : Option Addr) (xc : Nat), s7 = .slice xa k xc ∧ s9 = .int .i64 (k : Int) ∧ gk = na - k ∧ k ≤ na ∧ wr.ownsRow BA 3 1 (.slice xa k xc) k (intCells ((A.take k).map (pickL refs))) ∧ V2.grownBy wr none ∧ wr.ownsRow BB 3 1 (.slice (some ⟨BB, 0, none⟩) 0 0) 0 [] ∧ (∀ x, (Value.slice xa k xc).ownBlock = some x → x ≠ BB) ∧ BB < wr.heap.size)
  case atStart => exact ⟨0, _, _, rfl, rfl, rfl, Nat.zero_le _, HOA.out, HG24.out, HOB.out, fun x e => by injection e with e; have h1 := HLT.out; have h2 : BA = x := e; omega, HLT.out.2.1⟩
  case round =>
    obtain ⟨k, xa, xc, rfl, rfl, hgk, hk, hown, hgr, hob, hne, hbb⟩ := hrel
    have HI := Lib.hid hgk; clear hgk
    have HOW := Lib.hid hown; clear hown
    have HGR := Lib.hid hgr; clear hgr
    have HBW := Lib.hid (And.intro hob (And.intro hne hbb)); clear hob hne hbb
    have q1 := (World.grownBy.trans HV2.out HGR.out).cell HQ.out.1 (by simp)
    by_cases hkn : k < na
    · have f1 : decide (k < na) = true := decide_eq_true hkn
      have f2 : decide ((k : Int) < (na : Int)) = true := decide_eq_true (by omega)
      have hk1 : IntKind.i64.wrap ((k : Int) + 1) = ((k + 1 : Nat) : Int) := by rw [IntWalk.i64_in _ (by omega)]; omega
      have hj0 : (0 : Int) ≤ (k : Int) := by omega
      have hj1 : (k : Int) < (na : Int) := by omega
      obtain ⟨z, hz⟩ : ∃ z, A[k]? = some z := ⟨_, List.getElem?_eq_getElem (by rw [HN.out.2.1]; exact hkn)⟩
      obtain ⟨bi, oi, rfl, x0⟩ := (HA1.out.grown (World.grownBy.trans HV2.out HGR.out)).at hz
      have HST := Lib.hid (take_map_snoc (refs := refs) hz)
      have HPC := Lib.hid (pick_calls refs z ra rc wr (HRV.out.grown HGR.out) HRF.out.1 (HSA.out z (List.mem_of_getElem? hz)) HRF.out.2)
      obtain ⟨r, hr⟩ : ∃ r, pickL refs z = r := ⟨_, rfl⟩
      rw [hr] at HPC HST
      obtain ⟨La, hLa⟩ : ∃ L, (A.take k).map (pickL refs) = L := ⟨_, rfl⟩
      rw [hLa] at HST HOW
      clear hLa
      have HSZ := Lib.hid (show BA ≤ wr.heap.size from by have h := HGR.out.size; have := HBA.out; omega)
      clear hz hr
      go_wp2_with fail
      refine HPC.out.mono ?_
      rintro x w9 ⟨rfl, hw9⟩
      rw [hw9]
      clear hw9 w9 HPC
      go_wp2_with (at_builtin; refine wpList_append_own_at _ rfl _ _ 33 rfl BA 3 i0 (.int .i64 0) 1 8 Try.underlying33 hi0 hz0 hz1 hz2 rfl (by decide) _ k (intCells La) rfl (HOW.out.alloc _) ⟨wr.heap.size, 0, none⟩ 1 1 [.int .i64 r] rfl rfl (cell_one_new _ _ _) (fun u hu => by simp at hu; subst hu; rfl) (by unfold maxLen; omega) (by omega) (by have := HSZ.out; simp; omega) ?_)
      intro v' w6 hown' hgrow6 _ hat6
      obtain ⟨rgA, rcA, rfl⟩ := own_shape hown'
      have haA := World.grownBy_alloc wr (.cells #[.int .i64 r] 3) none
      have HG6 := Lib.hid (show V2.grownBy w6 none from grown_own (World.grownBy.trans HGR.out haA) hgrow6 (fun x e => by have h1 := (HOW.out.lt x e).1; have h2 := HBA.out; omega))
      have HO6 := Lib.hid (show w6.ownsRow BA 3 1 (.slice rgA (k + 1) rcA) (k + 1) (intCells ((A.take (k + 1)).map (pickL refs))) from by rw [HST.out, intCells, List.map_append]; exact hown')
      have HB6 := Lib.hid (show w6.ownsRow BB 3 1 (.slice (some ⟨BB, 0, none⟩) 0 0) 0 [] ∧ (∀ x, (Value.slice rgA (k + 1) rcA).ownBlock = some x → x ≠ BB) ∧ BB < w6.heap.size from by
        have h1 := own_grown HBW.out.1 haA
        refine ⟨h1.kept hgrow6 (.inr (fun e => HBW.out.2.1 BB e.symm rfl)), fun x e => ?_, Nat.lt_of_lt_of_le HBW.out.2.2 (Nat.le_trans haA.size hgrow6.size)⟩
        rcases hat6 with h2 | h2
        · exact HBW.out.2.1 x (by rw [← h2]; exact e)
        · rw [h2] at e
          injection e with e
          have h3 : wr.heap.size + 1 = x := e
          have h4 := haA.size
          have h5 := HBW.out.2.2
          omega)
      clear hown' hgrow6 haA hat6 q1
      go_wp2_with fail
      go_roundg (na - (k + 1))
      case measure => rw [HI.out]; omega
      case rel => exact ⟨k + 1, rgA, rcA, rfl, rfl, rfl, by omega, HO6.out, HG6.out, HB6.out.1, HB6.out.2.1, HB6.out.2.2⟩
    · have f1 : decide (k < na) = false := decide_eq_false hkn
      have f2 : decide ((k : Int) < (na : Int)) = false := decide_eq_false (by omega)
      have hkna : k = na := by omega
      subst hkna
      have HOE := Lib.hid (show wr.ownsRow BA 3 1 (.slice xa k xc) k (intCells (A.map (pickL refs))) from by have h := HOW.out; rw [List.take_of_length_le (by rw [HN.out.2.1]; omega)] at h; exact h)
      clear hkn HOW
      obtain ⟨wo, hwo⟩ : ∃ z, z = wr := ⟨_, rfl⟩
      rw [← hwo] at HGR HBW HOE q1 ⊢
      clear hwo
      go_wp2_with fail
      clear q1 f1 f2
      go_loopg [8, 10] nb (fun gk s7 s9 wr => ∃ (j : Nat) (ya : Option Addr) (yc : Nat), s7 = .slice ya j yc ∧ s9 = .int .i64 (j : Int) ∧ gk = nb - j ∧ j ≤ nb ∧ wr.ownsRow BB 3 1 (.slice ya j yc) j (intCells ((B.take j).map (pickL refs))) ∧ V2.grownBy wr none ∧ wr.ownsRow BA 3 1 (.slice xa k xc) k (intCells (A.map (pickL refs))) ∧ (∀ x, (Value.slice ya j yc).ownBlock = some x → (Value.slice xa k xc).ownBlock ≠ some x) ∧ BB ≤ wr.heap.size)
      case atStart => exact ⟨0, _, _, rfl, rfl, rfl, Nat.zero_le _, HBW.out.1, HGR.out, HOE.out, fun x e e2 => by injection e with e; have h1 : BB = x := e; exact HBW.out.2.1 x e2 h1.symm, Nat.le_of_lt HBW.out.2.2⟩
      case round =>
        obtain ⟨j, ya, yc, rfl, rfl, hgk, hj, hown, hgr, hob, hne, hbb⟩ := hrel
        have HI2 := Lib.hid hgk; clear hgk
        have HOW2 := Lib.hid hown; clear hown
        have HGR2 := Lib.hid hgr; clear hgr
        have HBW2 := Lib.hid (And.intro hob (And.intro hne hbb)); clear hob hne hbb
        have q1 := (World.grownBy.trans HV2.out HGR2.out).cell HQ.out.2 (by simp)
        by_cases hjn : j < nb
        · have f1 : decide (j < nb) = true := decide_eq_true hjn
          have f2 : decide ((j : Int) < (nb : Int)) = true := decide_eq_true (by omega)
          have hk1 : IntKind.i64.wrap ((j : Int) + 1) = ((j + 1 : Nat) : Int) := by rw [IntWalk.i64_in _ (by omega)]; omega
          have hj0 : (0 : Int) ≤ (j : Int) := by omega
          have hj1 : (j : Int) < (nb : Int) := by omega
          obtain ⟨z, hz⟩ : ∃ z, B[j]? = some z := ⟨_, List.getElem?_eq_getElem (by rw [HN.out.2.2]; exact hjn)⟩
          obtain ⟨bi, oi, rfl, x0⟩ := (HB1.out.grown (World.grownBy.trans HV2.out HGR2.out)).at hz
          have HST := Lib.hid (take_map_snoc (refs := refs) hz)
          have HPC := Lib.hid (pick_calls refs z ra rc wr (HRV.out.grown HGR2.out) HRF.out.1 (HSB.out z (List.mem_of_getElem? hz)) HRF.out.2)
          obtain ⟨r, hr⟩ : ∃ r, pickL refs z = r := ⟨_, rfl⟩
          rw [hr] at HPC HST
          obtain ⟨La, hLa⟩ : ∃ L, (B.take j).map (pickL refs) = L := ⟨_, rfl⟩
          rw [hLa] at HST HOW2
          clear hLa
          clear hz hr
          go_wp2_with fail
          refine HPC.out.mono ?_
          rintro x w9 ⟨rfl, hw9⟩
          rw [hw9]
          clear hw9 w9 HPC
          go_wp2_with (at_builtin; refine wpList_append_own_at _ rfl _ _ 33 rfl BB 3 i0 (.int .i64 0) 1 8 Try.underlying33 hi0 hz0 hz1 hz2 rfl (by decide) _ j (intCells La) rfl (HOW2.out.alloc _) ⟨wr.heap.size, 0, none⟩ 1 1 [.int .i64 r] rfl rfl (cell_one_new _ _ _) (fun u hu => by simp at hu; subst hu; rfl) (by unfold maxLen; omega) (by omega) (by have := HBW2.out.2.2; simp; omega) ?_)
          intro v' w6 hown' hgrow6 _ hat6
          obtain ⟨rgA, rcA, rfl⟩ := own_shape hown'
          have haA := World.grownBy_alloc wr (.cells #[.int .i64 r] 3) none
          have HG6 := Lib.hid (show V2.grownBy w6 none from grown_own (World.grownBy.trans HGR2.out haA) hgrow6 (fun x e => by have h1 := (HOW2.out.lt x e).1; have h2 := HBA.out; have h3 := HLT.out; omega))
          have HO6 := Lib.hid (show w6.ownsRow BB 3 1 (.slice rgA (j + 1) rcA) (j + 1) (intCells ((B.take (j + 1)).map (pickL refs))) from by rw [HST.out, intCells, List.map_append]; exact hown')
          have HB6 := Lib.hid (show w6.ownsRow BA 3 1 (.slice xa k xc) k (intCells (A.map (pickL refs))) ∧ (∀ x, (Value.slice rgA (j + 1) rcA).ownBlock = some x → (Value.slice xa k xc).ownBlock ≠ some x) ∧ BB ≤ w6.heap.size from by
            have h1 := own_grown HBW2.out.1 haA
            have hkk : (Value.slice xa k xc).ownBlock = none ∨ (Value.slice xa k xc).ownBlock ≠ (Value.slice ya j yc).ownBlock := by
              cases hv : (Value.slice xa k xc).ownBlock with
              | none => exact .inl rfl
              | some x => exact .inr (fun e => HBW2.out.2.1 x e.symm hv)
            refine ⟨h1.kept hgrow6 hkk, fun x e e2 => ?_, Nat.le_trans HBW2.out.2.2 (Nat.le_trans haA.size hgrow6.size)⟩
            rcases hat6 with h2 | h2
            · exact HBW2.out.2.1 x (by rw [← h2]; exact e) e2
            · rw [h2] at e
              injection e with e
              have h3 : wr.heap.size + 1 = x := e
              have h4 := (HBW2.out.1.lt x e2).2
              omega)
          clear hown' hgrow6 haA hat6 q1
          go_wp2_with fail
          go_roundg (nb - (j + 1))
          case measure => rw [HI2.out]; omega
          case rel => exact ⟨j + 1, rgA, rcA, rfl, rfl, rfl, by omega, HO6.out, HG6.out, HB6.out.1, HB6.out.2.1, HB6.out.2.2⟩
        · have f1 : decide (j < nb) = false := decide_eq_false hjn
          have f2 : decide ((j : Int) < (nb : Int)) = false := decide_eq_false (by omega)
          have hjnb : j = nb := by omega
          subst hjnb
          have HOF := Lib.hid (show wr.ownsRow BB 3 1 (.slice ya j yc) j (intCells (B.map (pickL refs))) from by have h := HOW2.out; rw [List.take_of_length_le (by rw [HN.out.2.2]; omega)] at h; exact h)
          clear hjn HOW2
          have HCF := Lib.hid (HCB.out.grown HGR2.out)
          have HZF := Lib.hid (HZ.out.grown (World.grownBy.trans (World.grownBy.trans HGV.out HGA.out) HGR2.out))
          have q5 := HCF.out.1
          have z0 := HZF.out.1
          have zf := HZF.out.2
          have HFW := Lib.hid (HCF.out.2.2.set HZF.out.1 (.slice a1 g0.length c1))
          have HFC := Lib.hid (World.cell?_setCell_same wr ⟨bR, 0, none⟩ (.slice a1 g0.length c1) HZF.out.1)
          have HFG := Lib.hid (grown_own (World.grownBy.trans HG.out (World.grownBy.trans HV2.out HGR2.out)) (grown_set wr bR 0 (.slice a1 g0.length c1)) (fun x e => by cases e; exact HLR.out))
          have HFA := Lib.hid (IntsW.set (IntsN.weak (IntsN.own (N := fun _ => False) (by rw [List.length_map, HN.out.2.1]) HBW2.out.1 (fun k _ h => h))) HZF.out.1 (.slice a1 g0.length c1))
          have HFB := Lib.hid (IntsW.set (IntsN.weak (IntsN.own (N := fun _ => False) (by rw [List.length_map, HN.out.2.2]) HOF.out (fun k _ h => h))) HZF.out.1 (.slice a1 g0.length c1))
          go_wp2_with fail
          clear q5 z0 zf
          refine bodyPost_ret (resB12 _ _ bR a1 g0.length c1 _ _ rfl rfl rfl HFC.out) rfl ?_
          exact ⟨a1, c1, xa, xc, ya, yc, by rw [List.length_map, List.length_map, HN.out.2.1, HN.out.2.2]; rfl, HFW.out, HFA.out, HFB.out, HFG.out⟩
end Go.Proofs.Ythagoihpppppkaa

/- Texts of the proof: X5 IM EF PD. -/
import Derived.Test.YtihaheinkpmnnaaGreatCA14
import Derived.Recover
import Derived.Defers
import Derived.Test.YtihaheinkpmnnaaGreatCA01
import Derived.Test.YtihaheinkpmnnaaGreatCA13
namespace Go.Proofs.YtihaheinkpmnnaaGreat
set_option maxRecDepth 200000
open Go.RowKit
theorem idle39 (x : Value) (w : World) :
    CallsD Tryz.prog 88 #[x] .returning w fun e u' w' => e = .returned (.tuple #[]) ∧ u' = .returning ∧ w' = w := by
  refine callsD_of_wpS Tryz.func88 rfl fun c₀ cs hu => ?_
  apply wpS_seq
  apply wpS_region
  simp [wpOpsS, go_sem, recoverD, hu, Tryz.ntmps88, Exit.thenS]
  refine wpS_cond (t := false) (by simp [Act.eval, Array.replicate]) ?_
  simp only [Bool.false_eq_true, if_false]
  refine wpS_of_wp (wp_skip ?_)
  cases c₀
  simp_all [bodyPostS, results]
theorem res20 (tmps : Array Value) (w : World) (b : Nat) (v : Value) (ht : tmps.getD 4 undef = .pointer (some ⟨b, 0, none⟩)) (h0 : w.cell? ⟨b, 0, none⟩ = some v) :
    (results Tryz.f62 tmps).run Tryz.prog w = .ok v w := by
  have ht' : tmps[4]?.getD undef = .pointer (some ⟨b, 0, none⟩) := by simpa using ht
  simp [results, ht', go_sem, h0]
theorem boxes20 (w : World) (u0 u1 : Value) {W : World} (hW : (w.alloc (.cells #[u0, u1] 24)).alloc (.cells #[.bool false] 4) = W) :
    W.heap.size = w.heap.size + 2 ∧ W.cell? ⟨w.heap.size, 0, none⟩ = some u0 ∧ W.cell? ⟨w.heap.size, 1, none⟩ = some u1 ∧ W.cell? ⟨w.heap.size + 1, 0, none⟩ = some (.bool false) ∧ W.frozen? ⟨w.heap.size + 1, 0, none⟩ = false ∧ w.grownBy W none := by
  subst hW
  exact ⟨by simp, by go_simp, by go_simp, by go_simp, by go_simp, World.grownBy.trans (World.grownBy_alloc w _ none) (World.grownBy_alloc _ _ none)⟩
theorem leave20 {Q : Ending → World → Prop} {tmps : Array Value} {b : Nat} {v : Value} {W : World} (ht : tmps.getD 4 undef = .pointer (some ⟨b, 0, none⟩)) (hc : W.cell? ⟨b, 0, none⟩ = some v) (h : Q (.returned v) W) :
    Leaves Tryz.prog Tryz.f62 tmps Q [{ target := .fn (.func 88) #[.pointer (some ⟨b, 0, none⟩)], args := #[] }] .returning W := by
  refine leaves_cons (f := 88) (args := #[.pointer (some ⟨b, 0, none⟩)]) (by simp) (by simp [go_sem]) ?_
  refine (idle39 _ _).mono ?_
  rintro e u' w'' ⟨rfl, rfl, rfl⟩
  exact ⟨_, res20 _ _ b v ht hc, h⟩
theorem own_low {w : World} {B n size : Nat} {e : TypeId} {v : Value} {xs : List Value} (h : w.ownsRow B e size v n xs) : ∀ r, v.ownBlock = some r → B ≤ r := by
  intro r hr
  rcases h.2 with ⟨rfl, _⟩ | ⟨g, cap, cur, rfl, hb, _⟩
  · cases hr
  · cases hr; exact hb
theorem irow_ints {B : Nat} {w : World} {a : Option Addr} {c : Nat} {l : List Int} (h : IRow B w a c l) : IntsW w a c l := by
  refine ⟨irow_le h, ?_⟩
  by_cases hl : l.length = 0
  · exact .inl (List.eq_nil_of_length_eq_zero hl)
  · right
    obtain ⟨g, ha, _, _, _⟩ := irow_head h (by omega)
    subst ha
    refine ⟨g, 0, rfl, fun j z hj => ?_⟩
    have hjl := (List.getElem?_eq_some_iff.1 hj).1
    rw [Nat.zero_add, irow_cell h hjl]
    rw [at_some hjl] at hj
    injection hj with hj
    rw [hj]
def negL (A : List Int) : List Int := A.map fun x => -x
theorem conf_prop {V : Nat} {C : List (List Int)} {N : List Int} (hR : Ran V C) (h : contraP N = false) : (propP V C N).2.2.2 ≠ -1 ↔ Conf C N := by
  obtain ⟨l, qs, k, e, _, hc, hd, _, hk⟩ := propP_spec hR h
  rw [e]
  simp only
  rcases hk with ⟨rfl, hs⟩ | ⟨i, rfl, hi, _, hall⟩
  · exact ⟨fun hh => absurd rfl hh, fun hh => absurd hh (shut_conf hs hc (fun x hx => List.mem_append_left _ ((mem_uq N x).2 hx)))⟩
  · refine ⟨fun _ => ⟨C.getD i [], ?_, fun y hy => hd _ (hall y hy)⟩, fun _ => by omega⟩
    rw [List.getD_eq_getElem?_getD, List.getElem?_eq_getElem hi]
    exact List.getElem_mem hi
set_option maxHeartbeats 16000000 in
set_option maxRecDepth 100000 in
theorem implies_calls (V : Nat) (C : List (List Int)) (ca : Option Addr) (cc : Nat) (A : List Int) (aa : Option Addr) (ac : Nat) (w : World) (h : ClsW w ca cc C) (hV : V ≤ 400) (hC : C.length ≤ 1000) (hL : ∀ c ∈ C, c.length ≤ 100) (hR : Ran V C)
    (hA : IntsW w aa ac A) (hAl : A.length ≤ 10000) (hAr : ∀ x ∈ A, InR V x) :
    Calls Tryz.prog 62 #[.agg #[.int .i64 (V : Int), .slice ca C.length cc], .slice aa A.length ac] w fun e w' => (∃ b : Bool, e = .returned (.bool b) ∧ (b = true ↔ (contraP (negL A) = true ∨ Conf C (negL A)))) ∧ w.grownBy w' none := by
  obtain ⟨cn, hcn⟩ : ∃ n, C.length = n := ⟨_, rfl⟩
  obtain ⟨an, han⟩ : ∃ n, A.length = n := ⟨_, rfl⟩
  obtain ⟨bf, hbf⟩ : ∃ z, w.heap.size = z := ⟨_, rfl⟩
  have hNl : (negL A).length = an := by unfold negL; rw [List.length_map, han]
  have hNr : ∀ x ∈ negL A, InR V x := fun x hx => by
    unfold negL at hx
    obtain ⟨y, hy, e⟩ := List.mem_map.1 hx
    obtain ⟨h0, h1, h2⟩ := hAr y hy
    exact ⟨by omega, by omega, by omega⟩
  have HH := Lib.hid (And.intro h (And.intro hC (And.intro hL (And.intro hR hcn))))
  have HA := Lib.hid (And.intro hA (And.intro hAl (And.intro hAr (And.intro han (And.intro hNl hNr)))))
  obtain ⟨W1, hW1⟩ : ∃ z, w.alloc (.cells #[.int .i64 (V : Int), .slice ca cn cc] 24) = z := ⟨_, rfl⟩
  obtain ⟨W2, hW2⟩ : ∃ z, W1.alloc (.cells #[.bool false] 4) = z := ⟨_, rfl⟩
  obtain ⟨s2, q0, q1, q2, q3, hg2⟩ := boxes20 w (.int .i64 (V : Int)) (.slice ca cn cc) (W := W2) (by rw [hW1, hW2])
  have s1 : W1.heap.size = bf + 1 := by rw [← hW1, ← hbf]; simp
  have HG2 := Lib.hid hg2
  rw [hcn, han]
  rw [hbf] at q0 q1 q2 q3 s2
  have HB := Lib.hid (And.intro s2 hbf)
  have HQ := Lib.hid (And.intro q0 (And.intro q1 (And.intro q2 q3)))
  obtain ⟨T, hT⟩ : ∃ T : Prop, (contraP (negL A) = true ∨ Conf C (negL A)) = T := ⟨_, rfl⟩
  rw [hT]
  have HT := Lib.hid hT
  obtain ⟨i0, hi0, hz0, hz1, hz2⟩ := info_parts info3
  clear h hC hL hR hA hAl hAr hg2 hcn han s2 hNl hNr hT q0 q1 q2 q3
  have hmf : ∀ (fn : Fn) (first cap : Array Value) (w : World), (Instr.makeFunc fn first cap).run Tryz.prog w = .ok (.func fn first cap) w := fun _ _ _ _ => rfl
  go_enter_defers Tryz.func62, Tryz.ntmps62
  go_wp2_with fail
  clear hmf hW1 hW2 s1
  go_loopg [5, 7, 13] an (fun gk s5 _s7 s13 wr => ∃ (k : Nat) (a : Option Addr) (c : Nat), s5 = .slice a k c ∧ s13 = .int .i64 (k : Int) ∧ gk = an - k ∧ k ≤ an ∧ W2.grownBy wr none ∧ wr.ownsRow W2.heap.size 3 1 (.slice a k c) k (intCells (negL (A.take k))))
  case atStart => exact ⟨0, none, 0, rfl, rfl, rfl, by omega, grown_refl _ _, by simp [negL], .inl ⟨rfl, rfl⟩⟩
  case round =>
    obtain ⟨k, a, c, rfl, rfl, hgk, hk, hg, hown⟩ := hrel
    have HI := Lib.hid (And.intro hgk (And.intro hg hown))
    clear hgk hg hown
    have hal : an ≤ 10000 := by have := HA.out.2.1; rw [HA.out.2.2.2.1] at this; exact this
    by_cases hkn : k < an
    · have f1 : decide ((k : Int) < (an : Int)) = true := decide_eq_true (by omega)
      have f1' : decide (k < an) = true := decide_eq_true hkn
      have j0 : (0 : Int) ≤ (k : Int) := by omega
      have j1 : (k : Int) < (an : Int) := by omega
      have k1 : IntKind.i64.wrap ((k : Int) + 1) = (k : Int) + 1 := IntWalk.i64_in _ (by omega)
      obtain ⟨x, hx⟩ : ∃ x, A[k]? = some x := ⟨_, List.getElem?_eq_getElem (by rw [HA.out.2.2.2.1]; exact hkn)⟩
      obtain ⟨b, o, hb0, hcell⟩ := (HA.out.1.grown (World.grownBy.trans HG2.out HI.out.2.1)).at hx
      subst hb0
      obtain ⟨hx0, hx1, hx2⟩ := HA.out.2.2.1 x (List.mem_of_getElem? hx)
      have kx : IntKind.i64.wrap (-x) = -x := IntWalk.i64_in _ (by omega)
      have HX : Hid (negL (A.take (k + 1)) = negL (A.take k) ++ [-x]) := Lib.hid (by unfold negL; rw [take_snoc hx, List.map_append]; rfl)
      have hsz : W2.heap.size ≤ wr.heap.size := HI.out.2.1.size
      clear hx hx0 hx1 hx2
      go_wp2_with (at_builtin; refine wpList_append_own_at _ rfl _ _ 34 rfl W2.heap.size 3 i0 (.int .i64 0) 1 8 Tryz.underlying34 hi0 hz0 hz1 hz2 rfl (by decide) _ k (intCells (negL (A.take k))) rfl (HI.out.2.2.alloc _) ⟨wr.heap.size, 0, none⟩ 1 1 [.int .i64 (-x)] rfl rfl (cell_one_new _ _ _) (fun u hu => by simp at hu; subst hu; rfl) (by unfold maxLen; omega) (by omega) (by simp; omega) ?_)
      intro v' w7 hown' hgrow7 _ hat7
      obtain ⟨a', c', rfl⟩ := own_shape hown'
      have hg8 : wr.grownBy w7 (Value.slice a k c).ownBlock := (World.grownBy_alloc wr _ _).trans hgrow7
      have HN := Lib.hid (And.intro (grown_own HI.out.2.1 hg8 (own_low HI.out.2.2)) hown')
      clear hown' hgrow7 hat7 hg8 hcell
      go_wp2_with fail
      go_roundg (an - (k + 1))
      case measure => rw [HI.out.1]; omega
      case rel => exact ⟨k + 1, a', c', rfl, rfl, rfl, by omega, HN.out.1, by rw [HX.out, intCells, List.map_append]; exact HN.out.2⟩
    · have hke : k = an := by omega
      subst hke
      have f1 : decide (k < k) = false := by simp
      obtain ⟨N, hN⟩ : ∃ N, negL A = N := ⟨_, rfl⟩
      have HNN : Hid (IntsW wr a c N ∧ N.length = k ∧ (∀ x ∈ N, InR V x) ∧ ((contraP N = true ∨ Conf C N) = T)) := Lib.hid (by
        have h1 := HI.out.2.2
        rw [← HA.out.2.2.2.1, List.take_length, hN, HA.out.2.2.2.1] at h1
        have h2 := HA.out.2.2.2.2.1
        rw [hN] at h2
        refine ⟨irow_ints (B := W2.heap.size) (show IRow W2.heap.size wr a c N from by unfold IRow; rw [h2]; exact h1), h2, by rw [← hN]; exact HA.out.2.2.2.2.2, by rw [← hN]; exact HT.out⟩)
      have HW : Hid (W2.grownBy wr none) := Lib.hid HI.out.2.1
      have HCO : Hid (Calls Tryz.prog 89 #[.slice a k c] wr fun e w' => e = .returned (.bool (contraP N)) ∧ wr.grownBy w' none) := Lib.hid (by
        have := contradict_calls N a c wr HNN.out.1 (by rw [HNN.out.2.1]; omega) (fun x hx => by obtain ⟨a1, a2, a3⟩ := HNN.out.2.2.1 x hx; exact ⟨a1, by omega, by omega⟩)
        rwa [HNN.out.2.1] at this)
      clear HI hN hk hkn
      go_wp2_with fail
      refine HCO.out.mono ?_
      rintro e w3 ⟨rfl, hg3⟩
      have hg23 := World.grownBy.trans HW.out hg3
      have HG3 := Lib.hid hg23
      have c0 := hg23.cell HQ.out.1 (by simp)
      have c1 := hg23.cell HQ.out.2.1 (by simp)
      have c2 := hg23.cell HQ.out.2.2.1 (by simp)
      have c3 : w3.frozen? ⟨bf + 1, 0, none⟩ = false := (grown_frozen hg23 (lies_lt HQ.out.2.2.1) 0).trans HQ.out.2.2.2
      have HGS : Hid (∀ (W : World) (v : Value), w3.grownBy W none → w.grownBy (W.setCell ⟨bf + 1, 0, none⟩ v) none) := Lib.hid (fun W v hW => grown_own (World.grownBy.trans HG2.out (World.grownBy.trans HG3.out hW)) (grown_set _ _ _ _) (fun k e => by have := Option.some.inj e; have := HB.out.2; omega))
      have HNW : Hid (IntsW w3 a c N) := Lib.hid (HNN.out.1.grown hg3)
      clear hg3 hg23 HCO f1
      obtain ⟨cb, hcb⟩ : ∃ z, contraP N = z := ⟨_, rfl⟩
      rw [hcb]
      have HCB := Lib.hid hcb
      clear hcb
      cases cb with
      | true =>
        go_wp2_with fail
        exact leave20 rfl (World.cell?_setCell_same _ _ _ c2) ⟨⟨true, rfl, fun _ => by rw [← HNN.out.2.2.2]; exact .inl HCB.out, fun _ => rfl⟩, HGS.out _ _ (grown_refl _ _)⟩
      | false =>
        have HSC := Lib.hid (sweep_calls V C ca cc N a c w3 (HH.out.1.grown (World.grownBy.trans HG2.out HG3.out)) hV (by have := HH.out.2.1; omega) (fun c hc => by have := HH.out.2.2.1 c hc; omega) HH.out.2.2.2.1 HNW.out (by rw [HNN.out.2.1]; omega) HNN.out.2.2.1 HCB.out)
        rw [HH.out.2.2.2.2, HNN.out.2.1] at HSC
        go_wp2_with fail
        refine HSC.out.mono ?_
        rintro e w4 ⟨⟨b1, b2, rfl, hb⟩, hg4⟩
        have HG4 := Lib.hid hg4
        have HBB := Lib.hid hb
        replace c0 := hg4.cell c0 (by simp)
        replace c1 := hg4.cell c1 (by simp)
        replace c3 : w4.frozen? ⟨bf + 1, 0, none⟩ = false := (grown_frozen hg4 (lies_lt c2) 0).trans c3
        replace c2 := hg4.cell c2 (by simp)
        clear hg4 hb HSC
        cases b2 with
        | true =>
          go_wp2_with fail
          exact leave20 rfl (World.cell?_setCell_same _ _ _ c2) ⟨⟨b1, rfl, by rw [HBB.out (by first | trivial | rfl), ← HNN.out.2.2.2]; exact ⟨fun h => .inr h, fun h => h.resolve_left (by rw [HCB.out]; decide)⟩⟩, HGS.out _ _ HG4.out⟩
        | false =>
          have HPC := Lib.hid (propagated_calls V C ca cc N a c w4 (HH.out.1.grown (World.grownBy.trans HG2.out (World.grownBy.trans HG3.out HG4.out))) hV HH.out.2.1 HH.out.2.2.1 HH.out.2.2.2.1 (HNW.out.grown HG4.out) (by rw [HNN.out.2.1]; omega) HNN.out.2.2.1)
          rw [HH.out.2.2.2.2, HNN.out.2.1] at HPC
          go_wp2_with fail
          refine HPC.out.mono ?_
          rintro e w5 ⟨p, rfl, hpr, hg5⟩
          have HG5 := Lib.hid hg5
          have f5 := hpr.f5
          obtain ⟨kf, hkf⟩ : ∃ z, (propP V C N).2.2.2 = z := ⟨_, rfl⟩
          rw [hkf] at f5
          have HKF : Hid (kf ≠ -1 ↔ Conf C N) := Lib.hid (by rw [← hkf]; exact conf_prop HH.out.2.2.2.1 HCB.out)
          replace c3 : w5.frozen? ⟨bf + 1, 0, none⟩ = false := (grown_frozen hg5 (lies_lt c2) 0).trans c3
          replace c2 := hg5.cell c2 (by simp)
          clear hg5 hpr hkf HPC c0 c1
          obtain ⟨d, hd⟩ : ∃ d, (kf != -1) = d := ⟨_, rfl⟩
          have HD : Hid (d = true ↔ T) := Lib.hid (by
            rw [← hd, ← HNN.out.2.2.2, bne_iff_ne, HKF.out]
            exact ⟨fun h => .inr h, fun h => h.resolve_left (by rw [HCB.out]; decide)⟩)
          go_wp2_with fail
          exact leave20 rfl (World.cell?_setCell_same _ _ _ c2) ⟨⟨d, rfl, HD.out⟩, HGS.out _ _ (World.grownBy.trans HG4.out HG5.out)⟩
end Go.Proofs.YtihaheinkpmnnaaGreat

namespace Go.Proofs.YtihaheinkpmnnaaGreat
set_option maxRecDepth 200000
open Go.RowKit
theorem own_ints {w : World} {B : Nat} {a : Option Addr} {c n : Nat} {l : List Int} (h : w.ownsRow B 3 1 (.slice a n c) n (intCells l)) : l.length = n ∧ IntsW w a c l := by
  have hl : l.length = n := by have := h.1; simpa [intCells] using this
  refine ⟨hl, irow_ints (B := B) ?_⟩
  unfold IRow
  rw [hl]
  exact h
/-- The image of a literal. -/
def imgX (S : List Int) (x : Int) : Int := if x < 0 then -(S.getD (-x - 1).toNat 0) else S.getD (x - 1).toNat 0
/-- The image of a clause. -/
def imgL (S L : List Int) : List Int := L.map (imgX S)
theorem getD_some {S : List Int} {i : Nat} {y : Int} (h : S[i]? = some y) : S.getD i 0 = y := by rw [List.getD_eq_getElem?_getD, h]; rfl
theorem imgX_neg {S : List Int} {x y : Int} {i : Nat} (hx : x < 0) (hi : -x - 1 = (i : Int)) (h : S[i]? = some y) : imgX S x = -y := by
  unfold imgX; rw [if_pos hx, hi, Int.toNat_natCast, getD_some h]
theorem imgX_pos {S : List Int} {x y : Int} {i : Nat} (hx : ¬ x < 0) (hi : x - 1 = (i : Int)) (h : S[i]? = some y) : imgX S x = y := by
  unfold imgX; rw [if_neg hx, hi, Int.toNat_natCast, getD_some h]
set_option maxHeartbeats 8000000 in
theorem image_calls (S : List Int) (sa : Option Addr) (sc : Nat) (A : List Int) (aa : Option Addr) (ac : Nat) (w : World) (hS : IntsW w sa sc S) (hA : IntsW w aa ac A) (hl : A.length ≤ 10000) (hsl : S.length ≤ 10000) (hb : ∀ y ∈ S, -1000000 ≤ y ∧ y ≤ 1000000) (hr : ∀ x ∈ A, InR S.length x) :
    Calls Tryz.prog 41 #[.slice sa S.length sc, .slice aa A.length ac] w fun e w' => ∃ a c, e = .returned (.slice a A.length c) ∧ IntsW w' a c (imgL S A) ∧ w.grownBy w' none := by
  obtain ⟨an, han⟩ : ∃ n, A.length = n := ⟨_, rfl⟩
  obtain ⟨sn, hsn⟩ : ∃ n, S.length = n := ⟨_, rfl⟩
  rw [hsn] at hsl hr
  have HA := Lib.hid (And.intro hA (And.intro hr han))
  have HS := Lib.hid (And.intro hS (And.intro hb hsn))
  rw [han] at hl ⊢
  rw [hsn]
  obtain ⟨i0, hi0, hz0, hz1, hz2⟩ := info_parts info3
  clear hA hb han hS hr hsn
  go_enter Tryz.func41, Tryz.ntmps41
  go_wp2_with fail
  go_loopg [5, 10] an (fun gk s3 s4 wr => ∃ (k : Nat) (a : Option Addr) (c : Nat), s3 = .slice a k c ∧ s4 = .int .i64 (k : Int) ∧ gk = an - k ∧ k ≤ an ∧ w.grownBy wr none ∧ wr.ownsRow w.heap.size 3 1 (.slice a k c) k (intCells (imgL S (A.take k))))
  case atStart => exact ⟨0, none, 0, rfl, rfl, rfl, by omega, grown_refl _ _, by simp [imgL], .inl ⟨rfl, rfl⟩⟩
  case round =>
    obtain ⟨k, a, c, rfl, rfl, hgk, hk, hg, hown⟩ := hrel
    have HI := Lib.hid (And.intro hgk (And.intro hg hown))
    clear hgk hg hown
    by_cases hkn : k < an
    · have f1 : decide ((k : Int) < (an : Int)) = true := decide_eq_true (by omega)
      have f1' : decide (k < an) = true := decide_eq_true hkn
      have j0 : (0 : Int) ≤ (k : Int) := by omega
      have j1 : (k : Int) < (an : Int) := by omega
      have k1 : IntKind.i64.wrap ((k : Int) + 1) = (k : Int) + 1 := IntWalk.i64_in _ (by omega)
      obtain ⟨x, hx⟩ : ∃ x, A[k]? = some x := ⟨_, List.getElem?_eq_getElem (by rw [HA.out.2.2]; exact hkn)⟩
      obtain ⟨b, o, hb0, hcell⟩ := (HA.out.1.grown HI.out.2.1).at hx
      subst hb0
      obtain ⟨hx0, hx1, hx2⟩ := HA.out.2.1 x (List.mem_of_getElem? hx)
      obtain ⟨L, hL⟩ : ∃ L, imgL S (A.take k) = L := ⟨_, rfl⟩
      have HX : Hid (imgL S (A.take (k + 1)) = L ++ [imgX S x]) := Lib.hid (by rw [← hL]; unfold imgL; rw [take_snoc hx, List.map_append]; rfl)
      rw [hL] at HI
      have hsz : w.heap.size ≤ wr.heap.size := HI.out.2.1.size
      by_cases hneg : x < 0
      · obtain ⟨i, hi⟩ : ∃ i : Nat, -x - 1 = (i : Int) := ⟨(-x - 1).toNat, by omega⟩
        have hin : i < sn := by omega
        obtain ⟨y, hy⟩ : ∃ y, S[i]? = some y := ⟨_, List.getElem?_eq_getElem (by rw [HS.out.2.2]; exact hin)⟩
        obtain ⟨sb, so, hsb, hcs⟩ := (HS.out.1.grown HI.out.2.1).at hy
        subst hsb
        obtain ⟨hy1, hy2⟩ := HS.out.2.1 y (List.mem_of_getElem? hy)
        have hxe : x = -(i : Int) - 1 := by omega
        have HXY : Hid (imgX S x = -y) := Lib.hid (imgX_neg hneg hi hy)
        have f2 : decide (x < 0) = true := decide_eq_true hneg
        have kx : IntKind.i64.wrap (-x) = -x := IntWalk.i64_in _ (by omega)
        have kx1 : IntKind.i64.wrap (-x - 1) = (i : Int) := by rw [hi]; exact IntWalk.i64_in _ (by omega)
        have ky : IntKind.i64.wrap (-y) = -y := IntWalk.i64_in _ (by omega)
        have j2 : (0 : Int) ≤ (i : Int) := by omega
        have j3 : (i : Int) < (sn : Int) := by omega
        clear hx hx0 hx1 hx2 hL hy hy1 hy2 hxe hi hneg
        go_wp2_with (at_builtin; refine wpList_append_own_at _ rfl _ _ 34 rfl w.heap.size 3 i0 (.int .i64 0) 1 8 Tryz.underlying34 hi0 hz0 hz1 hz2 rfl (by decide) _ k (intCells L) rfl (HI.out.2.2.alloc _) ⟨wr.heap.size, 0, none⟩ 1 1 [.int .i64 (-y)] rfl rfl (cell_one_new _ _ _) (fun u hu => by simp at hu; subst hu; rfl) (by unfold maxLen; omega) (by omega) (by simp; omega) ?_)
        intro v' w7 hown' hgrow7 _ _
        obtain ⟨a', c', rfl⟩ := own_shape hown'
        have hg8 : wr.grownBy w7 (Value.slice a k c).ownBlock := (World.grownBy_alloc wr _ _).trans hgrow7
        have HN := Lib.hid (And.intro (grown_own HI.out.2.1 hg8 (own_low HI.out.2.2)) hown')
        clear hown' hgrow7 hg8 hcell hcs
        go_wp2_with fail
        go_roundg (an - (k + 1))
        case measure => rw [HI.out.1]; omega
        case rel => exact ⟨k + 1, a', c', rfl, rfl, rfl, by omega, HN.out.1, by rw [HX.out, HXY.out, intCells, List.map_append]; exact HN.out.2⟩
      · obtain ⟨i, hi⟩ : ∃ i : Nat, x - 1 = (i : Int) := ⟨(x - 1).toNat, by omega⟩
        have hin : i < sn := by omega
        obtain ⟨y, hy⟩ : ∃ y, S[i]? = some y := ⟨_, List.getElem?_eq_getElem (by rw [HS.out.2.2]; exact hin)⟩
        obtain ⟨sb, so, hsb, hcs⟩ := (HS.out.1.grown HI.out.2.1).at hy
        subst hsb
        obtain ⟨hy1, hy2⟩ := HS.out.2.1 y (List.mem_of_getElem? hy)
        have HXY : Hid (imgX S x = y) := Lib.hid (imgX_pos hneg hi hy)
        have f2 : decide (x < 0) = false := decide_eq_false hneg
        have kx1 : IntKind.i64.wrap (x - 1) = (i : Int) := by rw [hi]; exact IntWalk.i64_in _ (by omega)
        have j2 : (0 : Int) ≤ (i : Int) := by omega
        have j3 : (i : Int) < (sn : Int) := by omega
        clear hx hx0 hx1 hx2 hL hy hy1 hy2 hi hneg
        go_wp2_with (at_builtin; refine wpList_append_own_at _ rfl _ _ 34 rfl w.heap.size 3 i0 (.int .i64 0) 1 8 Tryz.underlying34 hi0 hz0 hz1 hz2 rfl (by decide) _ k (intCells L) rfl (HI.out.2.2.alloc _) ⟨wr.heap.size, 0, none⟩ 1 1 [.int .i64 y] rfl rfl (cell_one_new _ _ _) (fun u hu => by simp at hu; subst hu; rfl) (by unfold maxLen; omega) (by omega) (by simp; omega) ?_)
        intro v' w7 hown' hgrow7 _ _
        obtain ⟨a', c', rfl⟩ := own_shape hown'
        have hg8 : wr.grownBy w7 (Value.slice a k c).ownBlock := (World.grownBy_alloc wr _ _).trans hgrow7
        have HN := Lib.hid (And.intro (grown_own HI.out.2.1 hg8 (own_low HI.out.2.2)) hown')
        clear hown' hgrow7 hg8 hcell hcs
        go_wp2_with fail
        go_roundg (an - (k + 1))
        case measure => rw [HI.out.1]; omega
        case rel => exact ⟨k + 1, a', c', rfl, rfl, rfl, by omega, HN.out.1, by rw [HX.out, HXY.out, intCells, List.map_append]; exact HN.out.2⟩
    · have hke : k = an := by omega
      subst hke
      have f1 : decide (k < k) = false := by simp
      have hown := HI.out.2.2
      rw [List.take_of_length_le (by rw [HA.out.2.2]; exact Nat.le_refl _)] at hown
      have HOWN := Lib.hid hown
      clear hown
      go_wp2_with fail
      go_ret
      exact ⟨a, c, rfl, (own_ints HOWN.out).2, HI.out.2.1⟩
end Go.Proofs.YtihaheinkpmnnaaGreat

namespace Go.Proofs.YtihaheinkpmnnaaGreat
set_option maxRecDepth 200000
open Go.RowKit
/-- Two clauses are equal as sets. -/
def eqS (L M : List Int) : Bool := decide (∀ x ∈ L, x ∈ M) && decide (∀ x ∈ M, x ∈ L)
theorem eqS_iff {L M : List Int} : eqS L M = true ↔ ∀ x, x ∈ L ↔ x ∈ M := by
  unfold eqS
  rw [Bool.and_eq_true, decide_eq_true_eq, decide_eq_true_eq]
  exact ⟨fun h x => ⟨h.1 x, h.2 x⟩, fun h => ⟨fun x => (h x).1, fun x => (h x).2⟩⟩
end Go.Proofs.YtihaheinkpmnnaaGreat

namespace Go.Proofs.YtihaheinkpmnnaaGreat
/-- The clauses of a definition. -/
def defC (d : Int) (L : List Int) : List (List Int) := (L.map fun x => [-d, x]) ++ [d :: L.map fun x => -x]
end Go.Proofs.YtihaheinkpmnnaaGreat

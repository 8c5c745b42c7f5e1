/- Texts of the proof: X4. -/
import Derived.Test.YtihaheinkpmnnaaGreatCA13
namespace Go.Proofs.YtihaheinkpmnnaaGreat
set_option maxRecDepth 200000
open Go.RowKit
theorem boxV (w : World) (u0 u1 : Value) {n : Nat} {W1 W2 W3 : World} (h1 : w.alloc (.cells #[u0, u1] 24) = W1) (h2 : W1.alloc (.cells (madeCells #[.int .i8 0] n) 126) = W2) (h3 : W2.alloc (.cells #[.slice none 0 0] 110) = W3) :
    W1.heap.size = w.heap.size + 1 ∧ W2.heap.size = w.heap.size + 2 ∧ W1.cell? ⟨w.heap.size, 0, none⟩ = some u0 ∧ W3.cell? ⟨w.heap.size, 0, none⟩ = some u0 ∧ W3.cell? ⟨w.heap.size, 1, none⟩ = some u1 ∧ W3.cell? ⟨w.heap.size + 2, 0, none⟩ = some (.slice none 0 0) ∧ W3.frozen? ⟨w.heap.size + 2, 0, none⟩ = false ∧ w.grownBy W3 none := by
  subst h1 h2 h3
  exact ⟨by simp, by simp, by go_simp, by go_simp, by go_simp, by go_simp, by go_simp, World.grownBy.trans (World.grownBy_alloc w _ none) (World.grownBy.trans (World.grownBy_alloc _ _ none) (World.grownBy_alloc _ _ none))⟩
theorem sw_start (w : World) (V : Nat) (hV : V ≤ 1000) (ca : Option Addr) (cn cc : Nat) {W1 W2 W3 W4 : World} (h1 : w.alloc (.cells #[.int .i64 (V : Int), .slice ca cn cc] 24) = W1) (h2 : W1.alloc (.cells (madeCells #[.int .i8 0] (V + 1)) 126) = W2) (h3 : W2.alloc (.cells #[.slice none 0 0] 110) = W3)
    (h4 : W3.setCell ⟨w.heap.size + 2, 0, none⟩ (.slice (some ⟨w.heap.size + 1, 0, none⟩) (V + 1) (V + 1)) = W4) : SW w w.heap.size w.heap.size (w.heap.size + 2) (w.heap.size + 1) V ca cn cc [] W4 := by
  obtain ⟨s1, s2, _, c0, c1, c2, _, hg⟩ := boxV w _ _ h1 h2 h3
  have hown := made_own W1 w.heap.size (V + 1) (.int .i8 0) 126 (by omega) (by omega)
  rw [h2, s1] at hown
  have hown3 := own_grown hown (show W2.grownBy W3 none from by rw [← h3]; exact World.grownBy_alloc _ _ none)
  have hg4 := grown_set W3 (w.heap.size + 2) 0 (.slice (some ⟨w.heap.size + 1, 0, none⟩) (V + 1) (V + 1))
  rw [h4] at hg4
  refine ⟨?_, by rw [← h4]; exact World.cell?_setCell_same _ _ _ c2, hg4.cell c0 (by simp), hg4.cell c1 (by simp), grown_own hg hg4 (fun k e => by have := Option.some.inj e; omega), by omega, by omega, by omega⟩
  unfold VR
  rw [vals_nil, List.map_replicate]
  exact World.ownsRow.kept hown3 hg4 (.inr (by simp [Value.ownBlock]))
theorem addP_spec {tr : List Int} {x : Int} (hc : Cons tr) (hx : x ≠ 0) (hm : x ∈ tr ∨ und tr x = true) : Cons (addP tr x) ∧ x ∈ addP tr x ∧ (∀ y ∈ tr, y ∈ addP tr x) ∧ ∀ y ∈ addP tr x, y ∈ tr ∨ y = x := by
  unfold addP
  by_cases hu : und tr x = true
  · rw [if_pos hu]
    exact ⟨hc.snoc hx hu, by simp, fun y hy => by simp [hy], fun y hy => by simpa using hy⟩
  · rw [if_neg hu]
    have h1 := hm.resolve_right hu
    exact ⟨hc, h1, fun y hy => hy, fun y hy => .inl hy⟩
theorem unP_two {tr c : List Int} {u : Int} (h : unP tr c = (u, 2)) : hot tr c = false := by
  cases hb : hot tr c with
  | false => rfl
  | true =>
    unfold unP at h; rw [if_pos hb] at h
    split at h <;> simp at h
theorem unP_cases (tr c : List Int) : (unP tr c).2 = 0 ∨ (unP tr c).2 = 1 ∨ (unP tr c).2 = 2 := by
  unfold unP
  split
  · split <;> simp
  · simp
theorem unP_zero {tr c : List Int} {u : Int} (h : unP tr c = (u, 0)) : hot tr c = true ∧ c.find? (und tr) = none := by
  unfold unP at h
  split at h
  · rename_i hb
    refine ⟨hb, ?_⟩
    split at h
    · simp at h
    · assumption
  · simp at h
theorem unP_one {tr c : List Int} {u : Int} (h : unP tr c = (u, 1)) : hot tr c = true ∧ c.find? (und tr) = some u := by
  unfold unP at h
  split at h
  · rename_i hb
    refine ⟨hb, ?_⟩
    split at h
    · rename_i x hx
      simp at h; rw [hx, h]
    · simp at h
  · simp at h
/-- What the sweep has found so far. -/
def SwI (C : List (List Int)) (A tr : List Int) : Prop := Cons tr ∧ (∀ y ∈ A, y ∈ tr) ∧ ∀ y ∈ tr, Der C A y
theorem SwI.conf {C : List (List Int)} {A tr c : List Int} {u : Int} (h : SwI C A tr) (hc : c ∈ C) (hz : unP tr c = (u, 0)) : Conf C A :=
  ⟨c, hc, fun y hy => h.2.2 _ (find_none (unP_zero hz).2 ((hot_iff tr c).1 (unP_zero hz).1).1 y hy)⟩
theorem SwI.one {C : List (List Int)} {A tr c : List Int} {u : Int} (h : SwI C A tr) (hc : c ∈ C) (h0 : u ≠ 0) (hz : unP tr c = (u, 1)) : SwI C A (addP tr u) := by
  have hu : und tr u = true := List.find?_some (unP_one hz).2
  obtain ⟨a, b, d, e⟩ := addP_spec h.1 h0 (.inr hu)
  refine ⟨a, fun y hy => d y (h.2.1 y hy), fun y hy => ?_⟩
  rcases e y hy with h1 | h1
  · exact h.2.2 y h1
  · rw [h1]; exact der_step h.2.2 hc (unP_one hz).1 (unP_one hz).2
theorem SwI.shut {C : List (List Int)} {A tr : List Int} (h : SwI C A tr) (hs : ∀ c ∈ C, hot tr c = false) : ¬ Conf C A := shut_conf hs h.1 h.2.1
set_option maxHeartbeats 16000000 in
set_option maxRecDepth 100000 in
theorem sweep_calls (V : Nat) (C : List (List Int)) (ca : Option Addr) (cc : Nat) (A : List Int) (aa : Option Addr) (ac : Nat) (w : World) (h : ClsW w ca cc C) (hV : V ≤ 400) (hC : C.length ≤ 100000) (hL : ∀ c ∈ C, c.length ≤ 100000) (hR : Ran V C)
    (hA : IntsW w aa ac A) (hAl : A.length ≤ 100000) (hAr : ∀ x ∈ A, InR V x) (hAc : contraP A = false) :
    Calls Tryz.prog 90 #[.agg #[.int .i64 (V : Int), .slice ca C.length cc], .slice aa A.length ac] w fun e w' => (∃ b1 b2 : Bool, e = .returned (.tuple #[.bool b1, .bool b2]) ∧ (b2 = true → (b1 = true ↔ Conf C A))) ∧ w.grownBy w' none := by
  obtain ⟨cn, hcn⟩ : ∃ n, C.length = n := ⟨_, rfl⟩
  obtain ⟨an, han⟩ : ∃ n, A.length = n := ⟨_, rfl⟩
  obtain ⟨W1, hW1⟩ : ∃ z, w.alloc (.cells #[.int .i64 (V : Int), .slice ca cn cc] 24) = z := ⟨_, rfl⟩
  obtain ⟨W2, hW2⟩ : ∃ z, W1.alloc (.cells (madeCells #[.int .i8 0] (V + 1)) 126) = z := ⟨_, rfl⟩
  obtain ⟨W3, hW3⟩ : ∃ z, W2.alloc (.cells #[.slice none 0 0] 110) = z := ⟨_, rfl⟩
  obtain ⟨W4, hW4⟩ : ∃ z, W3.setCell ⟨w.heap.size + 2, 0, none⟩ (.slice (some ⟨w.heap.size + 1, 0, none⟩) (V + 1) (V + 1)) = z := ⟨_, rfl⟩
  have hsw := sw_start w V (by omega) ca cn cc hW1 hW2 hW3 hW4
  obtain ⟨s1, s2, p0, _, _, p2, p3, _⟩ := boxV w _ _ hW1 hW2 hW3
  have hmk := mk52 W1 (V + 1) (by omega)
  have k1 : IntKind.i64.wrap ((V : Int) + 1) = (V : Int) + 1 := IntWalk.i64_in _ (by omega)
  obtain ⟨bf, hbf⟩ : ∃ z, w.heap.size = z := ⟨_, rfl⟩
  rw [hW2, s1] at hmk
  rw [hbf] at hmk p0 p2 p3 hW4 hsw s1 s2
  have hmk' : (Instr.makeSlice 110 (.int .i64 ((V : Int) + 1)) (.int .i64 ((V : Int) + 1))).run Tryz.prog W1 = .ok (.slice (some ⟨bf + 1, 0, none⟩) (V + 1) (V + 1)) W2 := hmk
  have HH := Lib.hid (And.intro h (And.intro hC (And.intro hL (And.intro hR hcn))))
  have HA := Lib.hid (And.intro hA (And.intro hAl (And.intro hAr (And.intro han hAc))))
  have HSW := Lib.hid hsw
  have hmf : ∀ (fn : Fn) (first cap : Array Value) (w : World), (Instr.makeFunc fn first cap).run Tryz.prog w = .ok (.func fn first cap) w := fun _ _ _ _ => rfl
  rw [hcn, han]
  have fin : ∀ (tmps : Array Value) (w : World) (x y : Value), tmps.getD 4 undef = x → tmps.getD 5 undef = y → (results Tryz.f90 tmps).run Tryz.prog w = .ok (.tuple #[x, y]) w := fun tmps w x y e1 e2 => by
    have e1' : tmps[4]?.getD undef = x := by simpa using e1
    have e2' : tmps[5]?.getD undef = y := by simpa using e2
    simp [results, e1', e2', go_sem]
  have HF := Lib.hid fin
  clear fin h hC hL hR hA hAl hAr hcn han hmk hsw hAc
  go_enter Tryz.func90, Tryz.ntmps90
  go_wp2_with fail
  obtain ⟨M, hM⟩ : ∃ z, V + 1 = z := ⟨_, rfl⟩
  rw [hM]
  have HM := Lib.hid hM
  have HB := Lib.hid hbf
  clear hmk' k1 hmf p0 p2 p3 hW1 hW2 hW3 hW4 s1 s2 hM
  obtain ⟨SWP, hSWP⟩ : ∃ P : List Int → World → Prop, P = SW w bf bf (bf + 2) (bf + 1) V ca cn cc := ⟨_, rfl⟩
  have HP := Lib.hid hSWP
  have HSW0 : Hid (SWP [] W4) := Lib.hid (by rw [hSWP]; exact HSW.out)
  clear HSW hSWP hbf
  have HSET : Hid (∀ (tr : List Int) (x : Int) (U : World), SWP tr U → Cons tr → InR V x → (x ∈ tr ∨ und tr x = true) → Calls Tryz.prog 102 #[.int .i64 x, .pointer (some ⟨bf + 2, 0, none⟩)] U fun e w' => e = .returned (.tuple #[]) ∧ SWP (addP tr x) w') := Lib.hid (fun tr x U hu hc hx hm => by rw [HP.out] at hu ⊢; exact set_calls hu hc hV hx hm)
  have HUN : Hid (∀ (tr : List Int) (U : World) (a : Option Addr) (c : Nat) (L : List Int), SWP tr U → Cons tr → IntsW w a c L → L ∈ C → Calls Tryz.prog 103 #[.slice (some ⟨bf + 1, 0, none⟩) M M, .slice a L.length c] U fun e w' => e = .returned (.tuple #[.int .i64 (unP tr L).1, .int .i64 (unP tr L).2]) ∧ w' = U) := Lib.hid (fun tr U a c L hu hc hi hm => by
    rw [HP.out] at hu
    rw [← HM.out]
    exact undet_calls hu.vr hc hV (hi.grown hu.gr) (HH.out.2.2.2.1 L hm) (HH.out.2.2.1 L hm))
  have HGR : Hid (∀ tr U, SWP tr U → w.grownBy U none ∧ U.cell? ⟨bf, 1, none⟩ = some (.slice ca cn cc) ∧ U.cell? ⟨bf + 2, 0, none⟩ = some (.slice (some ⟨bf + 1, 0, none⟩) M M)) := Lib.hid (fun tr U hu => by rw [HP.out] at hu; exact ⟨hu.gr, hu.f1, by rw [← HM.out]; exact hu.tb0⟩)
  go_loopg [9, 22] an (fun gk _s9 s22 wr => ∃ (k : Nat) (tr : List Int), s22 = .int .i64 (k : Int) ∧ gk = an - k ∧ k ≤ an ∧ SWP tr wr ∧ Cons tr ∧ (∀ y ∈ A.take k, y ∈ tr) ∧ ∀ y ∈ tr, y ∈ A)
  case atStart => exact ⟨0, [], rfl, rfl, by omega, HSW0.out, fun x hx => (by cases hx), by simp, fun y hy => (by cases hy)⟩
  case round =>
    obtain ⟨k, tr, rfl, hgk, hk, hsw, hco, hin, hsub⟩ := hrel
    have HI := Lib.hid (And.intro hgk (And.intro hsw (And.intro hco (And.intro hin hsub))))
    clear hgk hsw hco hin hsub
    by_cases hkn : k < an
    · have f1 : decide ((k : Int) < (an : Int)) = true := decide_eq_true (by omega)
      have f1' : decide (k < an) = true := decide_eq_true hkn
      have i0 : (0 : Int) ≤ (k : Int) := by omega
      have i1 : (k : Int) < (an : Int) := by omega
      have k1 : IntKind.i64.wrap ((k : Int) + 1) = (k : Int) + 1 := IntWalk.i64_in _ (by have h1 := HA.out.2.1; rw [HA.out.2.2.2.1] at h1; omega)
      obtain ⟨x, hx⟩ : ∃ x, A[k]? = some x := ⟨_, List.getElem?_eq_getElem (by rw [HA.out.2.2.2.1]; exact hkn)⟩
      have hxm : x ∈ A := List.mem_of_getElem? hx
      obtain ⟨b, o, hb0, hcell⟩ := (HA.out.1.grown (HGR.out _ _ HI.out.2.1).1).at hx
      subst hb0
      have hxo : x ∈ tr ∨ und tr x = true := by
        by_cases hm : x ∈ tr
        · exact .inl hm
        · exact .inr ((und_iff tr x).2 ⟨hm, fun hn => contra_false HA.out.2.2.2.2 x hxm (HI.out.2.2.2.2 _ hn)⟩)
      have hxr := HA.out.2.2.1 x hxm
      have HC := Lib.hid (HSET.out tr x wr HI.out.2.1 HI.out.2.2.1 hxr hxo)
      have HX : Hid (Cons (addP tr x) ∧ (∀ y ∈ A.take (k + 1), y ∈ addP tr x) ∧ ∀ y ∈ addP tr x, y ∈ A) := Lib.hid (by
        obtain ⟨a1, a2, a3, a4⟩ := addP_spec HI.out.2.2.1 hxr.1 hxo
        refine ⟨a1, fun y hy => ?_, fun y hy => ?_⟩
        · rw [take_snoc hx] at hy
          rcases List.mem_append.1 hy with hy | hy
          · exact a3 y (HI.out.2.2.2.1 y hy)
          · rw [List.mem_singleton.1 hy]; exact a2
        · rcases a4 y hy with h1 | h1
          · exact HI.out.2.2.2.2 y h1
          · rw [h1]; exact hxm)
      clear hx hxm hxo hxr
      go_wp2_with fail
      refine HC.out.mono ?_
      rintro e w6 ⟨rfl, hs6⟩
      have HS6 := Lib.hid hs6
      clear hs6 hcell HC
      go_wp2_with fail
      go_roundg (an - (k + 1))
      case measure => rw [HI.out.1]; omega
      case rel => exact ⟨k + 1, addP tr x, rfl, rfl, by omega, HS6.out, HX.out.1, HX.out.2.1, HX.out.2.2⟩
    · have hke : k = an := by omega
      subst hke
      have f1 : decide (k < k) = false := by simp
      have HW : Hid (SWP tr wr ∧ SwI C A tr) := Lib.hid ⟨HI.out.2.1, HI.out.2.2.1, by have := HI.out.2.2.2.1; rwa [← HA.out.2.2.2.1, List.take_length] at this, fun y hy => .ass y (HI.out.2.2.2.2 y hy)⟩
      clear HI hk hkn
      go_wp2_with fail
      clear f1
      go_loopg [10, 12, 13, 14, 30] 8 (fun gk _s10 _s12 _s13 _s14 s30 wr => ∃ (p : Nat) (tr : List Int), s30 = .int .i64 (p : Int) ∧ gk = 8 - p ∧ p ≤ 8 ∧ SWP tr wr ∧ SwI C A tr)
      case atStart => exact ⟨0, tr, rfl, rfl, by omega, HW.out.1, HW.out.2⟩
      case round =>
        obtain ⟨p, tr1, rfl, hgk, hp, hsw, hsi⟩ := hrel
        have HI := Lib.hid (And.intro hgk (And.intro hsw hsi))
        have c1 := (HGR.out _ _ hsw).2.1
        clear hgk hsw hsi
        by_cases hp8 : p < 8
        · have f1 : decide ((p : Int) < 8) = true := decide_eq_true (by omega)
          have f1' : decide (p < 8) = true := decide_eq_true hp8
          go_wp2_with fail
          clear c1 f1 f1'
          go_loopg [10, 12, 13, 14, 35] cn (fun gk s10 _s12 _s13 _s14 s35 wr => ∃ (k : Nat) (b : Bool) (tr : List Int), s10 = .bool b ∧ s35 = .int .i64 (k : Int) ∧ gk = cn - k ∧ k ≤ cn ∧ SWP tr wr ∧ SwI C A tr ∧ (b = false → ∀ c ∈ C.take k, hot tr c = false))
          case atStart => exact ⟨0, false, tr1, rfl, rfl, rfl, by omega, HI.out.2.1, HI.out.2.2, fun _ c hc => by simp at hc⟩
          case round =>
            obtain ⟨k3, b3, tr3, rfl, rfl, hgk, hk3, hsw, hsi, hno⟩ := hrel
            have HJ := Lib.hid (And.intro hgk (And.intro hsw (And.intro hsi hno)))
            have c3 := (HGR.out _ _ hsw).2.2
            have hg3 := (HGR.out _ _ hsw).1
            clear hgk hsw hsi hno
            by_cases hkn : k3 < cn
            · have f1 : decide ((k3 : Int) < (cn : Int)) = true := decide_eq_true (by omega)
              have f1' : decide (k3 < cn) = true := decide_eq_true hkn
              have i0 : (0 : Int) ≤ (k3 : Int) := by omega
              have i1 : (k3 : Int) < (cn : Int) := by omega
              have k1 : IntKind.i64.wrap ((k3 : Int) + 1) = (k3 : Int) + 1 := IntWalk.i64_in _ (by have h1 := HH.out.2.1; rw [HH.out.2.2.2.2] at h1; omega)
              obtain ⟨L, hL⟩ : ∃ L, C[k3]? = some L := ⟨_, List.getElem?_eq_getElem (by rw [HH.out.2.2.2.2]; exact hkn)⟩
              have hLm : L ∈ C := List.mem_of_getElem? hL
              obtain ⟨b, o, a', c', hca, hcellw, hints⟩ := HH.out.1.at hL
              subst hca
              have HU := Lib.hid (HUN.out tr3 wr a' c' L HJ.out.2.1 HJ.out.2.2.1.1 hints hLm)
              have hcell := hg3.cell hcellw (by simp)
              obtain ⟨l, hl⟩ : ∃ l, L.length = l := ⟨_, rfl⟩
              rw [hl] at hcell HU
              obtain ⟨⟨u, m⟩, hum⟩ : ∃ z, unP tr3 L = z := ⟨_, rfl⟩
              rw [hum] at HU
              have hm := unP_cases tr3 L
              rw [hum] at hm
              have HL := Lib.hid (And.intro hL (And.intro hLm hum))
              clear hL hLm hints hl hum hg3 hcellw
              go_wp2_with fail
              refine HU.out.mono ?_
              rintro e w6 ⟨rfl, hw6⟩
              rw [hw6]
              clear hw6 w6 HU
              simp only at hm ⊢
              rcases hm with rfl | rfl | rfl
              · have HC := Lib.hid (HJ.out.2.2.1.conf HL.out.2.1 HL.out.2.2)
                clear hcell c3
                go_wp2_with fail
                refine bodyPost_ret (v := .tuple #[.bool true, .bool true]) (HF.out _ _ _ _ rfl rfl) rfl ?_
                exact ⟨⟨true, true, rfl, fun _ => ⟨fun _ => HC.out, fun _ => rfl⟩⟩, (HGR.out _ _ HJ.out.2.1).1⟩
              · have hur : InR V u := HH.out.2.2.2.1 L HL.out.2.1 u (List.mem_of_find?_eq_some (unP_one HL.out.2.2).2)
                have HC := Lib.hid (HSET.out tr3 u wr HJ.out.2.1 HJ.out.2.2.1.1 hur (.inr (List.find?_some (unP_one HL.out.2.2).2)))
                have HN := Lib.hid (HJ.out.2.2.1.one HL.out.2.1 hur.1 HL.out.2.2)
                clear hur hcell c3
                go_wp2_with fail
                refine HC.out.mono ?_
                rintro e w7 ⟨rfl, hs7⟩
                have HS7 := Lib.hid hs7
                clear hs7 HC
                go_wp2_with fail
                go_roundg (cn - (k3 + 1))
                case measure => rw [HJ.out.1]; omega
                case rel => exact ⟨k3 + 1, true, addP tr3 u, rfl, rfl, rfl, by omega, HS7.out, HN.out, fun e => (by cases e)⟩
              · have HN : Hid (b3 = false → ∀ c ∈ C.take (k3 + 1), hot tr3 c = false) := Lib.hid (fun e c hc => by
                  obtain ⟨hlt, e2⟩ := List.getElem?_eq_some_iff.1 HL.out.1
                  rw [List.take_succ_eq_append_getElem hlt, e2] at hc
                  rcases List.mem_append.1 hc with hc | hc
                  · exact HJ.out.2.2.2 e c hc
                  · rw [List.mem_singleton.1 hc]; exact unP_two HL.out.2.2)
                clear hcell c3
                go_wp2_with fail
                go_roundg (cn - (k3 + 1))
                case measure => rw [HJ.out.1]; omega
                case rel => exact ⟨k3 + 1, b3, tr3, rfl, rfl, rfl, by omega, HJ.out.2.1, HJ.out.2.2.1, HN.out⟩
            · have hke3 : k3 = cn := by omega
              subst hke3
              have f1 : decide (k3 < k3) = false := by simp
              have k8 : IntKind.i64.wrap ((p : Int) + 1) = (p : Int) + 1 := IntWalk.i64_in _ (by omega)
              clear c3 hg3
              cases b3 with
              | false =>
                have HC : Hid (¬ Conf C A) := Lib.hid (HJ.out.2.2.1.shut (fun c hc => HJ.out.2.2.2 rfl c (by rw [← HH.out.2.2.2.2, List.take_length]; exact hc)))
                go_wp2_with fail
                refine bodyPost_ret (v := .tuple #[.bool false, .bool true]) (HF.out _ _ _ _ rfl rfl) rfl ?_
                exact ⟨.inl (.inr ⟨rfl, HC.out⟩), (HGR.out _ _ HJ.out.2.1).1⟩
              | true =>
                go_wp2_with fail
                go_roundg (8 - (p + 1))
                case measure => rw [HI.out.1]; omega
                case rel => exact ⟨p + 1, tr3, rfl, rfl, by omega, HJ.out.2.1, HJ.out.2.2.1⟩
        · have hpe : p = 8 := by omega
          subst hpe
          go_wp2_with fail
          refine bodyPost_ret (v := .tuple #[.bool false, .bool false]) (HF.out _ _ _ _ rfl rfl) rfl ?_
          exact ⟨⟨false, false, rfl, fun e => (by cases e)⟩, (HGR.out _ _ HI.out.2.1).1⟩
end Go.Proofs.YtihaheinkpmnnaaGreat

/- Texts of the proof: HD V4. -/
import Derived.Test.YtihaheinkpmnnaaGreatCA16
import Derived.Test.YtihaheinkpmnnaaGreatCA32
import Derived.Deep.Cut
import Derived.Test.YtihaheinkpmnnaaGreatCA13
namespace Go.Proofs.YtihaheinkpmnnaaGreat
set_option maxRecDepth 200000
open Go.RowKit Go.Shelf Go.Maps Go.Sort
theorem ints1 {w : World} {b : Nat} {x : Int} (h0 : w.cell? ⟨b, 0, none⟩ = some (.int .i64 x)) : IntsW w (some ⟨b, 0, none⟩) 1 [x] :=
  ⟨Nat.le_refl _, .inr ⟨b, 0, rfl, fun j z hj => by
    have : j = 0 := by have := (List.getElem?_eq_some_iff.1 hj).1; simp at this; omega
    subst this; simp at hj; subst hj; exact h0⟩⟩
theorem ints2 {w : World} {b : Nat} {x y : Int} (h0 : w.cell? ⟨b, 0, none⟩ = some (.int .i64 x)) (h1 : w.cell? ⟨b, 1, none⟩ = some (.int .i64 y)) : IntsW w (some ⟨b, 0, none⟩) 2 [x, y] :=
  ⟨Nat.le_refl _, .inr ⟨b, 0, rfl, fun j z hj => by
    have hl : j < 2 := by have := (List.getElem?_eq_some_iff.1 hj).1; simpa using this
    rcases (show j = 0 ∨ j = 1 by omega) with rfl | rfl
    · simp at hj; subst hj; exact h0
    · simp at hj; subst hj; exact h1⟩⟩
theorem ints3 {w : World} {b : Nat} {x y u : Int} (h0 : w.cell? ⟨b, 0, none⟩ = some (.int .i64 x)) (h1 : w.cell? ⟨b, 1, none⟩ = some (.int .i64 y)) (h2 : w.cell? ⟨b, 2, none⟩ = some (.int .i64 u)) : IntsW w (some ⟨b, 0, none⟩) 3 [x, y, u] :=
  ⟨Nat.le_refl _, .inr ⟨b, 0, rfl, fun j z hj => by
    have hl : j < 3 := by have := (List.getElem?_eq_some_iff.1 hj).1; simpa using this
    rcases (show j = 0 ∨ j = 1 ∨ j = 2 by omega) with rfl | rfl | rfl
    · simp at hj; subst hj; exact h0
    · simp at hj; subst hj; exact h1
    · simp at hj; subst hj; exact h2⟩⟩
/-- A row of clauses, clause by clause. -/
theorem cls_mk {w : World} {b : Nat} {C : List (List Int)} (h : ∀ j (hj : j < C.length), ∃ a' c', w.cell? ⟨b, j, none⟩ = some (.slice a' (C[j]).length c') ∧ IntsW w a' c' C[j]) : ClsW w (some ⟨b, 0, none⟩) C.length C :=
  ⟨Nat.le_refl _, .inr ⟨b, 0, rfl, fun j z hj => by
    obtain ⟨hl, e⟩ := List.getElem?_eq_some_iff.1 hj
    obtain ⟨a', c', h1, h2⟩ := h j hl
    rw [e] at h1 h2
    exact ⟨a', c', by rw [Nat.zero_add]; exact h1, h2⟩⟩⟩
/-- A formula in a box. -/
def CnfAt (w : World) (b : Nat) (V : Int) (C : List (List Int)) : Prop := ∃ ca cc, w.cell? ⟨b, 0, none⟩ = some (.int .i64 V) ∧ w.cell? ⟨b, 1, none⟩ = some (.slice ca C.length cc) ∧ ClsW w ca cc C
theorem CnfAt.grown {w w' : World} {b : Nat} {V : Int} {C : List (List Int)} (h : CnfAt w b V C) (hg : w.grownBy w' none) : CnfAt w' b V C := by
  obtain ⟨ca, cc, h1, h2, h3⟩ := h
  exact ⟨ca, cc, hg.cell h1 (by simp), hg.cell h2 (by simp), h3.grown hg⟩
def okB (V : Nat) (F Y : List (List Int)) (l : List St) : Bool :=
  decide (V ≤ 300) && (decide (F.length ≤ 40) && (F.all (fun c => decide (c.length ≤ 12)) && (F.all (fun c => c.all (inRb V)) && (decide (Y.length ≤ 6) && (Y.all (fun c => decide (c.length ≤ 12)) && (decide (l.length ≤ 80) && (l.all (fun x => decide (x.2.1.length ≤ 12)) && l.all (fun x => (Lit.int .i64 x.1).wf))))))))
theorem inOk_mk {w : World} {K : Kst} {l : List St} {la : Option Addr} {lc : Nat} (hf : ClsW w K.fa K.fc K.F) (hy : ClsW w K.ya K.yc K.Y) (hs : StepsW w la lc l) (hb : okB K.V0 K.F K.Y l = true) : InOk w K l la lc := by
  unfold okB at hb
  simp only [Bool.and_eq_true, decide_eq_true_eq, List.all_eq_true] at hb
  obtain ⟨h1, h2, h3, h4, h5, h6, h7, h8, h9⟩ := hb
  exact ⟨⟨hf, hy, by omega, by omega, h3, by omega, h6⟩, ⟨fun c hc y hy => inRb_iff.1 (h4 c hc y hy), h1, h2, h3⟩, hs, h7, h8, h9⟩
theorem clsw_nil (w : World) (a : Option Addr) (c : Nat) : ClsW w a c [] := ⟨Nat.zero_le _, .inl rfl⟩
theorem stepsw_nil (w : World) (a : Option Addr) (c : Nat) : StepsW w a c [] := ⟨Nat.zero_le _, fun j x hj => by simp at hj⟩
theorem ints_none (w : World) : IntsW w none 0 [] := ⟨Nat.le_refl _, .inl rfl⟩
/-- A row of steps, step by step. -/
theorem steps_mk {w : World} {b o : Nat} {l : List St} (h : ∀ j (hj : j < l.length), StepAt w b (o + j * 3) l[j]) : StepsW w (some ⟨b, o, none⟩) l.length l :=
  ⟨Nat.le_refl _, fun j x hj => by
    obtain ⟨hl, e⟩ := List.getElem?_eq_some_iff.1 hj
    exact ⟨b, o, rfl, by rw [← e]; exact h j hl⟩⟩
set_option maxHeartbeats 32000000 in
theorem head_calls (w : World) : Calls Tryz.prog 10 #[] w fun e w' => e = .returned (.bool true) ∧ w.grownBy w' none := by
  go_enter Tryz.func10, Tryz.ntmps10
  go_upto_region 1 with fail
  go_cut [1] (fun s1 wx => ∃ b1, s1 = .pointer (some ⟨b1, 0, none⟩) ∧ CnfAt wx b1 2 fullC ∧ w.grownBy wx none)
  case first =>
    go_wp2_with fail
    go_meet
    refine ⟨_, rfl, ⟨some ⟨w.heap.size + 1 + 1 + 1 + 1, 0, none⟩, 4, by go_simp, (by (show _ = some (Value.slice _ 4 4)); go_simp), cls_mk (fun j hj => ?_)⟩, ?_⟩
    · match j, hj with
      | 0, _ => exact ⟨some ⟨w.heap.size, 0, none⟩, 2, (by (show _ = some (Value.slice _ 2 2)); go_simp), ints2 (by go_simp) (by go_simp)⟩
      | 1, _ => exact ⟨some ⟨w.heap.size + 1, 0, none⟩, 2, (by (show _ = some (Value.slice _ 2 2)); go_simp), ints2 (by go_simp) (by go_simp)⟩
      | 2, _ => exact ⟨some ⟨w.heap.size + 1 + 1, 0, none⟩, 2, (by (show _ = some (Value.slice _ 2 2)); go_simp), ints2 (by go_simp) (by go_simp)⟩
      | 3, _ => exact ⟨some ⟨w.heap.size + 1 + 1 + 1, 0, none⟩, 2, (by (show _ = some (Value.slice _ 2 2)); go_simp), ints2 (by go_simp) (by go_simp)⟩
      | n + 4, h => exact absurd h (by simp [fullC])
    · repeat (first | exact grown_refl _ _ | refine World.grownBy.trans ?_ (World.grownBy_alloc _ _ none))
  case rest =>
    obtain ⟨b1, rfl, hf1, hg1⟩ := hcut
    obtain ⟨V1, hV1⟩ : ∃ z, z = wc := ⟨_, rfl⟩
    rw [← hV1] at hf1 hg1 ⊢
    clear hV1
    have H1 := Lib.hid (And.intro hf1 hg1)
    clear hf1 hg1
    go_upto_region 2 with fail
    go_cut [2] (fun s2 wx => ∃ b2, s2 = .pointer (some ⟨b2, 0, none⟩) ∧ CnfAt wx b2 2 sameC ∧ V1.grownBy wx none)
    case first =>
      go_wp2_with fail
      go_meet
      refine ⟨_, rfl, ⟨some ⟨V1.heap.size + 1 + 1, 0, none⟩, 2, by go_simp, (by (show _ = some (Value.slice _ 2 2)); go_simp), cls_mk (fun j hj => ?_)⟩, ?_⟩
      · match j, hj with
        | 0, _ => exact ⟨some ⟨V1.heap.size, 0, none⟩, 2, (by (show _ = some (Value.slice _ 2 2)); go_simp), ints2 (by go_simp) (by go_simp)⟩
        | 1, _ => exact ⟨some ⟨V1.heap.size + 1, 0, none⟩, 2, (by (show _ = some (Value.slice _ 2 2)); go_simp), ints2 (by go_simp) (by go_simp)⟩
        | n + 2, h => exact absurd h (by simp [sameC])
      · repeat (first | exact grown_refl _ _ | refine World.grownBy.trans ?_ (World.grownBy_alloc _ _ none))
    case rest =>
      obtain ⟨b2, rfl, hf2, hg2⟩ := hcut
      obtain ⟨V2, hV2⟩ : ∃ z, z = wc := ⟨_, rfl⟩
      rw [← hV2] at hf2 hg2 ⊢
      clear hV2
      have H2 := Lib.hid (And.intro hf2 hg2)
      clear hf2 hg2
      go_upto_region 3 with fail
      go_cut [3] (fun s3 wx => ∃ bp, s3 = .slice (some ⟨bp, 0, none⟩) 2 2 ∧ StepsW wx (some ⟨bp, 0, none⟩) 2 prf0 ∧ StepsW wx (some ⟨bp, 3, none⟩) 1 [(1, [], 0)] ∧ V2.grownBy wx none)
      case first =>
        go_wp2_with fail
        go_meet
        refine ⟨_, rfl, steps_mk (l := prf0) (fun j hj => ?_), steps_mk (l := [((1 : Int), ([] : List Int), (0 : Int))]) (fun j hj => ?_), ?_⟩
        · match j, hj with
          | 0, _ => exact ⟨(by simp only [Nat.zero_mul, Nat.add_zero]; (show _ = some (Value.int .i64 1)); go_simp), ⟨some ⟨V2.heap.size, 0, none⟩, 1, (by simp only [Nat.zero_mul, Nat.zero_add, Nat.add_zero]; (show _ = some (Value.slice _ 1 1)); go_simp), ints1 (by go_simp)⟩, (by simp only [Nat.zero_mul, Nat.zero_add, Nat.add_zero]; (show _ = some (Value.int .i64 0)); go_simp)⟩
          | 1, _ => exact ⟨(by simp only [Nat.zero_add, Nat.one_mul]; (show _ = some (Value.int .i64 1)); go_simp), ⟨none, 0, (by simp only [Nat.zero_add, Nat.one_mul]; (show _ = some (Value.slice none 0 0)); go_simp), ints_none _⟩, (by simp only [Nat.zero_add, Nat.one_mul]; (show _ = some (Value.int .i64 0)); go_simp)⟩
          | n + 2, h => exact absurd h (by simp [prf0])
        · match j, hj with
          | 0, _ => exact ⟨(by simp only [Nat.zero_mul, Nat.add_zero]; (show _ = some (Value.int .i64 1)); go_simp), ⟨none, 0, (by simp only [Nat.zero_mul, Nat.add_zero]; (show _ = some (Value.slice none 0 0)); go_simp), ints_none _⟩, (by simp only [Nat.zero_mul, Nat.add_zero]; (show _ = some (Value.int .i64 0)); go_simp)⟩
          | n + 1, h => exact absurd h (by simp)
        · repeat (first | exact grown_refl _ _ | refine World.grownBy.trans ?_ (World.grownBy_alloc _ _ none))
      case rest =>
        obtain ⟨bp, rfl, hs1, hs2, hg3⟩ := hcut
        obtain ⟨V3, hV3⟩ : ∃ z, z = wc := ⟨_, rfl⟩
        rw [← hV3] at hs1 hs2 hg3 ⊢
        clear hV3
        obtain ⟨ca, cc, p0, p1, pc⟩ := H1.out.1.grown (H2.out.2.trans hg3)
        obtain ⟨ma, mc, m0, m1, mc'⟩ := H2.out.1.grown hg3
        have HA := Lib.hid (And.intro pc (And.intro mc' (And.intro hs1 (And.intro hs2 (H1.out.2.trans (H2.out.2.trans hg3))))))
        have HP := Lib.hid (And.intro p0 (And.intro p1 (And.intro m0 m1)))
        clear pc mc' hs1 hs2 hg3 m0 m1
        have HCf : Hid (∀ (W : World) (l : List St) (la : Option Addr) (lc n c m : Nat), V3.grownBy W none → StepsW W la lc l → okB 2 fullC [] l = true → l.length = n → chkP (2, fullC) [] l = c → errC c n = m → Calls Tryz.prog 13 #[.agg #[.int .i64 2, .slice ca 4 cc], .slice none 0 0, .slice la n lc] W fun e w' => e = .returned (.tuple #[.int .i64 (c : Int), .int .i64 (m : Int)]) ∧ V3.grownBy w' none) := Lib.hid (fun W l la lc n c m hg hs hb h1 h2 h3 => by
          have := check_calls ⟨2, ca, cc, fullC, none, 0, [], W, 0⟩ l la lc W (inOk_mk (HA.out.1.grown hg) (clsw_nil _ _ _) hs hb)
          rw [show chkP (Kst.fs ⟨2, ca, cc, fullC, none, 0, [], W, 0⟩) [] l = c from h2, h1, h3] at this
          exact this.mono fun e w' ⟨e1, e2⟩ => ⟨e1, hg.trans e2⟩)
        go_wp2_with fail
        refine (HCf.out V3 prf0 _ 2 2 2 0 (grown_refl _ _) HA.out.2.2.1 (by decide +kernel) rfl hd_1 rfl).mono ?_
        rintro e w4 ⟨rfl, g4⟩
        have HG4 := Lib.hid g4
        have q0 := g4.cell p0 (by simp)
        have q1 := g4.cell p1 (by simp)
        have Q0 := Lib.hid q0
        have Q1 := Lib.hid q1
        clear g4 p0 p1
        go_wp2_with fail
        go_region_held3 (fun w' => V3.grownBy w' none ∧ w'.cell? ⟨b1, 0, none⟩ = some (.int .i64 2) ∧ w'.cell? ⟨b1, 1, none⟩ = some (.slice ca 4 cc))
          (first | exact ⟨HG4.out.trans (grown_drew w4 none), q0, q1⟩ | (go_split_ands; exact ⟨by assumption, by assumption, by assumption⟩) | exact ⟨g7, g7.cell HP.out.1 (by simp), g7.cell HP.out.2.1 (by simp)⟩)
          (first | (go_at_call 13; refine (HCf.out _ [(1, [], 0)] _ 1 1 0 220 (by go_split_ands; assumption) (HA.out.2.2.2.1.grown (by go_split_ands; assumption)) (by decide +kernel) rfl hd_2 rfl).mono ?_; rintro e w5 ⟨rfl, g7⟩))
        have HG5 := Lib.hid g7
        have HM := Lib.hid (And.intro (g7.cell HP.out.2.2.1 (by simp)) (And.intro (g7.cell HP.out.2.2.2 (by simp)) (And.intro (g7.cell HP.out.1 (by simp)) (g7.cell HP.out.2.1 (by simp)))))
        clear g7 q0 q1
        have HCs : Hid (∀ (W : World) (ya la : Option Addr), V3.grownBy W none → ClsW W ya 1 [[2, 1]] → StepsW W la 5 prf1 → Calls Tryz.prog 13 #[.agg #[.int .i64 2, .slice ma 2 mc], .slice ya 1 1, .slice la 5 5] W fun e w' => e = .returned (.tuple #[.int .i64 4, .int .i64 220]) ∧ V3.grownBy w' none) := Lib.hid (fun W ya la hg hy hs => by
          have := check_calls ⟨2, ma, mc, sameC, ya, 1, [[2, 1]], W, 0⟩ prf1 la 5 W (inOk_mk (HA.out.2.1.grown hg) hy hs (show okB 2 sameC [[2, 1]] prf1 = true by decide +kernel))
          rw [show chkP (Kst.fs ⟨2, ma, mc, sameC, ya, 1, [[2, 1]], W, 0⟩) [[2, 1]] prf1 = 4 from hd_3] at this
          exact this.mono fun e w' ⟨e1, e2⟩ => ⟨e1, hg.trans e2⟩)
        go_upto_region 6 with fail
        go_cut [8, 9] (fun s8 s9 wx => s8 = .int .i64 4 ∧ s9 = .int .i64 220 ∧ V3.grownBy wx none)
        case first =>
          have n0 := HM.out.1
          have n1 := HM.out.2.1
          go_wp2_with fail
          refine (HCs.out _ _ _ ?e1 (cls_mk (C := [[2, 1]]) (fun j hj => ?e2)) (steps_mk (l := prf1) (fun j hj => ?e3))).mono ?_
          case e1 => repeat (first | exact HG5.out | refine World.grownBy.trans ?_ (World.grownBy_alloc _ _ none))
          case e2 =>
            match j, hj with
            | 0, _ => exact ⟨some ⟨w5.heap.size, 0, none⟩, 2, (by (show _ = some (Value.slice _ 2 2)); go_simp), ints2 (by go_simp) (by go_simp)⟩
            | n + 1, h => exact absurd h (by simp)
          case e3 =>
            match j, hj with
            | 0, _ => exact ⟨(by simp only [Nat.zero_mul, Nat.add_zero]; (show _ = some (Value.int .i64 4)); go_simp), ⟨some ⟨w5.heap.size + 1 + 1, 0, none⟩, 2, (by simp only [Nat.zero_mul, Nat.zero_add, Nat.add_zero]; (show _ = some (Value.slice _ 2 2)); go_simp), ints2 (by go_simp) (by go_simp)⟩, (by simp only [Nat.zero_mul, Nat.zero_add, Nat.add_zero]; (show _ = some (Value.int .i64 0)); go_simp)⟩
            | 1, _ => exact ⟨(by simp only [Nat.zero_add, Nat.one_mul]; (show _ = some (Value.int .i64 3)); go_simp), ⟨some ⟨w5.heap.size + 1 + 1 + 1, 0, none⟩, 3, (by simp only [Nat.zero_add, Nat.one_mul]; (show _ = some (Value.slice _ 3 3)); go_simp), ints3 (by go_simp) (by go_simp) (by go_simp)⟩, (by simp only [Nat.zero_add, Nat.one_mul]; (show _ = some (Value.int .i64 0)); go_simp)⟩
            | 2, _ => exact ⟨(by simp only [Nat.zero_add, Nat.reduceMul]; (show _ = some (Value.int .i64 1)); go_simp), ⟨some ⟨w5.heap.size + 1 + 1 + 1 + 1, 0, none⟩, 1, (by simp only [Nat.zero_add, Nat.reduceMul]; (show _ = some (Value.slice _ 1 1)); go_simp), ints1 (by go_simp)⟩, (by simp only [Nat.zero_add, Nat.reduceMul]; (show _ = some (Value.int .i64 0)); go_simp)⟩
            | 3, _ => exact ⟨(by simp only [Nat.zero_add, Nat.reduceMul]; (show _ = some (Value.int .i64 2)); go_simp), ⟨some ⟨w5.heap.size + 1 + 1 + 1 + 1 + 1, 0, none⟩, 2, (by simp only [Nat.zero_add, Nat.reduceMul]; (show _ = some (Value.slice _ 2 2)); go_simp), ints2 (by go_simp) (by go_simp)⟩, (by simp only [Nat.zero_add, Nat.reduceMul]; (show _ = some (Value.int .i64 0)); go_simp)⟩
            | 4, _ => exact ⟨(by simp only [Nat.zero_add, Nat.reduceMul]; (show _ = some (Value.int .i64 5)); go_simp), ⟨none, 0, (by simp only [Nat.zero_add, Nat.reduceMul]; (show _ = some (Value.slice none 0 0)); go_simp), ints_none _⟩, (by simp only [Nat.zero_add, Nat.reduceMul]; (show _ = some (Value.int .i64 0)); go_simp)⟩
            | n + 5, h => exact absurd h (by simp [prf1])
          rintro e w6 ⟨rfl, g6⟩
          have HG6 := Lib.hid g6
          clear g6 n0 n1
          go_wp2_with fail
          go_meet
          exact ⟨rfl, rfl, HG6.out⟩
        case rest =>
          obtain ⟨rfl, rfl, hg6⟩ := hcut
          obtain ⟨V6, hV6⟩ : ∃ z, z = wc := ⟨_, rfl⟩
          rw [← hV6] at hg6 ⊢
          clear hV6
          have HG6 := Lib.hid hg6
          have hw6 := HA.out.2.2.2.2.trans hg6
          clear hg6
          have HFC : Hid (∀ W, V3.grownBy W none → W.cell? ⟨b1, 0, none⟩ = some (.int .i64 2) ∧ W.cell? ⟨b1, 1, none⟩ = some (.slice ca 4 cc) ∧ W.cell? ⟨b2, 0, none⟩ = some (.int .i64 2) ∧ W.cell? ⟨b2, 1, none⟩ = some (.slice ma 2 mc)) := Lib.hid (fun W hg => ⟨hg.cell HP.out.1 (by simp), hg.cell HP.out.2.1 (by simp), hg.cell HP.out.2.2.1 (by simp), hg.cell HP.out.2.2.2 (by simp)⟩)
          have HRf : Hid (∀ W, V3.grownBy W none → Calls Tryz.prog 15 #[.agg #[.int .i64 2, .slice ca 4 cc], .slice none 0 0, .slice (some ⟨bp, 0, none⟩) 2 2] W fun e w' => e = .returned (.bool true) ∧ V3.grownBy w' none) := Lib.hid (fun W hg => by
            have := refutes_calls ⟨2, ca, cc, fullC, none, 0, [], W, 0⟩ prf0 (some ⟨bp, 0, none⟩) 2 W (inOk_mk (HA.out.1.grown hg) (clsw_nil _ _ _) (HA.out.2.2.1.grown hg) (show okB 2 fullC [] prf0 = true by decide +kernel))
            rw [show refB (Kst.fs ⟨2, ca, cc, fullC, none, 0, [], W, 0⟩) [] prf0 = true from hd_4] at this
            exact this.mono fun e w' ⟨e1, e2⟩ => ⟨e1, hg.trans e2⟩)
          have HRs : Hid (∀ W, V3.grownBy W none → Calls Tryz.prog 15 #[.agg #[.int .i64 2, .slice ma 2 mc], .slice none 0 0, .slice none 0 0] W fun e w' => e = .returned (.bool false) ∧ V3.grownBy w' none) := Lib.hid (fun W hg => by
            have := refutes_calls ⟨2, ma, mc, sameC, none, 0, [], W, 0⟩ [] none 0 W (inOk_mk (HA.out.2.1.grown hg) (clsw_nil _ _ _) (stepsw_nil _ _ _) (show okB 2 sameC [] [] = true by decide +kernel))
            rw [show refB (Kst.fs ⟨2, ma, mc, sameC, none, 0, [], W, 0⟩) [] [] = false from hd_5] at this
            exact this.mono fun e w' ⟨e1, e2⟩ => ⟨e1, hg.trans e2⟩)
          have HSy : Hid (∀ (W : World) (S : List Int) (sa : Option Addr) (sc n : Nat) (d : Bool), V3.grownBy W none → IntsW W sa sc S → S.length = n → n ≤ 2 → symB 2 sameC S = d → Calls Tryz.prog 17 #[.agg #[.int .i64 2, .slice ma 2 mc], .slice sa n sc] W fun e w' => e = .returned (.bool d) ∧ V3.grownBy w' none) := Lib.hid (fun W S sa sc n d hg hi h1 h2 h3 => by
            have := symValid_calls 2 sameC ma mc S sa sc W (HA.out.2.1.grown hg) hi (by decide) (by decide) (by decide) (by omega)
            rw [h1, show symB ((2 : Nat) : Int) sameC S = d from h3] at this
            exact this.mono fun e w' ⟨e1, e2⟩ => ⟨e1, hg.trans e2⟩)
          obtain ⟨y0, y1, y2, y3⟩ := HFC.out _ HG6.out
          go_wp2_with fail
          refine (HRf.out _ HG6.out).mono ?_
          rintro e w7 ⟨rfl, g7⟩
          have HG7 := Lib.hid g7
          obtain ⟨y0, y1, y2, y3⟩ := HFC.out _ g7
          clear g7
          go_wp2_with fail
          refine (HRs.out _ HG7.out).mono ?_
          rintro e w8 ⟨rfl, g8⟩
          have HG8 := Lib.hid g8
          obtain ⟨y0, y1, y2, y3⟩ := HFC.out _ g8
          clear g8
          go_wp2_with fail
          refine (HSy.out _ [2, 1] _ _ 2 _ (HG8.out.trans (World.grownBy_alloc _ _ none)) (ints2 (by go_simp) (by go_simp)) rfl (by decide) hd_6).mono ?_
          rintro e w9 ⟨rfl, g9⟩
          have HG9 := Lib.hid g9
          obtain ⟨y0, y1, y2, y3⟩ := HFC.out _ g9
          clear g9
          go_wp2_with fail
          refine (HSy.out _ [-1, -2] _ _ 2 _ (HG9.out.trans (World.grownBy_alloc _ _ none)) (ints2 (by go_simp) (by go_simp)) rfl (by decide) hd_7).mono ?_
          rintro e w10 ⟨rfl, g10⟩
          have HG10 := Lib.hid g10
          obtain ⟨y0, y1, y2, y3⟩ := HFC.out _ g10
          clear g10
          go_wp2_with fail
          refine (HSy.out _ [1, -2] _ _ 2 _ (HG10.out.trans (World.grownBy_alloc _ _ none)) (ints2 (by go_simp) (by go_simp)) rfl (by decide) hd_8).mono ?_
          rintro e w11 ⟨rfl, g11⟩
          have HG11 := Lib.hid g11
          obtain ⟨y0, y1, y2, y3⟩ := HFC.out _ g11
          clear g11
          go_wp2_with fail
          refine (HSy.out _ [1, 1] _ _ 2 _ (HG11.out.trans (World.grownBy_alloc _ _ none)) (ints2 (by go_simp) (by go_simp)) rfl (by decide) hd_9).mono ?_
          rintro e w12 ⟨rfl, g12⟩
          have HG12 := Lib.hid g12
          obtain ⟨y0, y1, y2, y3⟩ := HFC.out _ g12
          clear g12
          go_wp2_with fail
          refine (HSy.out _ [] none 0 0 _ HG12.out (ints_none _) rfl (by decide) hd_10).mono ?_
          rintro e w13 ⟨rfl, g13⟩
          have HGE := Lib.hid (HA.out.2.2.2.2.trans g13)
          clear g13
          go_wp2_with fail
          go_ret
          exact ⟨rfl, HGE.out⟩
end Go.Proofs.YtihaheinkpmnnaaGreat

namespace Go.Proofs.YtihaheinkpmnnaaGreat
set_option maxRecDepth 200000
open Go.RowKit
def smallB (V : Int) (C : List (List Int)) : Bool := decide (V ≤ 8) && decide (C.length ≤ 40) && C.all (fun c => decide (c.length ≤ 12)) && validB V C
set_option maxHeartbeats 4000000 in
theorem small_calls (V : Int) (C : List (List Int)) (ca : Option Addr) (cc : Nat) (w : World) (h : ClsW w ca cc C) :
    Calls Tryz.prog 11 #[.agg #[.int .i64 V, .slice ca C.length cc]] w fun e w' => e = .returned (.bool (smallB V C)) ∧ w.grownBy w' none := by
  obtain ⟨n, hn⟩ : ∃ n, C.length = n := ⟨_, rfl⟩
  obtain ⟨W1, hW1⟩ : ∃ z, w.alloc (.cells #[.int .i64 V, .slice ca n cc] 24) = z := ⟨_, rfl⟩
  obtain ⟨q0, q1, hg1⟩ := box_at w _ _ hW1
  have HH := Lib.hid (And.intro (h.grown hg1) (And.intro trivial (And.intro hn hg1)))
  rw [hn]
  obtain ⟨bf, hbf⟩ : ∃ z, w.heap.size = z := ⟨_, rfl⟩
  rw [hbf] at q0 q1
  obtain ⟨d, hd⟩ : ∃ d, smallB V C = d := ⟨_, rfl⟩
  rw [hd]
  have HD := Lib.hid hd
  clear h hn hg1 hd
  by_cases hv : 8 < V
  · have g0 : decide (8 < V) = true := decide_eq_true hv
    have HR : Hid (d = false) := Lib.hid (by rw [← HD.out]; unfold smallB; rw [decide_eq_false (by omega : ¬ V ≤ 8)]; rfl)
    go_enter Tryz.func11, Tryz.ntmps11
    go_wp2_with fail
    go_ret
    exact ⟨by rw [HR.out]; rfl, HH.out.2.2.2⟩
  have g0 : decide (8 < V) = false := decide_eq_false hv
  by_cases hc : 40 < n
  · have g1 : decide ((40 : Int) < (n : Int)) = true := decide_eq_true (by omega)
    have g1' : decide (40 < n) = true := decide_eq_true (by omega)
    have HR : Hid (d = false) := Lib.hid (by rw [← HD.out]; unfold smallB; rw [HH.out.2.2.1, decide_eq_false (by omega : ¬ n ≤ 40), Bool.and_false]; rfl)
    go_enter Tryz.func11, Tryz.ntmps11
    go_wp2_with fail
    go_ret
    exact ⟨by rw [HR.out]; rfl, HH.out.2.2.2⟩
  have g1 : decide ((40 : Int) < (n : Int)) = false := decide_eq_false (by omega)
  have g1' : decide (40 < n) = false := decide_eq_false (by omega)
  go_enter Tryz.func11, Tryz.ntmps11
  go_wp2_with fail
  clear hW1
  go_loopg [3] n (fun gk s3 w' => ∃ k : Nat, s3 = .int .i64 (k : Int) ∧ gk = n - k ∧ k ≤ n ∧ w' = W1 ∧ (C.take k).all (fun c => decide (c.length ≤ 12)) = true)
  case atStart => exact ⟨0, rfl, rfl, by omega, rfl, by simp⟩
  case round =>
    obtain ⟨k, rfl, hgk, hk, rfl, hbef⟩ := hrel
    have HI := Lib.hid (And.intro hgk hbef)
    clear hgk hbef
    by_cases hkn : k < n
    · have f1 : decide ((k : Int) < (n : Int)) = true := decide_eq_true (by omega)
      have f1' : decide (k < n) = true := decide_eq_true hkn
      have i0 : (0 : Int) ≤ (k : Int) := by omega
      have i1 : (k : Int) < (n : Int) := by omega
      have k1 : IntKind.i64.wrap ((k : Int) + 1) = (k : Int) + 1 := IntWalk.i64_in _ (by omega)
      obtain ⟨z, hz⟩ : ∃ z, C[k]? = some z := ⟨_, List.getElem?_eq_getElem (by rw [HH.out.2.2.1]; exact hkn)⟩
      obtain ⟨b, o, a', c', rfl, hcell, hints⟩ := HH.out.1.at hz
      have HZ := Lib.hid hz
      clear hz hints
      obtain ⟨l, hl⟩ : ∃ l, z.length = l := ⟨_, rfl⟩
      rw [hl] at hcell
      have HLL := Lib.hid hl
      clear hl
      by_cases hl12 : 12 < l
      · have t1 : decide ((12 : Int) < (l : Int)) = true := decide_eq_true (by omega)
        have t1' : decide (12 < l) = true := decide_eq_true hl12
        have HR : Hid (d = false) := Lib.hid (by rw [← HD.out]; unfold smallB; rw [all_no (List.mem_of_getElem? HZ.out) (show decide (z.length ≤ 12) = false from by rw [HLL.out]; exact decide_eq_false (by omega)), Bool.and_false]; rfl)
        go_wp2_with fail
        go_ret
        exact ⟨by rw [HR.out]; rfl, HH.out.2.2.2⟩
      · have t1 : decide ((12 : Int) < (l : Int)) = false := decide_eq_false (by omega)
        have t1' : decide (12 < l) = false := decide_eq_false hl12
        have HN : Hid ((C.take (k + 1)).all (fun c => decide (c.length ≤ 12)) = true) := Lib.hid (by rw [ctake HZ.out, HI.out.2, Bool.true_and, HLL.out]; exact decide_eq_true (by omega))
        go_wp2_with fail
        go_roundg (n - (k + 1))
        case measure => rw [HI.out.1]; omega
        case rel => exact ⟨k + 1, rfl, rfl, by omega, rfl, HN.out⟩
    · have hke : k = n := by omega
      subst hke
      have f1 : decide (k < k) = false := by simp
      have HV := Lib.hid (valid_calls V C ca cc wr HH.out.1 (by omega) (by rw [HH.out.2.2.1]; omega) (fun c hc => by have h1 := HI.out.2; rw [← HH.out.2.2.1, List.take_length] at h1; have := of_decide_eq_true (List.all_eq_true.1 h1 c hc); omega))
      rw [HH.out.2.2.1] at HV
      have HR : Hid (d = validB V C) := Lib.hid (by rw [← HD.out]; unfold smallB; have := HI.out.2; rw [← HH.out.2.2.1, List.take_length] at this; rw [this, HH.out.2.2.1, decide_eq_true (by omega : V ≤ 8), decide_eq_true (by omega : k ≤ 40)]; rfl)
      go_wp2_with fail
      refine HV.out.mono ?_
      rintro e w2 ⟨rfl, hg2⟩
      have HG2 := Lib.hid hg2
      clear hg2 HV q0 q1
      go_wp2_with fail
      go_ret
      exact ⟨by rw [HR.out]; rfl, World.grownBy.trans HH.out.2.2.2 HG2.out⟩
end Go.Proofs.YtihaheinkpmnnaaGreat

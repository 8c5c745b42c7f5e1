/- The reference lexer's loop answers what the plain function says; the laws' helpers. -/
import Derived.Test.YtmcokfalkkjgmaaDoorK
namespace Go.Proofs.YtmcokfalkkjgmaaDoor
open Go.RowKit

theorem cell_three_new' (w : World) (o : Obj) (x y z : Value) (t : TypeId) : ∀ j u, [x, y, z][j]? = some u → ((w.alloc o).alloc (.cells #[x, y, z] t)).cell? ((⟨w.heap.size + 1, 0, none⟩ : Addr).add j) = some u := by
  have := cell_three_new (w.alloc o) x y z t
  have e : (w.alloc o).heap.size = w.heap.size + 1 := by simp
  rw [e] at this; exact this

set_option maxHeartbeats 1000000 in
theorem refLex_calls (s : ByteArray) (w : World) (hs : s.size ≤ maxLen) : Calls Tryd.prog 14 #[.string s] w (LexPost w s) := by
  have HS := Lib.hid hs
  by_cases hbig : 20000 < s.size
  · have hbI : (20000 : Int) < (s.size : Int) := by omega
    unfold maxLen at hs
    go_enter Tryd.func14, Tryd.ntmps14
    go_wp2
    go_ret3
    exact ⟨grown_refl _ _, .inl ⟨hbig, rfl⟩⟩
  · have hbI : ¬ (20000 : Int) < (s.size : Int) := by omega
    have hbB : decide ((20000 : Int) < (s.size : Int)) = false := by simp; omega
    unfold maxLen at hs
    obtain ⟨i0, hi, hz0, hz1, hz2⟩ := info_parts info31
    go_enter Tryd.func14, Tryd.ntmps14
    go_wp2_with fail
    have hown0 : (w.alloc (.cells #[] 31)).ownsRow w.heap.size 31 3 (.slice (some ⟨w.heap.size, 0, none⟩) 0 0) 0 (toks s []) := World.ownsRow_made w #[] 0 (Nat.le_refl _) (by simp [maxLen]) rfl
    have hg0 : w.grownBy (w.alloc (.cells #[] 31)) none := World.grownBy_alloc _ _ _
    obtain ⟨w1, hw1⟩ : ∃ w1, w.alloc (.cells #[] 31) = w1 := ⟨_, rfl⟩
    rw [hw1] at hown0 hg0 ⊢
    clear hw1
    refine (refGap_calls s 0 w1 HS.out (Nat.zero_le _)).mono ?_
    rintro e w2 ⟨rfl, rfl⟩
    have b1 := skipEnd_bd (Nat.zero_le s.size)
    have HO := Lib.hid hown0; clear hown0
    have HG := Lib.hid hg0; clear hg0
    go_wp2_with fail
    go_loopg [5, 6] (s.size + 1 - skipEnd s 0) (fun g s5 s6 wr => ∃ (j : Nat) (l : List Tok), s6 = .int .i64 (j : Int) ∧ g = s.size + 1 - j ∧ j ≤ s.size ∧ lex s = pre l (lexFrom s j) ∧ wr.ownsRow w.heap.size 31 3 s5 l.length (toks s l) ∧ w.grownBy wr none ∧ l.length ≤ j)
    case atStart => exact ⟨skipEnd s 0, [], rfl, rfl, b1.2, by rw [pre_nil]; rfl, HO.out, HG.out, by simp⟩
    case round =>
      clear HG HO b1
      obtain ⟨j, l, rfl, hgk, hj, hlex, hown, hgr, hlj⟩ := hrel
      have HGK := Lib.hid hgk; clear hgk
      have HL := Lib.hid hlex; clear hlex
      have HO := Lib.hid hown; clear hown
      have hszr : w.heap.size ≤ wr.heap.size := hgr.size
      have HG := Lib.hid hgr; clear hgr
      by_cases hjs : j < s.size
      · have hjI : decide ((j : Int) < (s.size : Int)) = true := by simp; omega
        have hte := tokEnd_le hjs
        go_wp2_with fail
        refine (refOne_calls s j wr (by omega) hjs).mono ?_
        rintro e w2 ⟨rfl, hg2⟩
        have HO2 := Lib.hid (HO.out.kept hg2 (by cases hv : u5.ownBlock <;> simp))
        have HG2 := Lib.hid (HG.out.trans hg2)
        have hszr2 : w.heap.size ≤ w2.heap.size := Nat.le_trans hszr hg2.size
        clear hg2 HO HG
        have hm := tokEnd_gt hjs
        obtain ⟨m, hem⟩ : ∃ m, tokEnd s j = m := ⟨_, rfl⟩
        obtain ⟨kd, hkd⟩ : ∃ kd, tokKind s j = kd := ⟨_, rfl⟩
        rw [hkd, hem]
        rw [hem] at hm hte
        have HE := Lib.hid hem; clear hem
        have HK := Lib.hid hkd; clear hkd
        obtain ⟨x, hx⟩ : ∃ x, s.extract j m = x := ⟨_, rfl⟩
        have hxs : x.size = m - j := by rw [← hx, ByteArray.size_extract]; omega
        rw [hx]
        cases ho : tokOk s j
        · have HOK := Lib.hid ho; clear ho hm
          have HX := Lib.hid (And.intro hx hxs); clear hx hxs
          go_wp2
          go_ret3
          refine ⟨HG2.out.trans (World.grownBy_alloc _ _ _), .inr ⟨by omega, .inl ⟨j, ?_, rfl⟩⟩⟩
          rw [HL.out, lexFrom_err hjs HOK.out]; rfl
        · have hm := hm ho
          have HOK := Lib.hid ho; clear ho
          have hadd : (j : Int) + (x.size : Int) = (m : Int) := by omega
          have hx1 : (x.size : Int) ≤ 20000 := by omega
          have HX := Lib.hid hx; clear hx hxs
          have HADD := Lib.hid hadd; clear hadd
          go_wp2_with (at_builtin; refine wpList_append_own _ rfl _ _ 24 rfl w.heap.size 31 i0 (.agg #[.int .i64 0, .string ByteArray.empty, .int .i64 0]) 3 32 Tryd.underlying24 hi hz0 hz1 hz2 rfl (by decide) _ _ _ ?e1 ((HO2.out.alloc _).alloc _) ⟨w2.heap.size + 1, 0, none⟩ 1 1 [.int .i64 (kd : Nat), .string x, .int .i64 (j : Nat)] ?e2 ?e3 ?e4 ?e5 ?e6 ?e7 ?e8 ?e9)
          case e1 => rfl
          case e2 => rfl
          case e3 => rfl
          case e4 => exact cell_three_new' _ _ _ _ _ _
          case e5 => intro u hu; simp at hu; rcases hu with rfl | rfl | rfl <;> rfl
          case e6 => unfold maxLen; omega
          case e7 => omega
          case e8 => simp; omega
          case e9 =>
            intro v' w3 hown' hgrow3 hnil3
            have hg3 : w.grownBy w3 none := grown_own ((HG2.out.trans (World.grownBy_alloc _ _ none)).trans (World.grownBy_alloc _ _ none)) hgrow3 (fun k hk => (HO2.out.lt k hk).1)
            have b2 := skipEnd_bd (s := s) (k := m) (by omega)
            have hbx : w3.cell? ⟨w2.heap.size, 1, none⟩ = some (.string x) := by
              have hlt : w2.heap.size < ((w2.alloc (.cells #[.int .i64 (kd : Nat), .string x, .int .i64 (j : Nat)] 31)).alloc (.cells #[.int .i64 (kd : Nat), .string x, .int .i64 (j : Nat)] 31)).heap.size := by simp; omega
              have hne : u5.ownBlock ≠ some w2.heap.size := by
                cases hv : u5.ownBlock with
                | none => simp
                | some k => have := (HO2.out.lt k hv).2; simp; omega
              refine (hgrow3.cell (a := ⟨w2.heap.size, 1, none⟩) (v := .string x) ?_ (fun e => hne e.symm))
              simp
            have HG3 := Lib.hid hg3; clear hg3
            have HO3 := Lib.hid hown'; clear hown' hgrow3 hnil3
            have HB := Lib.hid b2; clear b2
            go_wp2_with fail
            rw [HADD.out]
            refine (refGap_calls s m w3 HS.out (by omega)).mono ?_
            rintro e w4 ⟨rfl, rfl⟩
            have b2 := HB.out
            go_wp2
            go_roundg (s.size + 1 - skipEnd s m)
            case measure => rw [HGK.out]; omega
            case rel =>
              refine ⟨skipEnd s m, l ++ [tokAt s j], rfl, rfl, b2.2, ?_, ?_, HG3.out, by simp; omega⟩
              · rw [HL.out, lexFrom_tok hjs HOK.out, pre_pre, HE.out]
              · have h := HO3.out
                have e : tokAt s j = ⟨kd, j, m⟩ := by rw [tokAt, HE.out, HK.out]
                have e2 : (⟨kd, j, m⟩ : Tok).cells s = [.int .i64 (kd : Nat), .string x, .int .i64 (j : Nat)] := by rw [← HX.out]; rfl
                rw [e, toks_snoc, List.length_append, e2]
                exact h
      · have hjI : decide ((j : Int) < (s.size : Int)) = false := by simp; omega
        go_wp2
        go_ret3
        refine ⟨HG.out, .inr ⟨by omega, .inr ⟨l, _, ?_, rfl, ?_⟩⟩⟩
        · rw [HL.out, lexFrom_end hjs]; simp [pre]
        · exact HO.out
end Go.Proofs.YtmcokfalkkjgmaaDoor

/- The law LexerLimit, walked. -/
import Derived.Test.YtmcokfalkkjgmaaDoorAl
namespace Go.Proofs.YtmcokfalkkjgmaaDoor
open Go.RowKit

theorem info5 : (Tryd.prog.info? 5).map (fun i => (i.zero, i.size, i.bytes)) = some (some (.int .u8 0), 1, 1) := by kernel_rfl
theorem feeds_snoc (m : Nat) : feeds m ++ [.int .u8 10] = feeds (m + 1) := by simp [feeds, List.replicate_succ']

set_option maxRecDepth 100000 in
set_option maxHeartbeats 2000000 in
theorem limit_calls (s0 : ByteArray) (more : Nat) (w : World) (hs : s0.size ≤ maxLen) (hm : more < 256) (hy : SymsAt w) :
    Calls Tryd.prog 10 #[.string s0, .int .u8 (more : Int)] w fun e w' => e = .returned (.bool true) ∧ Kept w w' := by
  have HS := Lib.hid hs
  have hta := fewS_size s0
  obtain ⟨i0, hi0, hz0, hz1, hz2⟩ := info_parts info5
  go_enter Tryd.func10, Tryd.ntmps10
  go_wp2_with fail
  refine (head_calls w hy).mono ?_
  rintro e w1 ⟨rfl, g1⟩
  have hy1 := hy.grown0 g1
  go_wp2_with fail
  refine (few_calls s0 w1 HS.out).mono ?_
  rintro e w2 ⟨rfl, rfl⟩
  obtain ⟨a, hea⟩ : ∃ t, fewS s0 = t := ⟨_, rfl⟩
  rw [hea] at hta ⊢
  have HEA := Lib.hid hea
  obtain ⟨C, W, hC1, hC2, hconv, hbuf⟩ := buf_start w1 a (by unfold maxLen; omega)
  have HG1 := Lib.hid g1
  have HY1 := Lib.hid hy1
  clear hea hs hy g1 hy1
  have HTA := Lib.hid hta
  have HC2 := Lib.hid hC2; clear hC2
  have HB := Lib.hid hbuf; clear hbuf
  go_wp2_with fail
  clear hconv
  go_loopg [6] (20000 - a.size) (fun g s6 wr => ∃ (N : Nat) (a' : Option Addr) (c' : Nat), s6 = .slice a' N c' ∧ g = 20000 - N ∧ a.size ≤ N ∧ N ≤ 20000 ∧ Buf w1 W C a wr (.slice a' N c') (N - a.size))
  case atStart => exact ⟨a.size, _, C, rfl, rfl, Nat.le_refl _, by omega, by rw [Nat.sub_self]; exact HB.out⟩
  case round =>
    obtain ⟨N, a', c', rfl, hg, hN1, hN2, hb⟩ := hrel
    have HGK := Lib.hid hg; clear hg
    have HBB := Lib.hid hb; clear hb
    by_cases hN : N < 20000
    · have hNB : decide ((N : Int) < 20000) = true := by simp; omega
      obtain ⟨r, hu⟩ := HBB.out.upon
      have HU := Lib.hid hu; clear hu
      go_wp2_with (at_builtin; refine wpList_append_upon _ rfl _ _ 32 32 rfl HB.out.came i0 (.int .u8 0) 1 Tryd.underlying32 hi0 hz0 hz1 hz2 rfl ?e1 (HU.out.alloc HB.out.came _) (.slice (some ⟨wr.heap.size, 0, none⟩) 1 1) 1 [.int .u8 10] ?e2 ?e3 ?e4 ?e5 ?e6)
      case e1 => rfl
      case e2 => rfl
      case e3 => exact Src.ofSlice _ Tryd.underlying32 ⟨wr.heap.size, 0, none⟩ 1 1 [.int .u8 10] rfl (cell_one_new _ _ _) (fun u hu => by simp at hu; subst hu; rfl)
      case e4 => unfold maxLen; omega
      case e5 => omega
      case e6 =>
        intro v' w3 hu'
        have hsh := hu'.shape
        rw [show a.size + (N - a.size + 1) = N + 1 by omega] at hsh
        obtain ⟨a2, c2, hv2⟩ := hsh
        rw [hv2] at hu' ⊢
        rw [feeds_snoc, show N - a.size + 1 = N + 1 - a.size by omega] at hu'
        have HB3 : Hid (Buf w1 W C a w3 (.slice a2 (N + 1) c2) (N + 1 - a.size)) := ⟨HB.out.came, HB.out.first, _, hu'⟩
        clear hu' hv2
        go_wp2
        go_roundg (20000 - (N + 1))
        case measure => rw [HGK.out]; omega
        case rel => exact ⟨N + 1, a2, c2, rfl, rfl, by omega, by omega, HB3.out⟩
    · have hNe : N = 20000 := by omega
      subst hNe
      have hcv := HBB.out.text HC2.out (by omega)
      obtain ⟨M, hM⟩ : ∃ M, 20000 - a.size = M := ⟨_, rfl⟩
      have hMp : a.size + M = 20000 ∧ 0 < M := by omega
      obtain ⟨gb, ob, cb, hv, hgb1, hgb2, hcb, hcame⟩ := HBB.out.tail HC2.out (by omega)
      rw [hM] at hcv hcame
      have HMP := Lib.hid hMp; clear hMp
      injection hv with hv1 hv2 hv3
      subst hv1; subst hv3
      have HCAME := Lib.hid (And.intro hgb1 (And.intro hgb2 (And.intro hcb hcame))); clear hgb1 hgb2 hcb hcame hv2
      have HKW := Lib.hid HBB.out.kept
      clear HBB HGK HB hM
      have hTs : (buf a M).size = 20000 := by rw [buf_size]; exact HMP.out.1
      obtain ⟨T, hT⟩ : ∃ T, buf a M = T := ⟨_, rfl⟩
      rw [hT] at hcv hTs
      have HT := Lib.hid hT; clear hT
      go_wp2_with fail
      clear hcv
      refine (lex_calls T wr (by unfold maxLen; omega) (HKW.out.syms HY1.out)).mono ?_
      rintro e w4 h4
      cases hl : lex a with
      | error j =>
        have hlT : lex T = .error j := by rw [← HT.out]; exact buf_err hl
        obtain ⟨rfl, g4⟩ := lex_err (by omega) hlT h4
        have HL := Lib.hid hl; clear hl h4 hlT
        go_wp2_with fail
        refine (few_calls s0 w4 HS.out).mono ?_
        rintro e w5 ⟨rfl, rfl⟩
        rw [HEA.out]
        have HG4 := Lib.hid g4; clear g4
        go_wp2_with fail
        refine (lex_calls a w4 (by have := HTA.out; unfold maxLen; omega) ((HKW.out.syms HY1.out).grown0 HG4.out)).mono ?_
        rintro e w5 h5
        obtain ⟨rfl, g5⟩ := lex_err (by have := HTA.out; omega) HL.out h5
        have HG5 := Lib.hid (HG4.out.trans g5); clear g5 h5 HL
        have HTL := Lib.hid (Tail.start (came_grown HCAME.out.2.2.2 HG5.out))
        go_wp2
        go_loopg [6, 13] 256 (fun g s6 s13 wl => ∃ (i k : Nat) (aq : Option Addr) (cq : Nat), s13 = .int .i64 (i : Int) ∧ s6 = .slice aq (20000 + k) cq ∧ g = 256 - i ∧ i ≤ 256 ∧ k ≤ i ∧ (0 < i → 0 < k) ∧ Tail w5 gb ob 20000 c' (olds a ++ feeds M) wl (.slice aq (20000 + k) cq) k)
        case atStart => exact ⟨0, 0, _, _, rfl, rfl, rfl, by omega, by omega, by omega, by have := HTL.out; rw [HMP.out.1] at this; exact this⟩
        case round =>
          obtain ⟨i, k, aq, cq, rfl, rfl, hgi, hi, hki, hk0, htl⟩ := hrel
          have HGI := Lib.hid hgi; clear hgi
          have HTT := Lib.hid htl; clear htl
          by_cases hil : i < 256
          · have hiB : decide (i < 256) = true := by simp; omega
            by_cases him : i ≤ more
            · have hmB : decide (i ≤ more) = true := by simp; omega
              obtain ⟨r, hu⟩ := HTT.out.upon
              have HU := Lib.hid hu; clear hu
              have HCM := Lib.hid HTT.out.came
              go_wp2_with (at_builtin; refine wpList_append_upon _ rfl _ _ 32 32 rfl HCM.out i0 (.int .u8 0) 1 Tryd.underlying32 hi0 hz0 hz1 hz2 rfl ?f1 (HU.out.alloc HCM.out _) (.slice (some ⟨wr.heap.size, 0, none⟩) 1 1) 1 [.int .u8 10] ?f2 ?f3 ?f4 ?f5 ?f6)
              case f1 => rfl
              case f2 => rfl
              case f3 => exact Src.ofSlice _ Tryd.underlying32 ⟨wr.heap.size, 0, none⟩ 1 1 [.int .u8 10] rfl (cell_one_new _ _ _) (fun u hu => by simp at hu; subst hu; rfl)
              case f4 => unfold maxLen; omega
              case f5 => omega
              case f6 =>
                intro v' w3 hu'
                have hsh := hu'.shape
                rw [show 20000 + (k + 1) = 20000 + (k + 1) from rfl] at hsh
                obtain ⟨a2, c2, hv2⟩ := hsh
                rw [hv2] at hu' ⊢
                rw [feeds_snoc] at hu'
                have HB3 : Hid (Tail w5 gb ob 20000 c' (olds a ++ feeds M) w3 (.slice a2 (20000 + (k + 1)) c2) (k + 1)) := ⟨HCM.out, _, hu'⟩
                clear hu' hv2
                go_wp2
                go_roundg (256 - (i + 1))
                case measure => rw [HGI.out]; omega
                case rel => exact ⟨i + 1, k + 1, a2, c2, rfl, rfl, rfl, by omega, by omega, fun _ => by omega, HB3.out⟩
            · have hmB : decide (i ≤ more) = false := by simp; omega
              go_wp2
              go_roundg (256 - (i + 1))
              case measure => rw [HGI.out]; omega
              case rel => exact ⟨i + 1, k, aq, cq, rfl, rfl, rfl, by omega, by omega, fun _ => by omega, HTT.out⟩
          · have hiE : i = 256 := by omega
            subst hiE
            have hcv2 := HTT.out.text HMP.out.1.symm HCAME.out.2.2.1 (by omega)
            have hTs2 : 20000 < (buf a (M + k)).size := by rw [buf_size]; have := HMP.out.1; omega
            have hTs3 : (buf a (M + k)).size ≤ maxLen := by rw [buf_size]; have := HMP.out.1; unfold maxLen; omega
            obtain ⟨T2, hT2⟩ : ∃ T2, buf a (M + k) = T2 := ⟨_, rfl⟩
            rw [hT2] at hcv2 hTs2 hTs3
            clear hT2
            have HKL := Lib.hid (HTT.out.kept (Kept.trans HKW.out (Kept.of HG5.out)) HCAME.out.1)
            have HTs := Lib.hid (And.intro hTs2 hTs3); clear hTs2 hTs3
            go_wp2_with fail
            clear hcv2
            refine (lex_calls T2 wr HTs.out.2 (HKL.out.syms HY1.out)).mono ?_
            rintro e w6 h6
            obtain ⟨rfl, g6⟩ := lex_big HTs.out.1 h6
            have HK6 := Lib.hid (Kept.trans HKL.out (Kept.of g6)); clear h6
            go_wp2_with fail
            refine (same_zero w6 none none 0 0).mono ?_
            rintro e w7 ⟨rfl, n7, rfl⟩
            go_wp2
            go_ret
            exact ⟨rfl, Kept.trans (Kept.of HG1.out) (Kept.trans HK6.out (Kept.of (grown_drewN _ _ _)))⟩
      | ok l =>
        have hlT : lex T = .ok l ∧ toks T l = toks a l := by rw [← HT.out]; exact buf_ok hl
        have hln : l.length ≤ 20000 := by have h1 := lex_len hl; have h2 := HTA.out; omega
        obtain ⟨n, hn⟩ : ∃ n, l.length = n := ⟨_, rfl⟩
        obtain ⟨v, rfl, r4, g4⟩ := lex_ok4 (by omega) hlT.1 h4
        obtain ⟨al, cl, hv4⟩ := r4.slice
        rw [hn] at hv4
        subst hv4
        have HL := Lib.hid (And.intro hl (And.intro hlT.2 (And.intro hn hln))); clear hl h4 hlT hn hln
        have R4 := Lib.hid r4; clear r4
        go_wp2_with fail
        refine (few_calls s0 w4 HS.out).mono ?_
        rintro e w5 ⟨rfl, rfl⟩
        rw [HEA.out]
        have HG4 := Lib.hid g4; clear g4
        go_wp2_with fail
        refine (lex_calls a w4 (by have := HTA.out; unfold maxLen; omega) ((HKW.out.syms HY1.out).grown0 HG4.out)).mono ?_
        rintro e w5 h5
        obtain ⟨v, rfl, r5, g5⟩ := lex_ok4 (by have := HTA.out; omega) HL.out.1 h5
        obtain ⟨am, cm, hv5⟩ := r5.slice
        rw [HL.out.2.2.1] at hv5
        subst hv5
        have HR := Lib.hid (And.intro (R4.out.grown g5) (r5.down HG4.out.size)); clear R4 r5
        have HG5 := Lib.hid (HG4.out.trans g5); clear g5 h5
        have HTL := Lib.hid (Tail.start (came_grown HCAME.out.2.2.2 HG5.out))
        go_wp2
        go_loopg [6, 13] 256 (fun g s6 s13 wl => ∃ (i k : Nat) (aq : Option Addr) (cq : Nat), s13 = .int .i64 (i : Int) ∧ s6 = .slice aq (20000 + k) cq ∧ g = 256 - i ∧ i ≤ 256 ∧ k ≤ i ∧ (0 < i → 0 < k) ∧ Tail w5 gb ob 20000 c' (olds a ++ feeds M) wl (.slice aq (20000 + k) cq) k)
        case atStart => exact ⟨0, 0, _, _, rfl, rfl, rfl, by omega, by omega, by omega, by have := HTL.out; rw [HMP.out.1] at this; exact this⟩
        case round =>
          obtain ⟨i, k, aq, cq, rfl, rfl, hgi, hi, hki, hk0, htl⟩ := hrel
          have HGI := Lib.hid hgi; clear hgi
          have HTT := Lib.hid htl; clear htl
          by_cases hil : i < 256
          · have hiB : decide (i < 256) = true := by simp; omega
            by_cases him : i ≤ more
            · have hmB : decide (i ≤ more) = true := by simp; omega
              obtain ⟨r, hu⟩ := HTT.out.upon
              have HU := Lib.hid hu; clear hu
              have HCM := Lib.hid HTT.out.came
              go_wp2_with (at_builtin; refine wpList_append_upon _ rfl _ _ 32 32 rfl HCM.out i0 (.int .u8 0) 1 Tryd.underlying32 hi0 hz0 hz1 hz2 rfl ?f1 (HU.out.alloc HCM.out _) (.slice (some ⟨wr.heap.size, 0, none⟩) 1 1) 1 [.int .u8 10] ?f2 ?f3 ?f4 ?f5 ?f6)
              case f1 => rfl
              case f2 => rfl
              case f3 => exact Src.ofSlice _ Tryd.underlying32 ⟨wr.heap.size, 0, none⟩ 1 1 [.int .u8 10] rfl (cell_one_new _ _ _) (fun u hu => by simp at hu; subst hu; rfl)
              case f4 => unfold maxLen; omega
              case f5 => omega
              case f6 =>
                intro v' w3 hu'
                have hsh := hu'.shape
                rw [show 20000 + (k + 1) = 20000 + (k + 1) from rfl] at hsh
                obtain ⟨a2, c2, hv2⟩ := hsh
                rw [hv2] at hu' ⊢
                rw [feeds_snoc] at hu'
                have HB3 : Hid (Tail w5 gb ob 20000 c' (olds a ++ feeds M) w3 (.slice a2 (20000 + (k + 1)) c2) (k + 1)) := ⟨HCM.out, _, hu'⟩
                clear hu' hv2
                go_wp2
                go_roundg (256 - (i + 1))
                case measure => rw [HGI.out]; omega
                case rel => exact ⟨i + 1, k + 1, a2, c2, rfl, rfl, rfl, by omega, by omega, fun _ => by omega, HB3.out⟩
            · have hmB : decide (i ≤ more) = false := by simp; omega
              go_wp2
              go_roundg (256 - (i + 1))
              case measure => rw [HGI.out]; omega
              case rel => exact ⟨i + 1, k, aq, cq, rfl, rfl, rfl, by omega, by omega, fun _ => by omega, HTT.out⟩
          · have hiE : i = 256 := by omega
            subst hiE
            have hcv2 := HTT.out.text HMP.out.1.symm HCAME.out.2.2.1 (by omega)
            have hTs2 : 20000 < (buf a (M + k)).size := by rw [buf_size]; have := HMP.out.1; omega
            have hTs3 : (buf a (M + k)).size ≤ maxLen := by rw [buf_size]; have := HMP.out.1; unfold maxLen; omega
            obtain ⟨T2, hT2⟩ : ∃ T2, buf a (M + k) = T2 := ⟨_, rfl⟩
            rw [hT2] at hcv2 hTs2 hTs3
            clear hT2
            have HR2 := Lib.hid (And.intro (HR.out.1.tail HTT.out HCAME.out.2.1) (HR.out.2.tail HTT.out HCAME.out.2.1))
            have HKL := Lib.hid (HTT.out.kept (Kept.trans HKW.out (Kept.of HG5.out)) HCAME.out.1)
            have HTs := Lib.hid (And.intro hTs2 hTs3); clear hTs2 hTs3
            go_wp2_with fail
            clear hcv2
            refine (lex_calls T2 wr HTs.out.2 (HKL.out.syms HY1.out)).mono ?_
            rintro e w6 h6
            obtain ⟨rfl, g6⟩ := lex_big HTs.out.1 h6
            have HK6 := Lib.hid (Kept.trans HKL.out (Kept.of g6)); clear h6
            go_wp2_with fail
            refine (same_reads (HR2.out.1.grown g6).reads (HR2.out.2.grown g6).reads HL.out.2.1 HL.out.2.2.2).mono ?_
            rintro e w7 ⟨rfl, n7, rfl⟩
            go_wp2
            go_ret
            exact ⟨rfl, Kept.trans (Kept.of HG1.out) (Kept.trans HK6.out (Kept.of (grown_drewN _ _ _)))⟩
end Go.Proofs.YtmcokfalkkjgmaaDoor

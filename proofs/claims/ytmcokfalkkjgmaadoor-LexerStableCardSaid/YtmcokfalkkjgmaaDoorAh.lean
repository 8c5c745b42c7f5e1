/- The law LexerStable, walked. -/
import Derived.Test.YtmcokfalkkjgmaaDoorAg
namespace Go.Proofs.YtmcokfalkkjgmaaDoor
open Go.RowKit

set_option maxRecDepth 100000 in
set_option maxHeartbeats 2000000 in
theorem stable_calls (s0 : ByteArray) (ra : Option Addr) (rn rc : Nat) (zs : List Nat) (w : World) (hs : s0.size ≤ maxLen)
    (hz : zs.length = rn) (hzb : ∀ z ∈ zs, z < 256) (hrl : (rn : Int) ≤ 9223372036854775807) (hr : ∀ j z : Nat, zs[j]? = some z → ∃ b o, ra = some ⟨b, o, none⟩ ∧ w.cell? ⟨b, o + j, none⟩ = some (.int .u8 (z : Int))) (hy : SymsAt w) :
    Calls Tryd.prog 5 #[.string s0, .slice ra rn rc] w fun e w' => e = .returned (.bool true) ∧ w.grownBy w' none := by
  have HR := Lib.hid (And.intro hz (And.intro hzb hr)); clear hz hzb hr
  have HS := Lib.hid hs
  have ht := fewS_size s0
  go_enter Tryd.func5, Tryd.ntmps5
  go_wp2_with fail
  refine (head_calls w hy).mono ?_
  rintro e w1 ⟨rfl, g1⟩
  have hy1 := hy.grown0 g1
  go_wp2_with fail
  refine (few_calls s0 w1 HS.out).mono ?_
  rintro e w2 ⟨rfl, rfl⟩
  obtain ⟨s, het⟩ : ∃ t, fewS s0 = t := ⟨_, rfl⟩
  rw [het] at ht ⊢
  clear het hs
  have HT := Lib.hid ht
  go_wp2_with fail
  refine (lex_calls s w1 (by have := HT.out; unfold maxLen; omega) hy1).mono ?_
  rintro e w2 h2
  have HY := Lib.hid (hy1.grown0 h2.1)
  have HG := Lib.hid (g1.trans h2.1)
  clear g1 hy1 hy
  cases hl : lex s with
  | error j =>
    obtain ⟨rfl, _⟩ := lex_err (by omega) hl h2
    clear hl h2
    go_wp2
    go_ret
    exact ⟨rfl, HG.out⟩
  | ok l =>
    obtain ⟨v, rfl, _, rl, _⟩ := lex_ok2 (by omega) hl h2
    obtain ⟨al, cl, rfl⟩ := rl.slice
    have hgood := chain_good l 0 (Nat.zero_le _) (chain_lex hl)
    have hll := lex_len hl
    have HGD := Lib.hid hgood
    have RL := Lib.hid rl
    clear hl h2 hgood rl
    obtain ⟨n, hn⟩ : ∃ n, l.length = n := ⟨_, rfl⟩
    rw [hn] at hll ⊢
    have HN := Lib.hid hn; clear hn
    go_wp2_with fail
    have hg0 : w2.grownBy (w2.alloc (.cells #[.string ⟨#[32]⟩, .string ⟨#[10]⟩, .string ⟨#[32, 9, 13, 10]⟩, .string ⟨#[32, 47, 47, 120, 10]⟩, .string ⟨#[10, 47, 47, 32, 97, 32, 47, 32, 98, 32, 47, 47, 32, 10, 10]⟩] 9)) none := World.grownBy_alloc _ _ _
    have hgc0 : ∀ k, k < 5 → (w2.alloc (.cells #[.string ⟨#[32]⟩, .string ⟨#[10]⟩, .string ⟨#[32, 9, 13, 10]⟩, .string ⟨#[32, 47, 47, 120, 10]⟩, .string ⟨#[10, 47, 47, 32, 97, 32, 47, 32, 98, 32, 47, 47, 32, 10, 10]⟩] 9)).cell? ⟨w2.heap.size, k, none⟩ = some (.string (gapB k)) := by
      intro k hk
      rw [cell_of_row _ w2.heap.size k #[.string ⟨#[32]⟩, .string ⟨#[10]⟩, .string ⟨#[32, 9, 13, 10]⟩, .string ⟨#[32, 47, 47, 120, 10]⟩, .string ⟨#[10, 47, 47, 32, 97, 32, 47, 32, 98, 32, 47, 47, 32, 10, 10]⟩] 9 (0, 0) (heap_alloc_new w2 _)]
      match k, hk with
      | 0, _ => rfl
      | 1, _ => rfl
      | 2, _ => rfl
      | 3, _ => rfl
      | 4, _ => rfl
    obtain ⟨W1, hW1⟩ : ∃ W1, w2.alloc (.cells #[.string ⟨#[32]⟩, .string ⟨#[10]⟩, .string ⟨#[32, 9, 13, 10]⟩, .string ⟨#[32, 47, 47, 120, 10]⟩, .string ⟨#[10, 47, 47, 32, 97, 32, 47, 32, 98, 32, 47, 47, 32, 10, 10]⟩] 9) = W1 := ⟨_, rfl⟩
    rw [hW1] at hg0 hgc0 ⊢
    clear hW1
    have HGC := Lib.hid hgc0; clear hgc0
    have HG1 := Lib.hid (HG.out.trans hg0)
    have HY1 := Lib.hid (HY.out.grown0 hg0)
    have RL1 := Lib.hid (RL.out.grown hg0)
    have hr0 : ∀ j z : Nat, zs[j]? = some z → ∃ b o, ra = some ⟨b, o, none⟩ ∧ W1.cell? ⟨b, o + j, none⟩ = some (.int .u8 (z : Int)) := by
      intro j z hj
      obtain ⟨b, o, h1, h2⟩ := HR.out.2.2 j z hj
      exact ⟨b, o, h1, (HG1.out).cell h2 (by simp)⟩
    have HR0 := Lib.hid hr0; clear hr0 hg0
    go_loopg [10, 11] n (fun g s10 s11 wr => (∃ q, wr = W1.drewN q) ∧ ∃ (i : Nat) (ks : List Nat), s11 = .int .i64 (i : Int) ∧ s10 = .string (glue s (l.take i) ks) ∧ ks.length = i ∧ (∀ k ∈ ks, k < 5) ∧ g = n - i ∧ i ≤ n ∧ (glue s (l.take i) ks).size ≤ 8100)
    case atStart => exact ⟨⟨0, rfl⟩, 0, [], rfl, rfl, rfl, List.forall_mem_nil _, rfl, by omega, by show (0 : Nat) ≤ 8100; omega⟩
    case round =>
      obtain ⟨⟨q, rfl⟩, i, ks, rfl, rfl, hk1, hk2, hg, hi, hsz⟩ := hrel
      have HGK := Lib.hid hg; clear hg
      have HKS := Lib.hid (And.intro hk1 hk2); clear hk1 hk2
      obtain ⟨T, hTT⟩ : ∃ T, glue s (l.take i) ks = T := ⟨_, rfl⟩
      rw [hTT] at hsz ⊢
      have HTT := Lib.hid hTT; clear hTT
      by_cases hgo : i < n ∧ T.size < 6000
      · obtain ⟨h1, h2⟩ := hgo
        have h1B : decide (i < n) = true := by simp; omega
        have h1J : (i : Int) < (n : Int) := by omega
        have h2B : decide ((T.size : Int) < 6000) = true := by simp; omega
        have hnl := HN.out
        obtain ⟨t, ht1⟩ : ∃ t, l[i]? = some t := ⟨_, List.getElem?_eq_getElem (by omega)⟩
        obtain ⟨g, rfl, hr⟩ : ∃ g, al = some ⟨g, 0, none⟩ ∧ TokRow W1 s l g cl := by
          rcases RL1.out with ⟨h, _⟩ | ⟨g', cap', hv, hrw⟩
          · rw [h] at ht1; simp at ht1
          · injection hv with e1 e2 e3
            subst e1; subst e3
            exact ⟨g', rfl, hrw⟩
        obtain ⟨a1, a2, a3⟩ := toks_get s l _ t ht1
        have b2 := hr.cells _ _ a2
        obtain ⟨x, hx⟩ : ∃ x, t.text s = x := ⟨_, rfl⟩
        rw [hx] at b2
        clear hr
        by_cases hir : i < rn
        · have hirB : decide (i < rn) = true := by simp; omega
          have hirJ : (i : Int) < (rn : Int) := by omega
          have hzl := HR.out.1
          obtain ⟨z, hz⟩ : ∃ z, zs[i]? = some z := ⟨_, List.getElem?_eq_getElem (by omega)⟩
          have hzb := HR.out.2.1 z (List.mem_of_getElem? hz)
          obtain ⟨b, o, rfl, hcell⟩ := HR0.out i z hz
          have hk : (z : Int) % 5 = ((z % 5 : Nat) : Int) := by omega
          obtain ⟨k, hke⟩ : ∃ k, z % 5 = k := ⟨_, rfl⟩
          have hk5 : k < 5 := by omega
          rw [hke] at hk
          clear hke hz hzl
          have hkJ : (k : Int) < 5 := by omega
          have hgcell := HGC.out k hk5
          obtain ⟨y, hy⟩ : ∃ y, gapB k = y := ⟨_, rfl⟩
          rw [hy] at hgcell
          have True_ : True := trivial
          · clear True_
            have hxs : x.size ≤ 2000 := by rw [← hx]; unfold Tok.text; rw [ByteArray.size_extract]; have := HT.out; omega
            have hys : y.size ≤ 15 := by rw [← hy]; exact (gap_facts ⟨k, hk5⟩).2.1
            have hsa : ∀ W : World, (Op.stringOp .add T x).run Tryd.prog W = .ok (.string (T ++ x)) W := fun W => run_string_add_sum _ _ _ (by omega)
            have hsb : ∀ W : World, (Op.stringOp .add (T ++ x) y).run Tryd.prog W = .ok (.string ((T ++ x) ++ y)) W := fun W => run_string_add_sum _ _ _ (by rw [size_app]; omega)
            have hnew : glue s (l.take (i + 1)) (ks ++ [k]) = (T ++ x) ++ y := by
              rw [List.take_succ_eq_append_getElem (by have := HN.out; omega), glue_snoc _ _ (by rw [List.length_take, HKS.out.1]; have := HN.out; omega), HTT.out, ← hy, ← hx]
              rw [List.getElem?_eq_some_iff] at ht1
              obtain ⟨_, h6⟩ := ht1
              rw [h6]
            have hnb : ((T ++ x) ++ y).size ≤ 8100 := by rw [size_app, size_app]; omega
            have HNEW := Lib.hid (And.intro hnew hnb)
            have HK5 := Lib.hid hk5; clear hk5
            clear hnew hnb ht1 hx hy hxs hys a1 a2 a3 hnl
            go_wp2
            go_quiet (fail)
            go_wp2
            go_roundg (n - (i + 1))
            case measure => rw [HGK.out]; omega
            case rel => exact ⟨⟨_, rfl⟩, i + 1, ks ++ [k], rfl, by rw [HNEW.out.1], by simp [HKS.out.1], fun z hz => by
              rcases List.mem_append.1 hz with h | h
              · exact HKS.out.2 z h
              · simp at h; rw [h]; exact HK5.out, rfl, by omega, by rw [HNEW.out.1]; exact HNEW.out.2⟩
        · have hirB : decide (i < rn) = false := by simp; omega
          obtain ⟨k, hke⟩ : ∃ k, k = 0 := ⟨0, rfl⟩
          have hk5 : k < 5 := by omega
          have hgcell := HGC.out 0 (by omega)
          obtain ⟨y, hy⟩ : ∃ y, gapB k = y := ⟨_, rfl⟩
          rw [← hke, hy, hke] at hgcell
          have HKE := Lib.hid hke; clear hke
          have True_ : True := trivial
          · clear True_
            have hxs : x.size ≤ 2000 := by rw [← hx]; unfold Tok.text; rw [ByteArray.size_extract]; have := HT.out; omega
            have hys : y.size ≤ 15 := by rw [← hy]; exact (gap_facts ⟨k, hk5⟩).2.1
            have hsa : ∀ W : World, (Op.stringOp .add T x).run Tryd.prog W = .ok (.string (T ++ x)) W := fun W => run_string_add_sum _ _ _ (by omega)
            have hsb : ∀ W : World, (Op.stringOp .add (T ++ x) y).run Tryd.prog W = .ok (.string ((T ++ x) ++ y)) W := fun W => run_string_add_sum _ _ _ (by rw [size_app]; omega)
            have hnew : glue s (l.take (i + 1)) (ks ++ [k]) = (T ++ x) ++ y := by
              rw [List.take_succ_eq_append_getElem (by have := HN.out; omega), glue_snoc _ _ (by rw [List.length_take, HKS.out.1]; have := HN.out; omega), HTT.out, ← hy, ← hx]
              rw [List.getElem?_eq_some_iff] at ht1
              obtain ⟨_, h6⟩ := ht1
              rw [h6]
            have hnb : ((T ++ x) ++ y).size ≤ 8100 := by rw [size_app, size_app]; omega
            have HNEW := Lib.hid (And.intro hnew hnb)
            have HK5 := Lib.hid hk5; clear hk5
            clear hnew hnb ht1 hx hy hxs hys a1 a2 a3 hnl
            go_wp2
            go_quiet (fail)
            go_wp2
            go_roundg (n - (i + 1))
            case measure => rw [HGK.out]; omega
            case rel => exact ⟨⟨_, rfl⟩, i + 1, ks ++ [k], rfl, by rw [HNEW.out.1], by simp [HKS.out.1], fun z hz => by
              rcases List.mem_append.1 hz with h | h
              · exact HKS.out.2 z h
              · simp at h; rw [h]; exact HK5.out, rfl, by omega, by rw [HNEW.out.1]; exact HNEW.out.2⟩
      · have hnl := HN.out
        obtain ⟨m, hlm, hml, hmt⟩ := glue_lex (s := s) (l.take i) ks (fun x hx => HGD.out x (List.mem_of_mem_take hx)) (by rw [List.length_take, HKS.out.1]; omega) HKS.out.2
        rw [HTT.out] at hlm hmt
        have hmi : m.length = i := by rw [hml, List.length_take]; omega
        have HLM := Lib.hid hlm; clear hlm hml
        have hpair : ∀ j, j < i → ∃ t t', l[j]? = some t ∧ m[j]? = some t' ∧ t'.kind = t.kind ∧ t'.text T = t.text s := by
          intro j hj
          obtain ⟨t, ht1⟩ : ∃ t, l[j]? = some t := ⟨_, List.getElem?_eq_getElem (by omega)⟩
          obtain ⟨t', e1, e2, e3⟩ := hmt j t (by rw [List.getElem?_take, if_pos hj]; exact ht1)
          exact ⟨t, t', ht1, e1, e2, e3⟩
        have HPAIR := Lib.hid hpair; clear hpair hmt hnl
        have hcase : (i = n) ∨ (i < n ∧ 6000 ≤ T.size) := by omega
        have HMI := Lib.hid hmi; clear hmi hgo
        have hexit : (decide (i < n) = false ∧ (((i : Nat) : Int) != (n : Int)) = false ∧ True) ∨ (decide (i < n) = true ∧ decide ((T.size : Int) < 6000) = false ∧ (((i : Nat) : Int) != (n : Int)) = true) := by
          rcases hcase with h | h
          · exact .inl ⟨by simp; omega, by rw [bne_eq_false_iff_eq]; omega, trivial⟩
          · exact .inr ⟨by simp; omega, by simp; omega, by rw [bne_iff_ne]; omega⟩
        clear hcase
        rcases hexit with ⟨hA, hB, hC⟩ | ⟨hA, hB, hC⟩
        all_goals
          go_wp2_with fail
          refine (lex_calls T _ (by unfold maxLen; omega) (HY1.out.grown0 (grown_drewN _ _ _))).mono ?_
          rintro e w4 h4
          obtain ⟨vm, rfl, rm, g4⟩ := lex_ok (by omega) HLM.out h4
          obtain ⟨am, cm, rfl⟩ := rm.slice
          have RM := Lib.hid rm
          have HG4 := Lib.hid ((HG1.out.trans (grown_drewN _ q _)).trans g4)
          have RL4 := Lib.hid ((RL1.out.grown (grown_drewN _ q _)).grown g4)
          clear h4 rm g4
          rw [HMI.out]
          go_wp2
          go_loopg [16] i (fun g s16 wr => (∃ q, wr = w4.drewN q) ∧ ∃ j : Nat, s16 = .int .i64 (j : Int) ∧ g = i - j ∧ j ≤ i)
          case atStart => exact ⟨⟨0, rfl⟩, 0, rfl, rfl, by omega⟩
          case round =>
            obtain ⟨⟨q4, rfl⟩, j, rfl, hgj, hj⟩ := hrel
            have HGJ := Lib.hid hgj; clear hgj
            by_cases hji : j < i
            · have hjB : decide (j < i) = true := by simp; omega
              have hjJ : (j : Int) < (i : Int) := by omega
              have hjC : decide (j < n) = true := by simp; omega
              have hjK : (j : Int) < (n : Int) := by omega
              obtain ⟨t, t', e1, e2, e3, e4⟩ := HPAIR.out j hji
              obtain ⟨g, rfl, hr⟩ : ∃ g, al = some ⟨g, 0, none⟩ ∧ TokRow w4 s l g cl := by
                rcases RL4.out with ⟨h, _⟩ | ⟨g', cap', hv, hrw⟩
                · rw [h] at e1; simp at e1
                · injection hv with f1 f2 f3
                  subst f1; subst f3
                  exact ⟨g', rfl, hrw⟩
              obtain ⟨g', rfl, hr'⟩ : ∃ g', am = some ⟨g', 0, none⟩ ∧ TokRow w4 T m g' cm := by
                rcases RM.out with ⟨h, _⟩ | ⟨g', cap', hv, hrw⟩
                · rw [h] at e2; simp at e2
                · injection hv with f1 f2 f3
                  subst f1; subst f3
                  exact ⟨g', rfl, hrw⟩
              obtain ⟨a1, a2, _⟩ := toks_get s l _ t e1
              obtain ⟨d1, d2, _⟩ := toks_get T m _ t' e2
              have b1 := hr.cells _ _ a1
              have b2 := hr.cells _ _ a2
              have c1 := hr'.cells _ _ d1
              have c2 := hr'.cells _ _ d2
              rw [e3] at c1
              rw [e4] at c2
              obtain ⟨x, hx⟩ : ∃ x, t.text s = x := ⟨_, rfl⟩
              obtain ⟨kd, hkd⟩ : ∃ kd, t.kind = kd := ⟨_, rfl⟩
              rw [hx] at b2 c2
              rw [hkd] at b1 c1
              clear a1 a2 d1 d2 e1 e2 e3 e4 hr hr' hx hkd
              go_wp2
              go_quiet (fail)
              go_wp2
              go_roundg (i - (j + 1))
              case measure => rw [HGJ.out]; omega
              case rel => exact ⟨⟨_, rfl⟩, j + 1, rfl, rfl, by omega⟩
            · have hjB : decide (j < i) = false := by simp; omega
              go_wp2
              go_ret
              exact ⟨rfl, HG4.out.trans (grown_drewN _ _ _)⟩
end Go.Proofs.YtmcokfalkkjgmaaDoor

/- The law LexerConcatenation, walked. -/
import Derived.Test.YtmcokfalkkjgmaaDoorW
namespace Go.Proofs.YtmcokfalkkjgmaaDoor
open Go.RowKit

set_option maxRecDepth 100000 in
set_option maxHeartbeats 2000000 in
theorem concat_calls (s0 s1 : ByteArray) (w : World) (hs : s0.size ≤ maxLen) (hs1 : s1.size ≤ maxLen) (hy : SymsAt w) :
    Calls Tryd.prog 6 #[.string s0, .string s1] w fun e w' => e = .returned (.bool true) ∧ w.grownBy w' none := by
  have HS := Lib.hid hs
  have HS1 := Lib.hid hs1
  have hta := fewS_size s0
  have htb := fewS_size s1
  go_enter Tryd.func6, Tryd.ntmps6
  go_wp2_with fail
  refine (head_calls w hy).mono ?_
  rintro e w1 ⟨rfl, g1⟩
  have hy1 := hy.grown0 g1
  go_wp2_with fail
  refine (few_calls s0 w1 HS.out).mono ?_
  rintro e w2 ⟨rfl, rfl⟩
  go_wp2_with fail
  refine (few_calls s1 w1 HS1.out).mono ?_
  rintro e w2 ⟨rfl, rfl⟩
  obtain ⟨a, hea⟩ : ∃ t, fewS s0 = t := ⟨_, rfl⟩
  obtain ⟨b, heb⟩ : ∃ t, fewS s1 = t := ⟨_, rfl⟩
  rw [hea] at hta ⊢
  rw [heb] at htb ⊢
  clear hea heb hs hs1 hy
  have HTA := Lib.hid hta
  have HTB := Lib.hid htb
  go_wp2_with fail
  refine (lex_calls a w1 (by have := HTA.out; unfold maxLen; omega) hy1).mono ?_
  rintro e w2 h2
  have hga : w1.grownBy w2 none := h2.1
  have HY2 := Lib.hid (hy1.grown0 hga)
  have G2 := Lib.hid (g1.trans hga)
  clear hga g1 hy1
  cases hla : lex a with
  | error j =>
    obtain ⟨rfl, _⟩ := lex_err (by omega) hla h2
    have HLA := Lib.hid hla; clear hla h2
    go_wp2_with fail
    refine (lex_calls b w2 (by have := HTB.out; unfold maxLen; omega) HY2.out).mono ?_
    rintro e w3 h3
    have G3 := Lib.hid (G2.out.trans h3.1)
    have HY3 := Lib.hid (HY2.out.grown0 h3.1)
    obtain ⟨v, x, y, rfl⟩ : ∃ v x y, e = .returned (.tuple #[v, .int .i64 x, .int .i64 y]) := by
      obtain ⟨_, h | ⟨_, h | h⟩⟩ := h3
      · exact ⟨_, _, _, h.2⟩
      · obtain ⟨_, _, h⟩ := h; exact ⟨_, _, _, h⟩
      · obtain ⟨_, _, _, h, _⟩ := h; exact ⟨_, _, _, h⟩
    clear h3
    go_wp2_with fail
    obtain ⟨c, hc⟩ : ∃ c, (a ++ ⟨#[32]⟩) ++ b = c := ⟨_, rfl⟩
    have gl : Glued a b c := by rw [← hc]; exact glue_is
    have hcs : c.size ≤ 20000 := by have := gl.size; have := HTA.out; have := HTB.out; omega
    have hcm : c.size ≤ maxLen := by unfold maxLen; omega
    rw [hc]
    clear hc
    have GL := Lib.hid gl; clear gl
    refine (lex_calls c w3 hcm HY3.out).mono ?_
    rintro e w4 h4
    obtain ⟨rfl, g4⟩ := lex_err hcs (glued_err GL.out HLA.out) h4
    clear h4
    go_wp2
    go_ret
    exact ⟨rfl, G3.out.trans g4⟩
  | ok l =>
    obtain ⟨vl, rfl, _, rl, _⟩ := lex_ok2 (by omega) hla h2
    obtain ⟨al, cl, rfl⟩ := rl.slice
    have hll := lex_len hla
    have HLA := Lib.hid hla; clear hla h2
    have RL := Lib.hid rl; clear rl
    go_wp2_with fail
    refine (lex_calls b w2 (by have := HTB.out; unfold maxLen; omega) HY2.out).mono ?_
    rintro e w3 h3
    have G3 := Lib.hid (G2.out.trans h3.1)
    have HY3 := Lib.hid (HY2.out.grown0 h3.1)
    have RL3 := Lib.hid (RL.out.grown h3.1); clear RL
    cases hlb : lex b with
    | error j =>
      obtain ⟨rfl, _⟩ := lex_err (by omega) hlb h3
      have hj := (lexTo_err _ _ _ hlb).1
      have HLB := Lib.hid hlb; clear hlb h3
      go_wp2_with fail
      obtain ⟨c, hc⟩ : ∃ c, (a ++ ⟨#[32]⟩) ++ b = c := ⟨_, rfl⟩
      have gl : Glued a b c := by rw [← hc]; exact glue_is
      have hcs : c.size ≤ 20000 := by have := gl.size; have := HTA.out; have := HTB.out; omega
      have hcm : c.size ≤ maxLen := by unfold maxLen; omega
      rw [hc]
      clear hc
      have GL := Lib.hid gl; clear gl
      refine (lex_calls c w3 hcm HY3.out).mono ?_
      rintro e w4 h4
      cases ho : openAt a a.size
      · have HO := Lib.hid ho; clear ho
        obtain ⟨rfl, g4⟩ := lex_err hcs ((glued_ok GL.out HLA.out HO.out).1 j HLB.out) h4
        clear h4
        go_wp2_with fail
        refine (open_calls a w4 (by have := HTA.out; omega)).mono ?_
        rintro e w5 ⟨rfl, rfl⟩
        rw [HO.out]
        go_wp2
        go_ret
        exact ⟨rfl, G3.out.trans g4⟩
      · have HO := Lib.hid ho; clear ho
        obtain ⟨v, x, y, rfl⟩ : ∃ v x y, e = .returned (.tuple #[v, .int .i64 x, .int .i64 y]) := by
          obtain ⟨_, h | ⟨_, h | h⟩⟩ := h4
          · exact ⟨_, _, _, h.2⟩
          · obtain ⟨_, _, h⟩ := h; exact ⟨_, _, _, h⟩
          · obtain ⟨_, _, _, h, _⟩ := h; exact ⟨_, _, _, h⟩
        have g4 := h4.1
        clear h4
        go_wp2_with fail
        refine (open_calls a w4 (by have := HTA.out; omega)).mono ?_
        rintro e w5 ⟨rfl, rfl⟩
        rw [HO.out]
        go_wp2
        go_ret
        exact ⟨rfl, G3.out.trans g4⟩
    | ok m =>
      obtain ⟨vm, rfl, _, rm, _⟩ := lex_ok2 (by omega) hlb h3
      obtain ⟨am, cm, rfl⟩ := rm.slice
      have hlm := lex_len hlb
      have HLB := Lib.hid hlb; clear hlb h3
      have RM := Lib.hid rm; clear rm
      go_wp2_with fail
      obtain ⟨c, hc⟩ : ∃ c, (a ++ ⟨#[32]⟩) ++ b = c := ⟨_, rfl⟩
      have gl : Glued a b c := by rw [← hc]; exact glue_is
      have hcs : c.size ≤ 20000 := by have := gl.size; have := HTA.out; have := HTB.out; omega
      have hcm : c.size ≤ maxLen := by unfold maxLen; omega
      rw [hc]
      clear hc
      have GL := Lib.hid gl; clear gl
      refine (lex_calls c w3 hcm HY3.out).mono ?_
      rintro e w4 h4
      have G4 := Lib.hid (G3.out.trans h4.1)
      cases ho : openAt a a.size
      · have HO := Lib.hid ho; clear ho
        have hlc := (glued_ok GL.out HLA.out HO.out).2 m HLB.out
        obtain ⟨vn, rfl, g4, rn, hn⟩ := lex_ok2 hcs hlc h4
        clear h4
        have RL4 := Lib.hid (RL3.out.grown g4); clear RL3
        have RM4 := Lib.hid (RM.out.grown g4); clear RM
        clear hlc
        have hca := chain_lex HLA.out
        have hcb := chain_lex HLB.out
        have hta : toks c l = toks a l := toks_congr l fun t ht => by
          obtain ⟨i, hi⟩ := List.getElem?_of_mem ht
          exact (begins_text (glued_begins GL.out) (chain_at l 0 i t (Nat.zero_le _) hca hi).2.2).symm
        have HTC := Lib.hid hta; clear hta hca
        rcases hn with ⟨h0, rfl⟩ | ⟨g, cap, rfl, hr⟩
        · obtain ⟨rfl, h1⟩ := List.append_eq_nil_iff.1 h0
          obtain rfl : m = [] := by simpa using h1
          clear h0 h1 rn hcb
          simp only [List.length_nil]
          go_wp2_with fail
          refine (open_calls a w4 (by have := HTA.out; omega)).mono ?_
          rintro e w5 ⟨rfl, rfl⟩
          rw [HO.out]
          go_wp2
          go_loopg [17] 0 (fun _ s17 wr => s17 = .int .i64 0 ∧ w4 = wr)
          case atStart => exact ⟨rfl, rfl⟩
          case round =>
            obtain ⟨rfl, rfl⟩ := hrel
            go_wp2_with fail
            refine (same_zero w4 _ _ _ _).mono ?_
            rintro e w5 ⟨rfl, n5, rfl⟩
            go_wp2
            go_ret
            exact ⟨rfl, G4.out.trans (grown_drewN _ _ _)⟩
        · have htk := Reads.take (k := l.length) hr (by rw [List.length_append]; omega)
          rw [List.take_left] at htk
          have HTK := Lib.hid htk; clear htk rn
          have hNl : (l ++ m.map (shiftTok (a.size + 1))).length = l.length + m.length := by simp
          have hidx : ∀ i t, m[i]? = some t → (l ++ m.map (shiftTok (a.size + 1)))[l.length + i]? = some (shiftTok (a.size + 1) t) := by
            intro i t hi
            rw [List.getElem?_append_right (by omega), Nat.add_sub_cancel_left, List.getElem?_map, hi]; rfl
          obtain ⟨L, hL⟩ : ∃ L, l.length = L := ⟨_, rfl⟩
          obtain ⟨M, hM⟩ : ∃ M, m.length = M := ⟨_, rfl⟩
          obtain ⟨N, hN⟩ : ∃ N, (l ++ m.map (shiftTok (a.size + 1))).length = N := ⟨_, rfl⟩
          have hroom := hr.room
          have hcapm := hr.capm
          unfold maxLen at hcapm
          have HID := Lib.hid hidx; clear hidx
          have HR := Lib.hid hr; clear hr
          rw [hN] at hroom hNl ⊢
          rw [hL] at hll hNl HTK HID ⊢
          rw [hM] at hlm hNl ⊢
          have hNI : (((N : Nat) : Int) != (L : Int) + (M : Int)) = false := by rw [bne_eq_false_iff_eq]; omega
          have HL := Lib.hid hL; clear hL
          have HM := Lib.hid hM; clear hM
          have HNN := Lib.hid hN; clear hN
          have HNL := Lib.hid hNl; clear hNl
          have HCB := Lib.hid hcb; clear hcb
          have hLc : (L : Int) ≤ (cap : Int) := by have := HNL.out; omega
          by_cases hM0 : M = 0
          · subst hM0
            go_wp2_with fail
            refine (open_calls a w4 (by have := HTA.out; omega)).mono ?_
            rintro e w5 ⟨rfl, rfl⟩
            rw [HO.out]
            go_wp2
            go_loopg [17] 0 (fun _ s17 wr => s17 = .int .i64 0 ∧ w4 = wr)
            case atStart => exact ⟨rfl, rfl⟩
            case round =>
              obtain ⟨rfl, rfl⟩ := hrel
              go_wp2_with fail
              have rl4 := RL4.out
              rw [HL.out] at rl4
              refine (same_reads HTK.out rl4 HTC.out (by rw [HL.out]; omega)).mono ?_
              rintro e w5 ⟨rfl, n5, rfl⟩
              go_wp2
              go_ret
              exact ⟨rfl, G4.out.trans (grown_drewN _ _ _)⟩
          · obtain ⟨gm, rfl, hrm⟩ : ∃ gm, am = some ⟨gm, 0, none⟩ ∧ TokRow w4 b m gm cm := by
              rcases RM4.out with ⟨h, _⟩ | ⟨g', cap', hv, hrw⟩
              · rw [h] at HM; exact absurd HM.out (by simp; omega)
              · injection hv with e1 e2 e3
                subst e1; subst e3
                exact ⟨g', rfl, hrw⟩
            have HRM := Lib.hid hrm; clear hrm RM4
            go_wp2_with fail
            refine (open_calls a w4 (by have := HTA.out; omega)).mono ?_
            rintro e w5 ⟨rfl, rfl⟩
            rw [HO.out]
            go_wp2
            go_loopg [17] M (fun k s17 wr => ∃ i : Nat, s17 = .int .i64 (i : Int) ∧ k = M - i ∧ i ≤ M ∧ w4.grownBy wr none)
            case atStart => exact ⟨0, rfl, rfl, by omega, grown_refl _ _⟩
            case round =>
              obtain ⟨i, rfl, hk, hi, hgr⟩ := hrel
              have HK := Lib.hid hk; clear hk
              by_cases hiM : i < M
              · have hiI : decide ((i : Int) < (M : Int)) = true := by simp; omega
                have hiI2 : (i : Int) < (M : Int) := by omega
                have hnl := HNL.out
                obtain ⟨t, ht'⟩ : ∃ t, m[i]? = some t := ⟨_, List.getElem?_eq_getElem (by rw [HM.out]; exact hiM)⟩
                have htx := glued_text GL.out (chain_at m 0 i t (Nat.zero_le _) HCB.out ht').2.2
                have hst := (chain_at m 0 i t (Nat.zero_le _) HCB.out ht').2
                obtain ⟨a1, a2, a3⟩ := toks_get b m i t ht'
                obtain ⟨d1, d2, d3⟩ := toks_get c _ _ _ (HID.out i t ht')
                have b1 := (HRM.out.grown hgr).cells _ _ a1
                have b2 := (HRM.out.grown hgr).cells _ _ a2
                have b3 := (HRM.out.grown hgr).cells _ _ a3
                have q1 := (HR.out.grown hgr).cells _ _ d1
                have q2 := (HR.out.grown hgr).cells _ _ d2
                have q3 := (HR.out.grown hgr).cells _ _ d3
                rw [htx] at q2
                obtain ⟨x, hx⟩ : ∃ x, t.text b = x := ⟨_, rfl⟩
                rw [hx] at b2 q2
                obtain ⟨kd, st, en⟩ := t
                simp only [shiftTok] at q1 q3 b1 b3 hst
                have ecast : ((st + (a.size + 1) : Nat) : Int) = (st : Int) + (a.size : Int) + 1 := by omega
                rw [ecast] at q3
                have j1 : (L : Int) + (i : Int) < (N : Int) := by omega
                have hwr : IntKind.i64.wrap ((L : Int) + (i : Int)) = (L : Int) + (i : Int) := IntWalk.i64_in _ (by omega)
                have hto : ((L : Int) + (i : Int)).toNat = L + i := by omega
                have hj0 : (0 : Int) ≤ (L : Int) + (i : Int) := by omega
                have hst2 : (st : Int) ≤ 20000 := by have := HTB.out; omega
                have hgl : g < wr.heap.size := (HR.out.grown hgr).lt
                have hgn : ¬ g = wr.heap.size := by omega
                have HGR := Lib.hid hgr
                clear a1 a2 a3 d1 d2 d3 htx hx ht' ecast hnl hgr hst
                go_wp2
                go_quiet (fail)
                go_wp2
                go_roundg (M - (i + 1))
                case measure => rw [HK.out]; omega
                case rel => exact ⟨i + 1, rfl, rfl, by omega, (HGR.out.trans (World.grownBy_alloc _ _ _)).trans (grown_drewN _ _ _)⟩
              · have hiI : decide ((i : Int) < (M : Int)) = false := by simp; omega
                go_wp2_with fail
                have rl4 := RL4.out
                rw [HL.out] at rl4
                refine (same_reads (HTK.out.grown hgr) (rl4.grown hgr) HTC.out (by rw [HL.out]; omega)).mono ?_
                rintro e w5 ⟨rfl, n5, rfl⟩
                go_wp2
                go_ret
                exact ⟨rfl, (G4.out.trans hgr).trans (grown_drewN _ _ _)⟩
      · have HO := Lib.hid ho; clear ho
        obtain ⟨v, x, y, rfl⟩ : ∃ v x y, e = .returned (.tuple #[v, .int .i64 x, .int .i64 y]) := by
          obtain ⟨_, h | ⟨_, h | h⟩⟩ := h4
          · exact ⟨_, _, _, h.2⟩
          · obtain ⟨_, _, h⟩ := h; exact ⟨_, _, _, h⟩
          · obtain ⟨_, _, _, h, _⟩ := h; exact ⟨_, _, _, h⟩
        clear h4
        go_wp2_with fail
        refine (open_calls a w4 (by have := HTA.out; omega)).mono ?_
        rintro e w5 ⟨rfl, rfl⟩
        rw [HO.out]
        go_wp2
        go_ret
        exact ⟨rfl, G4.out⟩
end Go.Proofs.YtmcokfalkkjgmaaDoor

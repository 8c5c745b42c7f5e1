/- The law LexerMatchesReference, walked. -/
import Derived.Test.YtmcokfalkkjgmaaDoorM
namespace Go.Proofs.YtmcokfalkkjgmaaDoor
open Go.RowKit

set_option maxHeartbeats 1000000 in
theorem matches_calls (s : ByteArray) (w : World) (hs : s.size ≤ maxLen) (hy : SymsAt w) :
    Calls Tryd.prog 3 #[.string s] w fun e w' => e = .returned (.bool true) ∧ w.grownBy w' none := by
  have HS := Lib.hid hs
  have ht := fewS_size s
  go_enter Tryd.func3, Tryd.ntmps3
  go_wp2_with fail
  refine (head_calls w hy).mono ?_
  rintro e w1 ⟨rfl, g1⟩
  have hy1 := hy.grown0 g1
  go_wp2_with fail
  refine (few_calls s w1 HS.out).mono ?_
  rintro e w2 ⟨rfl, rfl⟩
  obtain ⟨t, het⟩ : ∃ t, fewS s = t := ⟨_, rfl⟩
  rw [het] at ht ⊢
  clear het
  have htm : t.size ≤ maxLen := by unfold maxLen; omega
  have HTM := Lib.hid htm; clear htm
  go_wp2_with fail
  refine (lex_calls t w1 HTM.out hy1).mono ?_
  rintro e w2 h2
  cases hl : lex t with
  | error j =>
    obtain ⟨rfl, g2⟩ := lex_err (by omega) hl h2
    have HL := Lib.hid hl; clear hl h2
    go_wp2_with fail
    refine (refLex_calls t w2 HTM.out).mono ?_
    rintro e w3 h3
    obtain ⟨rfl, g3⟩ := lex_err (by omega) HL.out h3
    clear h3
    go_wp2_with fail
    refine (same_zero w3 none none 0 0).mono ?_
    rintro e w4 ⟨rfl, n, rfl⟩
    go_wp2
    go_ret
    exact ⟨rfl, ((g1.trans g2).trans g3).trans (grown_drewN _ _ _)⟩
  | ok l =>
    obtain ⟨v, rfl, r2, g2⟩ := lex_ok (by omega) hl h2
    have HL := Lib.hid hl; clear hl h2
    go_wp2_with fail
    refine (refLex_calls t w2 HTM.out).mono ?_
    rintro e w3 h3
    obtain ⟨v', rfl, r3, g3⟩ := lex_ok (by omega) HL.out h3
    clear h3
    go_wp2_with fail
    refine (same_reads (r2.grown g3) r3 rfl (by have := lex_len HL.out; omega)).mono ?_
    rintro e w4 ⟨rfl, n, rfl⟩
    go_wp2
    go_ret
    exact ⟨rfl, ((g1.trans g2).trans g3).trans (grown_drewN _ _ _)⟩
end Go.Proofs.YtmcokfalkkjgmaaDoor

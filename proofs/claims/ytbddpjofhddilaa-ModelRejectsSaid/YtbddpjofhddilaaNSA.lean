/- The law of times. -/
import Derived.Test.YtbddpjofhddilaaNRZ
import Derived.Deep.RegionHeld3
namespace Go.Proofs.Ytbddpjofhddilaa
open Go.RowKit

/-- What the check of examples answers. -/
def HeadSays : Prop := ∀ w : World, Calls Try.prog 16 #[] w fun e w' => e = .returned (.bool true) ∧ w.grownBy w' none

theorem small_facts {ns na : Nat} {F : List Fd} {L : List (List Rl)} (h : smallB ns na F L = true) :
    L.length ≤ 64 ∧ (∀ l ∈ L, l.length ≤ 10 ∧ ∀ r ∈ l, r.2.length ≤ 200) := by
  obtain ⟨h0, h1, _⟩ := smallB_iff.1 h
  refine ⟨h0.2.2.1, fun l hl => ?_⟩
  have h2 := List.all_eq_true.1 h1 l hl
  simp only [smallS, smallR, Bool.and_eq_true, decide_eq_true_eq, List.all_eq_true] at h2
  exact h2
theorem small_lens {L : List (List Rl)} (hk : L.length ≤ 64) (h : ∀ l ∈ L, l.length ≤ 10 ∧ ∀ r ∈ l, r.2.length ≤ 200) : Lens L :=
  ⟨by omega, fun l hl => ⟨by have := (h l hl).1; omega, fun r hr => by have := (h l hl).2 r hr; omega⟩⟩
theorem small_wide {L : List (List Rl)} (h : ∀ l ∈ L, l.length ≤ 10 ∧ ∀ r ∈ l, r.2.length ≤ 200) : ∀ l ∈ L, l.length ≤ 100000 ∧ ∀ r ∈ l, r.2.length ≤ 100000 :=
  fun l hl => ⟨by have := (h l hl).1; omega, fun r hr => by have := (h l hl).2 r hr; omega⟩
/-- The index of a state at a time. -/
def ixN (k p t : Nat) : Nat := if t < k then t else p + (t - p) % (k - p)
theorem indexI_nat {k p t : Nat} (hp : p < k) : indexI k (p : Int) (t : Int) = (ixN k p t : Nat) := by
  unfold indexI ixN
  by_cases h : t < k
  · rw [if_pos (by omega), if_pos h]
  · rw [if_neg (by omega), if_neg h]
    have e1 : (t : Int) - (p : Int) = ((t - p : Nat) : Int) := by omega
    have e2 : (k : Int) - (p : Int) = ((k - p : Nat) : Int) := by omega
    rw [e1, e2, ← Int.natCast_emod, ← Int.natCast_add]
theorem ixN_lt {k p t : Nat} (hp : p < k) : ixN k p t < k := by
  unfold ixN
  split
  · assumption
  · have := Nat.mod_lt (t - p) (show 0 < k - p by omega)
    omega
theorem ixN_next {k p t : Nat} (hp : p < k) : nextI k (p : Int) (ixN k p t : Nat) = (ixN k p (t + 1) : Nat) := by
  have hl := ixN_lt (t := t) hp
  unfold nextI
  rw [if_neg (by omega)]
  unfold ixN at hl ⊢
  by_cases h : t < k
  · rw [if_pos h] at hl
    rw [if_pos h]
    by_cases h1 : t + 1 < k
    · rw [if_neg (by omega), if_pos h1]; omega
    · have e : t + 1 - p = k - p := by omega
      rw [if_pos (by omega), if_neg h1, e, Nat.mod_self, Nat.add_zero]
  · rw [if_neg h] at hl
    rw [if_neg h, if_neg (show ¬ t + 1 < k by omega)]
    have e : t + 1 - p = (t - p) + 1 := by omega
    rw [e]
    obtain ⟨q, hq⟩ : ∃ q, k - p = q := ⟨_, rfl⟩
    obtain ⟨u, hu⟩ : ∃ u, t - p = u := ⟨_, rfl⟩
    rw [hq, hu] at hl ⊢
    have hq0 : 0 < q := by omega
    have h1 := Nat.mod_lt u hq0
    by_cases h2 : u % q + 1 = q
    · have : (u + 1) % q = 0 := by rw [Nat.add_mod]; by_cases hq1 : q = 1
                                   · subst hq1; omega
                                   · rw [Nat.mod_eq_of_lt (show 1 < q by omega), h2, Nat.mod_self]
      rw [this, if_pos (by omega), Nat.add_zero]
    · have : (u + 1) % q = u % q + 1 := by rw [Nat.add_mod, Nat.mod_eq_of_lt (show 1 < q by omega), Nat.mod_eq_of_lt (by omega)]
      rw [this, if_neg (by omega)]
      omega
theorem trL_ix {L : List (List Rl)} {p t : Nat} (hp : p < L.length) : L[ixN L.length p t]? = some (trL L p t) := by
  unfold trL atL
  rw [indexI_nat hp, Int.toNat_natCast, List.getD_eq_getElem?_getD, List.getElem?_eq_getElem (ixN_lt hp)]
  rfl
theorem ixN_zero {k p : Nat} (hp : p < k) : ixN k p 0 = 0 := by unfold ixN; rw [if_pos (by omega)]

theorem held_next2 {wr W W' : World} {a0 : Addr} {v0 : Value} (g : W.grownBy W' none) (h : wr.grownBy W none) (h0 : W.cell? a0 = some v0) : wr.grownBy W' none ∧ W'.cell? a0 = some v0 :=
  ⟨h.trans g, g.cell h0 (by simp)⟩

set_option maxRecDepth 100000 in
set_option maxHeartbeats 8000000 in
theorem times_calls (hh : HeadSays) (sa : Option Addr) (na sc : Nat) (st : Int) (ta : Option Addr) (L : List (List Rl)) (tc : Nat) (lp : Int) (y : Nat) (w : World) (hT : Sts w ta tc L) (hy : y < 4294967296) :
    Calls Try.prog 4 #[.agg #[.slice sa na sc, .int .i64 st, .slice ta L.length tc, .int .i64 lp], .int .u32 (y : Int)] w fun e w' => e = .returned (.bool true) ∧ w.grownBy w' none := by
  have HSM := Lib.hid (fun (W' : World) (hW' : w.grownBy W' none) => small_calls none none none none 0 0 0 0 0 0 0 [] sa na sc st ta L tc lp W' ⟨Nat.le_refl _, fun j f hj => by simp at hj⟩ (hT.grown hW'))
  simp only [List.length_nil] at HSM
  have HLO := Lib.hid (fun (W' : World) => rLooped_calls sa na sc st ta L.length tc lp W')
  have HT := Lib.hid hT; clear hT
  obtain ⟨k, hk⟩ : ∃ k, L.length = k := ⟨_, rfl⟩
  rw [hk] at HSM HLO ⊢
  have HY := Lib.hid hy; clear hy
  have hg := World.grownBy_alloc w (.cells #[.slice sa na sc, .int .i64 st, .slice ta k tc, .int .i64 lp] 33) none
  have hc := four_cells w (.slice sa na sc) (.int .i64 st) (.slice ta k tc) (.int .i64 lp) 33
  obtain ⟨W, hW⟩ : ∃ W, w.alloc (.cells #[.slice sa na sc, .int .i64 st, .slice ta k tc, .int .i64 lp] 33) = W := ⟨_, rfl⟩
  rw [hW] at hg hc
  obtain ⟨c0, c1, c2, c3⟩ := hc
  have HBX := Lib.hid (fun (W' : World) (hW' : W.grownBy W' none) => (⟨c0, c1, c2, c3⟩ : Box W w.heap.size sa na sc st ta k tc lp).grown hW')
  clear c0 c1 c2 c3
  have HG := Lib.hid hg; clear hg
  go_enter Try.func4, Try.ntmps4
  go_wp2_with fail
  clear hW
  refine (hh W).mono ?_
  rintro e w1 ⟨rfl, g1⟩
  have HG1 := Lib.hid g1; clear g1
  obtain ⟨c0, c1, c2, c3⟩ := HBX.out w1 HG1.out
  go_wp2_with fail
  refine (HSM.out _ (HG.out.trans HG1.out)).mono ?_
  rintro e w2 ⟨rfl, g2⟩
  have HG2 := Lib.hid (HG1.out.trans g2); clear g2 HG1 c0 c1 c2 c3
  obtain ⟨c0, c1, c2, c3⟩ := HBX.out w2 HG2.out
  obtain ⟨B, hB⟩ : ∃ B, smallB 0 na [] L = B := ⟨_, rfl⟩
  rw [hB]
  cases B with
  | false =>
    clear hB
    go_wp2_with fail
    go_ret
    exact ⟨rfl, HG.out.trans HG2.out⟩
  | true =>
    have HF := Lib.hid (small_facts hB); clear hB
    go_wp2_with fail
    refine (HLO.out w2).mono ?_
    rintro e w3 ⟨rfl, g3⟩
    have HG3 := Lib.hid (HG2.out.trans g3); clear g3 HG2 c0 c1 c2 c3
    obtain ⟨c0, c1, c2, c3⟩ := HBX.out w3 HG3.out
    obtain ⟨B, hB⟩ : ∃ B, loopedB k lp = B := ⟨_, rfl⟩
    rw [hB]
    cases B with
    | false =>
      clear hB
      go_wp2_with fail
      go_ret
      exact ⟨rfl, HG.out.trans HG3.out⟩
    | true =>
      have HB := Lib.hid hB
      obtain ⟨hk1, hk64, hlp0, hlpk⟩ := loopedB_iff.1 hB
      clear hB
      obtain ⟨p, rfl⟩ : ∃ p : Nat, lp = (p : Int) := ⟨lp.toNat, (Int.toNat_of_nonneg hlp0).symm⟩
      have hpk : p < k := by omega
      clear hlp0 hlpk
      have HP := Lib.hid hpk
      have HAT := Lib.hid (fun (t : Nat) (W' : World) (hW' : w.grownBy W' none) (ht : (t : Int) ≤ 9223372036854775807) => at_calls sa na sc st ta L tc p t W' (HT.out.grown hW') (by rw [hk]; exact HB.out) (by omega) ht (small_wide HF.out.2))
      have HNX := Lib.hid (fun (s : Nat) (W' : World) (hs : s < k) => next_calls sa na sc st ta k tc p s W' (by omega) (by omega) (by omega))
      have HLN := Lib.hid (small_lens HF.out.1 HF.out.2)
      rw [hk] at HAT
      have HK := Lib.hid hk; clear hk
      go_wp2_with fail
      clear c0 c1 c2 c3
      obtain ⟨N, hN⟩ : ∃ N, 2 * k + 3 = N := ⟨_, rfl⟩
      have hNI : 2 * (k : Int) + 3 = (N : Int) := by omega
      have hN1 : N ≤ 131 := by omega
      go_loopg [7, 8] N (fun g s5 s6 wr => ∃ t : Nat, s5 = .int .i64 (ixN k p t : Nat) ∧ s6 = .int .i64 (t : Int) ∧ g = N - t ∧ t ≤ N ∧ W.grownBy wr none)
      case atStart => exact ⟨0, by rw [ixN_zero HP.out]; rfl, rfl, rfl, Nat.zero_le _, HG3.out⟩
      case round =>
        obtain ⟨t, rfl, rfl, hgt, ht, hgr⟩ := hrel
        have HGT := Lib.hid (And.intro hgt hgr); clear hgt
        obtain ⟨c0, c1, c2, c3⟩ := HBX.out wr HGT.out.2
        obtain ⟨q, hq⟩ : ∃ q, ixN k p t = q := ⟨_, rfl⟩
        have hqk : q < k := by rw [← hq]; exact ixN_lt hpk
        have HQ := Lib.hid hq
        rw [hq]
        clear hq
        by_cases hin : t < N
        · have hinB : decide (t < N) = true := by simpa using hin
          have hqI : (q : Int) < (k : Int) := by omega
          have hl : L[q]? = some (trL L p t) := by rw [← HQ.out, ← HK.out]; exact trL_ix (by rw [HK.out]; exact HP.out)
          obtain ⟨sb, so, rfl, la, lc, cs, hrels⟩ := (HT.out.grown (HG.out.trans HGT.out.2)).2 q _ hl
          have HL := Lib.hid (And.intro hl hrels); clear hl hrels
          have HAT1 := Lib.hid (fun (W' : World) (hW' : wr.grownBy W' none) => HAT.out t W' (HG.out.trans (HGT.out.2.trans hW')) (by omega))
          have HSM1 := Lib.hid (fun (W' : World) (hW' : wr.grownBy W' none) (a' : Option Addr) (c' : Nat) (h : Rels W' a' c' (trL L p t)) => rSame_calls (trL L p t) (trL L p t) a' la c' lc W' h (HL.out.2.grown hW') (HLN.out.2 _ (List.mem_of_getElem? HL.out.1)))
          have hatl : atL L (p : Int) (t : Int) = trL L p t := rfl
          rw [hatl] at HAT1
          clear hatl
          obtain ⟨n, hn⟩ : ∃ n, (trL L p t).length = n := ⟨_, rfl⟩
          rw [hn] at HAT1 HSM1 cs
          rw [decide_eq_true (rfl : trL L p t = trL L p t)] at HSM1
          go_wp2_with fail
          go_region_held3 (fun w' => wr.grownBy w' none ∧ w'.cell? ⟨w.heap.size, 0, none⟩ = some (.slice sa na sc) ∧ w'.cell? ⟨w.heap.size, 1, none⟩ = some (.int .i64 st) ∧ w'.cell? ⟨w.heap.size, 2, none⟩ = some (.slice (some ⟨sb, so, none⟩) k tc) ∧ w'.cell? ⟨w.heap.size, 3, none⟩ = some (.int .i64 p) ∧ w'.cell? ⟨sb, so + q, none⟩ = some (.slice la n lc))
            (first | exact ⟨⟨rfl, rfl, rfl, Nat.le_refl _, fun _ _ _ => rfl⟩, c0, c1, c2, c3, cs⟩ | (go_split_ands; exact held_nextM g3 (by assumption) (by assumption) (by assumption) (by assumption) (by assumption) (by assumption)) | fail)
            (first | (go_at_call 26; with_reducible refine (HAT1.out _ ?_).mono ?_; (go_split_ands; assumption); rintro e w4 ⟨a', c', rfl, hsp, g3⟩) | (go_at_call 25; with_reducible refine (HSM1.out _ ?_ _ _ ?_).mono ?_; (go_split_ands; assumption); exact hsp.here; rintro e w5 ⟨rfl, g3⟩) | fail)
          all_goals
            have h5 : wr.grownBy w5 none := by go_split_ands; assumption
            have HG5 := Lib.hid (HGT.out.2.trans h5); clear h5
            clear c0 c1 c2 c3 cs
            obtain ⟨c0, c1, c2, c3⟩ := HBX.out w5 HG5.out
            have HNX1 := Lib.hid (HNX.out q w5 hqk)
            have hnx : nextI k (p : Int) (q : Nat) = (ixN k p (t + 1) : Nat) := by rw [← HQ.out]; exact ixN_next HP.out
            rw [hnx] at HNX1
            clear hnx
            obtain ⟨q', hq'⟩ : ∃ q', ixN k p (t + 1) = q' := ⟨_, rfl⟩
            have hqk' : q' < k := by rw [← hq']; exact ixN_lt hpk
            rw [hq'] at HNX1
            have HQ' := Lib.hid hq'; clear hq'
            have f0 : decide ((q' : Int) < 0) = false := decide_eq_false (by omega)
            have f1 : decide ((k : Int) ≤ (q' : Int)) = false := decide_eq_false (by omega)
            have f2 : decide (k ≤ q') = false := decide_eq_false (by omega)
            go_wp2_with fail
            refine HNX1.out.mono ?_
            rintro e w6 ⟨rfl, g6⟩
            have HG6 := Lib.hid (HG5.out.trans g6); clear g6
            go_wp2_with fail
            go_roundg (N - (t + 1))
            case measure => rw [HGT.out.1]; omega
            case rel => exact ⟨t + 1, by rw [HQ'.out], rfl, rfl, by omega, HG6.out⟩
        · have hie : t = N := by omega
          subst hie
          have hinB : decide (t < t) = false := by simp
          obtain ⟨T, hT⟩ : ∃ T, p + y = T := ⟨_, rfl⟩
          obtain ⟨U, hU⟩ : ∃ U, y + k = U := ⟨_, rfl⟩
          have hTI : (p : Int) + (y : Int) = (T : Int) := by omega
          have hTM : (T : Int) ≤ 4294967400 := by have := HY.out; omega
          have hUI : (T : Int) + (k : Int) - (p : Int) = (U : Int) := by omega
          have hUM : (U : Int) ≤ 4294967400 := by have := HY.out; omega
          have hTK0 : 0 ≤ (T : Int) + (k : Int) := by omega
          have hTK : (T : Int) + (k : Int) ≤ 4294967500 := by omega
          have HEQ : Hid (trL L p U = trL L p T) := Lib.hid (by
            have := trL_per (L := L) (lp := p) (by rw [HK.out]; exact HP.out) T (by omega)
            rw [HK.out] at this
            rw [← this]
            congr 1
            omega)
          have HAT1 := Lib.hid (fun (W' : World) (hW' : wr.grownBy W' none) => HAT.out T W' (HG.out.trans (HGT.out.2.trans hW')) (by omega))
          have HAT2 := Lib.hid (fun (W' : World) (hW' : wr.grownBy W' none) => HAT.out U W' (HG.out.trans (HGT.out.2.trans hW')) (by omega))
          have e1 : atL L (p : Int) (T : Int) = trL L p T := rfl
          have e2 : atL L (p : Int) (U : Int) = trL L p T := HEQ.out
          rw [e1] at HAT1
          rw [e2] at HAT2
          clear e1 e2
          have HLT : Hid (Len (trL L p T)) := Lib.hid (HLN.out.2 _ (List.mem_of_getElem? (trL_ix (L := L) (by rw [HK.out]; exact HP.out))))
          have HSM1 := Lib.hid (fun (W' : World) (a a' : Option Addr) (c c' : Nat) (h : Rels W' a c (trL L p T)) (h' : Rels W' a' c' (trL L p T)) => rSame_calls (trL L p T) (trL L p T) a a' c c' W' h h' HLT.out)
          rw [decide_eq_true (rfl : trL L p T = trL L p T)] at HSM1
          obtain ⟨n, hn⟩ : ∃ n, (trL L p T).length = n := ⟨_, rfl⟩
          rw [hn] at HAT1 HAT2 HSM1
          have hwr : IntKind.i64.wrap (IntKind.i64.wrap ((T : Int) + (k : Int)) - (p : Int)) = (U : Int) := by rw [IntWalk.i64_in ((T : Int) + (k : Int)) (by omega), hUI, IntWalk.i64_in _ (by omega)]
          clear hT hU hn hNI hN1 hqk
          go_wp2_with fail
          go_region_held3 (fun w' => wr.grownBy w' none ∧ w'.cell? ⟨w.heap.size, 0, none⟩ = some (.slice sa na sc) ∧ w'.cell? ⟨w.heap.size, 1, none⟩ = some (.int .i64 st) ∧ w'.cell? ⟨w.heap.size, 2, none⟩ = some (.slice ta k tc) ∧ w'.cell? ⟨w.heap.size, 3, none⟩ = some (.int .i64 p))
            (first | exact ⟨⟨rfl, rfl, rfl, Nat.le_refl _, fun _ _ _ => rfl⟩, c0, c1, c2, c3⟩ | (go_split_ands; exact held_next4' g3 (by assumption) (by assumption) (by assumption) (by assumption) (by assumption)) | fail)
            (first | (go_at_call 26; with_reducible refine (HAT1.out _ ?_).mono ?_; (go_split_ands; assumption); rintro e w4 ⟨a', c', rfl, hsp, g3⟩) | (go_at_call 26; with_reducible refine (HAT2.out _ ?_).mono ?_; (go_split_ands; assumption); rintro e w5 ⟨a2, c2', rfl, hsp2, g3⟩; have h45 := Rels.grown hsp.here g3) | (go_at_call 25; with_reducible refine (HSM1.out _ _ _ _ _ ?_ ?_).mono ?_; exact h45; exact hsp2.here; rintro e w6 ⟨rfl, g3⟩) | fail)
          all_goals
            have h6 : wr.grownBy w6 none := by go_split_ands; assumption
            have HG6 := Lib.hid (HG.out.trans (HGT.out.2.trans h6)); clear h6
            go_wp2_with fail
            go_ret
            exact ⟨rfl, HG6.out⟩
end Go.Proofs.Ytbddpjofhddilaa

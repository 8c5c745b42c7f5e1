/- The scanner: a number behind a blank. -/
import Derived.Test.YtgeidnfigncepaaDoorK
namespace Go.Proofs.YtgeidnfigncepaaDoor
open Go.RowKit

theorem numU_next (s : ByteArray) (k : Nat) : numU (rest s k) = numT (nextIs s k 45) (rest s (after (nextIs s k 45) k)) := by
  cases hB : nextIs s k 45 with
  | true => rw [nextIs_cons hB]; rfl
  | false =>
    have h := nextIs_not hB
    show numU (rest s k) = numT false (rest s k)
    unfold numU
    split
    · rename_i u hu; exact absurd hu (h u)
    · rfl
theorem numR_next {s : ByteArray} {k : Nat} (h : nextIs s k 32 = true) : numR (rest s k) = numU (rest s (k + 1)) := by rw [nextIs_cons h]; rfl
theorem numR_not {s : ByteArray} {k : Nat} (h : nextIs s k 32 = false) : numR (rest s k) = none := by
  have h := nextIs_not h
  unfold numR
  split
  · rename_i u hu; exact absurd hu (h u)
  · rfl
theorem rest_get {s : ByteArray} {k j : Nat} (h : k + j < s.size) : (rest s k)[j]? = some s[k + j] := by
  unfold rest
  rw [List.getElem?_drop, List.getElem?_eq_getElem (by simpa using h)]; rfl
theorem digs_le (t : List UInt8) : (digs t).length ≤ 10 := by
  unfold digs
  exact Nat.le_trans (List.takeWhile_prefix _).length_le (by rw [List.length_take]; omega)
theorem digs_get {t : List UInt8} {j : Nat} (h : j < (digs t).length) : t[j]? = (digs t)[j]? := by
  conv => lhs; rw [(digs_spec t).1]
  rw [List.getElem?_append_left h]
/-- At a place among the digits. -/
theorem digs_in {s : ByteArray} {k j : Nat} (h : j < (digs (rest s k)).length) : ∃ hk : k + j < s.size, 48 ≤ s[k + j].toNat ∧ s[k + j].toNat ≤ 57 ∧ (digs (rest s k))[j]? = some s[k + j] := by
  have hl : k + j < s.size := by
    have h1 := digs_get h
    rw [List.getElem?_eq_getElem h] at h1
    have : j < (rest s k).length := by
      rcases Nat.lt_or_ge j (rest s k).length with h' | h'
      · exact h'
      · rw [List.getElem?_eq_none h'] at h1; cases h1
    rw [rest_length] at this; omega
  have h1 := digs_get h
  rw [rest_get hl] at h1
  have h2 := (digs_spec (rest s k)).2 _ (List.mem_of_getElem? h1.symm)
  simp only [isDig, Bool.and_eq_true, decide_eq_true_eq] at h2
  exact ⟨hl, h2.1, h2.2, h1.symm⟩
/-- Behind the digits. -/
theorem digs_out {s : ByteArray} {k : Nat} (h10 : (digs (rest s k)).length ≤ 9) (hlt : k + (digs (rest s k)).length < s.size) : s[k + (digs (rest s k)).length].toNat < 48 ∨ 57 < s[k + (digs (rest s k)).length].toNat := by
  have h := digs_nodig h10
  rw [rest_drop, rest_at hlt] at h
  have := h _ rfl
  simp only [isDig, Bool.and_eq_false_iff, decide_eq_false_iff_not] at this
  omega
theorem val_take {l : List UInt8} {j : Nat} {c : UInt8} (h : l[j]? = some c) : val (l.take (j + 1)) = 10 * val (l.take j) + (c.toNat - 48) := by
  rw [List.take_add_one, h, Option.toList_some, val_snoc]
theorem val_take_lt {t : List UInt8} {j : Nat} (h : j ≤ 9) : val ((digs t).take j) < 1000000000 := by
  have h1 := val_lt ((digs t).take j) (fun c hc => (digs_spec t).2 c (List.mem_of_mem_take hc))
  have h2 : 10 ^ ((digs t).take j).length ≤ 10 ^ 9 := Nat.pow_le_pow_right (by omega) (by rw [List.length_take]; omega)
  omega

/-- What is read as a number. -/
def NumP (w : World) (b : Nat) (s : ByteArray) (r : Option (Int × List UInt8)) (e : Ending) (w' : World) : Prop :=
  w.grownBy w' (some b) ∧ match r with
    | none => e = .returned (.tuple #[.int .i64 0, .bool false])
    | some (x, t) => e = .returned (.tuple #[.int .i64 x, .bool true]) ∧ ∃ k', k' ≤ s.size ∧ rest s k' = t ∧ Scan w' b s k'
theorem NumP.no {w w' : World} {b : Nat} {s : ByteArray} {r : Option (Int × List UInt8)} (hr : r = none) (hg : w.grownBy w' (some b)) : NumP w b s r (.returned (.tuple #[.int .i64 0, .bool false])) w' := by
  subst hr; exact ⟨hg, rfl⟩

set_option maxRecDepth 100000 in
set_option maxHeartbeats 4000000 in
theorem number_calls (b k : Nat) (s : ByteArray) (w : World) (hs : s.size ≤ 2000000) (hk : k ≤ s.size) (h : Scan w b s k) :
    Calls Tryd.prog 23 #[.pointer (some ⟨b, 0, none⟩)] w (NumP w b s (numR (rest s k))) := by
  have HS := Lib.hid (And.intro h (And.intro hs hk)); clear h hk
  go_enter Tryd.func23, Tryd.ntmps23
  go_wp2_with fail
  refine (take_calls b k s 32 32 rfl w HS.out.2.1 HS.out.2.2 HS.out.1).mono ?_
  rintro e w1 ⟨rfl, hsc, hg1⟩
  obtain ⟨B, hB⟩ : ∃ B, nextIs s k 32 = B := ⟨_, rfl⟩
  rw [hB] at hsc ⊢
  have HB := Lib.hid (And.intro hB (And.intro hsc hg1)); clear hB hsc hg1
  cases B with
  | false =>
    go_wp2_with fail
    go_ret2
    exact NumP.no (numR_not HB.out.1) HB.out.2.2
  | true =>
    have hk1 := nextIs_lt HB.out.1
    go_wp2_with fail
    refine (take_calls b (k + 1) s 45 45 rfl w1 HS.out.2.1 hk1 HB.out.2.1).mono ?_
    rintro e w2 ⟨rfl, hsc, hg2⟩
    obtain ⟨N, hN⟩ : ∃ N, nextIs s (k + 1) 45 = N := ⟨_, rfl⟩
    have hnr : numR (rest s k) = numT N (rest s (after N (k + 1))) := by rw [numR_next HB.out.1, numU_next, hN]
    have hstl : after N (k + 1) ≤ s.size := by
      cases N with
      | false => exact hk1
      | true => exact nextIs_lt hN
    rw [hN] at hsc ⊢
    obtain ⟨st, hst⟩ : ∃ st, after N (k + 1) = st := ⟨_, rfl⟩
    rw [hst] at hsc hstl hnr
    have HNR := Lib.hid hnr
    have HG2 := Lib.hid (And.intro hsc (HB.out.2.2.trans hg2))
    obtain ⟨c0, c1, fr⟩ := hsc
    clear hg2 hst hnr hN HB hk1
    go_wp2_with fail
    obtain ⟨D, hD⟩ : ∃ D, digs (rest s st) = D := ⟨_, rfl⟩
    have HD := Lib.hid hD; clear hD
    go_loopg [2] (s.size - st) (fun g s2 wr => ∃ (p x : Nat), s2 = .int .i64 (x : Int) ∧ g = s.size - p ∧ st ≤ p ∧ p ≤ st + D.length ∧ p ≤ s.size ∧ x = val (D.take (p - st)) ∧ Scan wr b s p ∧ w.grownBy wr (some b))
    case atStart => exact ⟨st, 0, rfl, rfl, Nat.le_refl _, by omega, hstl, by simp [val], HG2.out.1, HG2.out.2⟩
    case round =>
      obtain ⟨p, x, rfl, hgp, hstp, hpd, hps, hx, hscp, hgr⟩ := hrel
      have HP := Lib.hid (And.intro hgp (And.intro hx (And.intro hscp hgr)))
      obtain ⟨c0, c1, fr⟩ := hscp
      clear hgp hx hgr
      have hD10 : D.length ≤ 10 := by rw [← HD.out]; exact digs_le _
      by_cases hj : p < st + D.length
      · have HIN : Hid (∃ hk : p < s.size, 48 ≤ s[p].toNat ∧ s[p].toNat ≤ 57 ∧ D[p - st]? = some s[p]) := Lib.hid (by
          have := digs_in (s := s) (k := st) (j := p - st) (by rw [HD.out]; omega)
          rw [HD.out] at this
          simpa only [show st + (p - st) = p by omega] using this)
        have hplt : p < s.size := HIN.out.1
        have hpltI : (p : Int) < (s.size : Int) := by omega
        have hd0 : decide (p < s.size) = true := by simpa using hplt
        obtain ⟨c, hc⟩ : ∃ c : Nat, s[p].toNat = c := ⟨_, rfl⟩
        have hc48 : 48 ≤ c := by rw [← hc]; exact HIN.out.2.1
        have hc57 : c ≤ 57 := by rw [← hc]; exact HIN.out.2.2.1
        have hd1 : decide ((48 : Int) ≤ (s[p].toNat : Int)) = true := by rw [hc]; simp; omega
        have hd2 : decide ((s[p].toNat : Int) ≤ 57) = true := by rw [hc]; simp; omega
        have hd3 : decide ((p : Int) - (st : Int) ≤ 9) = true := by simp; omega
        have hx9 : x < 1000000000 := by rw [HP.out.2.1, ← HD.out]; exact val_take_lt (by omega)
        have HCC := Lib.hid hc
        clear hc
        go_wp2
        go_quiet (fail)
        go_wp2
        have hb48 : 48 ≤ s[p].toNat := HIN.out.2.1
        have hb57 : s[p].toNat ≤ 57 := HIN.out.2.2.1
        have w1' : IntKind.i64.wrap (10 * (x : Int)) = 10 * (x : Int) := IntWalk.i64_in _ (by omega)
        have w2' : IntKind.u8.wrap ((s[p].toNat : Int) - 48) = (s[p].toNat : Int) - 48 := IntWalk.u8_in _ (by omega)
        have w3' : IntKind.i64.wrap ((s[p].toNat : Int) - 48) = (s[p].toNat : Int) - 48 := IntWalk.i64_in _ (by omega)
        have w4' : IntKind.i64.wrap (10 * (x : Int) + ((s[p].toNat : Int) - 48)) = 10 * (x : Int) + ((s[p].toNat : Int) - 48) := IntWalk.i64_in _ (by omega)
        go_quiet (fail)
        clear w1' w2' w3' w4'
        go_wp2
        go_roundg (s.size - (p + 1))
        case measure => rw [HP.out.1]; omega
        case rel =>
          refine ⟨p + 1, 10 * x + (s[p].toNat - 48), congrArg (Value.int .i64) (by omega), rfl, by omega, by omega, by omega, ?_, (HP.out.2.2.1.drewN _).set (p + 1) _ rfl, (HP.out.2.2.2.trans (grown_drewN _ _ _)).trans (grown_set _ _ _ _)⟩
          rw [show p + 1 - st = (p - st) + 1 by omega, val_take HIN.out.2.2.2, ← HP.out.2.1]
      · have hpe : p - st = D.length := by omega
        have hxD : Hid (x = val D) := Lib.hid (by rw [HP.out.2.1, hpe, List.take_of_length_le (Nat.le_refl _)])
        have hn1 : ((p : Int) - (st : Int) == 0) = decide (D.length = 0) := by rw [Bool.eq_iff_iff, beq_iff_eq, decide_eq_true_eq]; omega
        have hn2 : decide (9 < (p : Int) - (st : Int)) = decide (9 < D.length) := by rw [Bool.eq_iff_iff]; simp; omega
        have hn3 : decide (1 < (p : Int) - (st : Int)) = decide (1 < D.length) := by rw [Bool.eq_iff_iff]; simp; omega
        have hout : (decide (p < s.size) = false) ∨ (∃ hk : p < s.size, decide ((48 : Int) ≤ (s[p].toNat : Int)) = false) ∨ (∃ hk : p < s.size, decide ((48 : Int) ≤ (s[p].toNat : Int)) = true ∧ decide ((s[p].toNat : Int) ≤ 57) = false) ∨
            (∃ hk : p < s.size, decide ((48 : Int) ≤ (s[p].toNat : Int)) = true ∧ decide ((s[p].toNat : Int) ≤ 57) = true ∧ decide ((p : Int) - (st : Int) ≤ 9) = false ∧ 9 < D.length) := by
          by_cases hk : p < s.size
          · by_cases h1 : 48 ≤ s[p].toNat
            · by_cases h2 : s[p].toNat ≤ 57
              · refine .inr (.inr (.inr ⟨hk, decide_eq_true (by omega), decide_eq_true (by omega), ?_⟩))
                have h9 : 9 < D.length := by
                  rcases Nat.lt_or_ge 9 D.length with h | h
                  · exact h
                  · have := digs_out (s := s) (k := st) (by rw [HD.out]; exact h)
                    rw [HD.out] at this
                    simp only [show st + D.length = p by omega] at this
                    have := this hk
                    omega
                exact ⟨decide_eq_false (by omega), h9⟩
              · exact .inr (.inr (.inl ⟨hk, decide_eq_true (by omega), decide_eq_false (by omega)⟩))
            · exact .inr (.inl ⟨hk, decide_eq_false (by omega)⟩)
          · exact .inl (by simpa using hk)
        have HPE := Lib.hid (And.intro hpe hpd); clear hpe
        have hout' : (decide (p < s.size) = false) ∨ (∃ hk : p < s.size, decide ((48 : Int) ≤ (s[p].toNat : Int)) = false) ∨ (∃ hk : p < s.size, decide ((48 : Int) ≤ (s[p].toNat : Int)) = true ∧ decide ((s[p].toNat : Int) ≤ 57) = false) ∨
            (∃ hk : p < s.size, decide ((48 : Int) ≤ (s[p].toNat : Int)) = true ∧ decide ((s[p].toNat : Int) ≤ 57) = true ∧ decide ((p : Int) - (st : Int) ≤ 9) = false) := by
          rcases hout with h | h | h | ⟨h, h1, h2, h3, _⟩
          · exact .inl h
          · exact .inr (.inl h)
          · exact .inr (.inr (.inl h))
          · exact .inr (.inr (.inr ⟨h, h1, h2, h3⟩))
        clear hout
        have hout := hout'
        clear hout'
        by_cases h0 : D.length = 0
        · have f1 : ((p : Int) - (st : Int) == 0) = true := by rw [hn1]; exact decide_eq_true h0
          have HR : Hid (numR (rest s k) = none) := Lib.hid (by rw [HNR.out]; unfold numT; rw [HD.out, if_pos (.inl h0)])
          clear hn1 hn2 hn3 h0
          rcases hout with e1 | ⟨hk, e1⟩ | ⟨hk, e1, e2⟩ | ⟨hk, e1, e2, e3⟩
          all_goals
            go_wp2
            go_quiet (fail)
            go_wp2
            go_ret2
            exact NumP.no HR.out (HP.out.2.2.2.trans (grown_drewN _ _ _))
        have f1 : ((p : Int) - (st : Int) == 0) = false := by rw [hn1]; exact decide_eq_false h0
        by_cases h9 : 9 < D.length
        · have f2 : decide (9 < (p : Int) - (st : Int)) = true := by rw [hn2]; exact decide_eq_true h9
          have HR : Hid (numR (rest s k) = none) := Lib.hid (by rw [HNR.out]; unfold numT; rw [HD.out, if_pos (.inr (.inl h9))])
          clear hn1 hn2 hn3 h0
          rcases hout with e1 | ⟨hk, e1⟩ | ⟨hk, e1, e2⟩ | ⟨hk, e1, e2, e3⟩
          all_goals
            go_wp2
            go_quiet (fail)
            go_wp2
            go_ret2
            exact NumP.no HR.out (HP.out.2.2.2.trans (grown_drewN _ _ _))
        have f2 : decide (9 < (p : Int) - (st : Int)) = false := by rw [hn2]; exact decide_eq_false h9
        obtain ⟨hst, -, -, -⟩ := digs_in (s := s) (k := st) (j := 0) (by rw [HD.out]; omega)
        have hst : st < s.size := by omega
        have hstI : (st : Int) < (s.size : Int) := by omega
        have HHD : Hid ((rest s st).head? = some s[st]) := Lib.hid (by rw [rest_at hst]; rfl)
        have HRP : Hid (rest s p = (rest s st).drop D.length) := Lib.hid (by rw [rest_drop]; congr 1; have := HPE.out; omega)
        have HV : Hid (∀ b : Bool, Ending.returned (.tuple #[.int .i64 (if b then -(x : Int) else (x : Int)), .bool true]) = .returned (.tuple #[.int .i64 (if b then -((val D : Nat) : Int) else ((val D : Nat) : Int)), .bool true])) := Lib.hid (by rw [hxD.out]; exact fun _ => rfl)
        by_cases hz : s[st].toNat = 48
        · have f3 : ((s[st].toNat : Int) == 48) = true := by rw [hz]; rfl
          have HZ : Hid (s[st] = 48) := Lib.hid (UInt8.toNat_inj.1 hz)
          by_cases h1 : 1 < D.length
          · have f4 : decide (1 < (p : Int) - (st : Int)) = true := by rw [hn3]; exact decide_eq_true h1
            have HR : Hid (numR (rest s k) = none) := Lib.hid (by rw [HNR.out]; unfold numT; rw [HD.out, if_pos (.inr (.inr ⟨by rw [HHD.out, HZ.out], .inl h1⟩))])
            clear hn1 hn2 hn3 h0 hz h9
            rcases hout with e1 | ⟨hk, e1⟩ | ⟨hk, e1, e2⟩ | ⟨hk, e1, e2, e3⟩
            all_goals
              go_wp2
              go_quiet (fail)
              go_wp2
              go_ret2
              exact NumP.no HR.out (HP.out.2.2.2.trans (grown_drewN _ _ _))
          have f4 : decide (1 < (p : Int) - (st : Int)) = false := by rw [hn3]; exact decide_eq_false h1
          cases N with
          | true =>
            have HR : Hid (numR (rest s k) = none) := Lib.hid (by rw [HNR.out]; unfold numT; rw [HD.out, if_pos (.inr (.inr ⟨by rw [HHD.out, HZ.out], .inr rfl⟩))])
            clear hn1 hn2 hn3 h0 hz h9
            rcases hout with e1 | ⟨hk, e1⟩ | ⟨hk, e1, e2⟩ | ⟨hk, e1, e2, e3⟩
            all_goals
              go_wp2
              go_quiet (fail)
              go_wp2
              go_ret2
              exact NumP.no HR.out (HP.out.2.2.2.trans (grown_drewN _ _ _))
          | false =>
            have HR : Hid (numR (rest s k) = some (((val D : Nat) : Int), (rest s st).drop D.length)) := Lib.hid (by
              rw [HNR.out]; unfold numT; rw [HD.out, if_neg]
              · rfl
              · rintro (h | h | ⟨_, h | h⟩)
                · exact h0 h
                · exact h9 h
                · exact h1 h
                · cases h)
            clear hn1 hn2 hn3 h0 hz h9
            rcases hout with e1 | ⟨hk, e1⟩ | ⟨hk, e1, e2⟩ | ⟨hk, e1, e2, e3⟩
            all_goals
              go_wp2
              go_quiet (fail)
              go_wp2
              go_ret2
              exact ⟨HP.out.2.2.2.trans (grown_drewN _ _ _), by rw [HR.out]; exact ⟨HV.out false, p, hps, HRP.out, HP.out.2.2.1.drewN _⟩⟩
        · have f3 : ((s[st].toNat : Int) == 48) = false := by rw [beq_eq_false_iff_ne]; omega
          have HR : Hid (numR (rest s k) = some (if N then -((val D : Nat) : Int) else ((val D : Nat) : Int), (rest s st).drop D.length)) := Lib.hid (by
            rw [HNR.out]; unfold numT; rw [HD.out, if_neg]
            rintro (h | h | ⟨h, _⟩)
            · exact h0 h
            · exact h9 h
            · rw [HHD.out] at h; injection h with h; rw [h] at hz; exact hz rfl)
          have hx9 : x < 1000000000 := by rw [hxD.out, ← HD.out]; have := val_take_lt (t := rest s st) (j := D.length) (by omega); rw [← HD.out, List.take_of_length_le (Nat.le_refl _)] at this; exact this
          clear hn1 hn2 hn3 h0 hz h9
          cases N with
          | true =>
            rcases hout with e1 | ⟨hk, e1⟩ | ⟨hk, e1, e2⟩ | ⟨hk, e1, e2, e3⟩
            all_goals
              go_wp2
              go_quiet (fail)
              go_wp2
              go_ret2
              exact ⟨HP.out.2.2.2.trans (grown_drewN _ _ _), by rw [HR.out]; exact ⟨HV.out true, p, hps, HRP.out, HP.out.2.2.1.drewN _⟩⟩
          | false =>
            rcases hout with e1 | ⟨hk, e1⟩ | ⟨hk, e1, e2⟩ | ⟨hk, e1, e2, e3⟩
            all_goals
              go_wp2
              go_quiet (fail)
              go_wp2
              go_ret2
              exact ⟨HP.out.2.2.2.trans (grown_drewN _ _ _), by rw [HR.out]; exact ⟨HV.out false, p, hps, HRP.out, HP.out.2.2.1.drewN _⟩⟩
end Go.Proofs.YtgeidnfigncepaaDoor

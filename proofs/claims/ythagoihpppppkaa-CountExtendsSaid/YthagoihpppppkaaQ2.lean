/- The totalizer over a builder. -/
import Derived.Test.YthagoihpppppkaaQ1
namespace Go.Proofs.Ythagoihpppppkaa
open Go.RowKit Go.Maps

theorem IntsN.take {N : Nat → Prop} {w : World} {a : Option Addr} {c : Nat} {zs : List Int} (h : IntsN N w a c zs) (k : Nat) : IntsN N w a c (zs.take k) := by
  obtain ⟨hc, h | ⟨b, o, ha, hb, hl, hz⟩⟩ := h
  · exact ⟨by rw [List.length_take]; omega, .inl (by rw [h, List.take_nil])⟩
  · exact ⟨by rw [List.length_take]; omega, .inr ⟨b, o, ha, hb, hl, fun j z hj => hz j z (by
      have := (List.getElem?_eq_some_iff.1 hj).1
      rw [List.length_take] at this
      rwa [List.getElem?_take_of_lt (by omega)] at hj)⟩⟩
theorem IntsN.drop {N : Nat → Prop} {w : World} {b o c : Nat} {zs : List Int} (h : IntsN N w (some ⟨b, o, none⟩) c zs) (k : Nat) : IntsN N w (some ⟨b, o + k, none⟩) (c - k) (zs.drop k) := by
  obtain ⟨hc, h | ⟨b', o', ha, hb, hl, hz⟩⟩ := h
  · exact ⟨by rw [List.length_drop]; omega, .inl (by rw [h, List.drop_nil])⟩
  · cases ha
    exact ⟨by rw [List.length_drop]; omega, .inr ⟨b, o + k, rfl, hb, hl, fun j z hj => by rw [Nat.add_assoc]; exact hz (k + j) z (by rwa [List.getElem?_drop] at hj)⟩⟩

set_option maxHeartbeats 1000000 in
theorem total_small (p q : Nat) (l : List Int) (va : Option Addr) (ca : Nat) (N : Nat → Prop) (w : World) (gs : List Gt) (hi : Int) (h : GS p q N w gs hi) (ha : IntsN N w va ca l) (hl : l.length < 2) :
    Calls Try.prog 41 #[.pointer (some ⟨q, 0, none⟩), .slice va l.length ca] w fun e w' => ∃ vo co N' hi', e = .returned (.slice vo l.length co) ∧ GS p q N' w' gs hi' ∧ Goes N w N' w' ∧ IntsN N' w' vo co l := by
  obtain ⟨n, hn⟩ : ∃ n, l.length = n := ⟨_, rfl⟩
  have HN := Lib.hid hn
  have HH := Lib.hid h
  have HC := Lib.hid (cloneI_calls l va ca w ha.weak (by omega))
  rw [hn] at hl HC ⊢
  have f1 : decide ((n : Int) < 2) = true := decide_eq_true (by omega)
  have f2 : decide (n < 2) = true := decide_eq_true hl
  clear h ha hn hl
  go_enter Try.func41, Try.ntmps41
  go_wp2_with fail
  refine HC.out.mono ?_
  rintro e w2 ⟨vo, co, rfl, hown, hg⟩
  have HO := Lib.hid hown
  have HG := Lib.hid hg
  clear hown hg HC
  go_wp2_with fail
  go_ret
  refine ⟨vo, co, N, hi, rfl, HH.out.grown HG.out, Goes.grown HG.out, IntsN.own HN.out HO.out (fun k e hk => ?_)⟩
  have h1 := (HO.out.lt k e).1
  have h2 := HH.out.low k hk
  omega

set_option maxRecDepth 100000 in
set_option maxHeartbeats 4000000 in
theorem total_calls (p q : Nat) : ∀ (f : Nat) (l : List Int) (va : Option Addr) (ca : Nat) (N : Nat → Prop) (w : World) (gs : List Gt) (hi : Int), GS p q N w gs hi → IntsN N w va ca l → Good gs → (∀ r ∈ l, Ok gs r) → l.length ≤ 2 ^ f → gs.length + costT f l.length ≤ 990 → l.length ≤ 64 →
    Calls Try.prog 41 #[.pointer (some ⟨q, 0, none⟩), .slice va l.length ca] w fun e w' => ∃ vo co N' hi', e = .returned (.slice vo l.length co) ∧ GS p q N' w' ((totalP f l).run gs).1 hi' ∧ Goes N w N' w' ∧ IntsN N' w' vo co ((totalP f l).run gs).2 := by
  intro f
  induction f with
  | zero =>
    intro l va ca N w gs hi h ha _ _ hl _ _
    exact total_small p q l va ca N w gs hi h ha (by simp at hl; omega)
  | succ f ih =>
    intro l va ca N w gs hi h ha hG ho hl hc h64
    by_cases h2 : l.length < 2
    · have e : totalP (f + 1) l = .ret l := by unfold totalP; rw [if_pos h2]
      rw [e]
      exact total_small p q l va ca N w gs hi h ha h2
    · obtain ⟨n, hn⟩ : ∃ n, l.length = n := ⟨_, rfl⟩
      obtain ⟨m, hm⟩ : ∃ m, n / 2 = m := ⟨_, rfl⟩
      have hcost : costT (f + 1) l.length = costT f m + costT f (n - m) + costA m (n - m) := by
        show (if l.length < 2 then 0 else _) = _
        rw [if_neg h2, hn, hm]
      have e : totalP (f + 1) l = (totalP f (l.take m)).bind fun a => (totalP f (l.drop m)).bind fun b => addP a b := by
        show (if l.length < 2 then Pr.ret l else _) = _
        rw [if_neg h2, hn, hm]
      have hp : 2 ^ (f + 1) = 2 * 2 ^ f := by rw [Nat.pow_succ]; omega
      have l1 : (l.take m).length = m := by rw [List.length_take]; omega
      have l2 : (l.drop m).length = n - m := by rw [List.length_drop, hn]
      have o1 : ∀ r ∈ l.take m, Ok gs r := fun r hr => ho r (List.mem_of_mem_take hr)
      have o2 : ∀ r ∈ l.drop m, Ok gs r := fun r hr => ho r (List.mem_of_mem_drop hr)
      obtain ⟨ra, hra⟩ : ∃ r, (totalP f (l.take m)).run gs = r := ⟨_, rfl⟩
      obtain ⟨g1, A⟩ := ra
      obtain ⟨rb, hrb⟩ : ∃ r, (totalP f (l.drop m)).run g1 = r := ⟨_, rfl⟩
      obtain ⟨g2, B⟩ := rb
      rw [hcost] at hc
      have s1 := Pr.safe_run _ (safe_totalP f (l.take m) hG o1 (by rw [l1]; omega) (by rw [l1]; omega))
      rw [hra, l1] at s1
      obtain ⟨a1, a2, a3, _⟩ := s1
      simp only at a1 a2 a3
      have s2 := Pr.safe_run _ (safe_totalP f (l.drop m) a1.good (fun r hr => a1.ok (o2 r hr)) (by rw [l2]; omega) (by rw [l2]; have := a1.len; omega))
      rw [hrb, l2] at s2
      obtain ⟨b1, b2, b3, _⟩ := s2
      simp only at b1 b2 b3
      have HRES := Lib.hid (show (totalP (f + 1) l).run gs = (addP A B).run g2 from by rw [e, Pr.run_bind, hra]; simp only; rw [Pr.run_bind, hrb])
      have HI1 := Lib.hid (ih (l.take m) va ca N w gs hi h (ha.take m) hG o1 (by rw [l1]; omega) (by rw [l1]; omega) (by rw [l1]; omega))
      obtain ⟨b, o, rfl⟩ : ∃ b o, va = some ⟨b, o, none⟩ := by
        obtain ⟨_, h0 | ⟨b, o, e, _⟩⟩ := ha
        · exfalso; have h9 := congrArg List.length h0; simp only [List.length_nil] at h9; omega
        · exact ⟨b, o, e⟩
      have HI2 := Lib.hid (fun (N1 : Nat → Prop) (w1 : World) (hi1 : Int) (hs : GS p q N1 w1 g1 hi1) (hd : IntsN N1 w1 (some ⟨b, o + m, none⟩) (ca - m) (l.drop m)) => ih (l.drop m) (some ⟨b, o + m, none⟩) (ca - m) N1 w1 g1 hi1 hs hd a1.good (fun r hr => a1.ok (o2 r hr)) (by rw [l2]; omega) (by rw [l2]; have := a1.len; omega) (by rw [l2]; omega))
      have HI3 := Lib.hid (fun (va1 : Option Addr) (ca1 : Nat) (vb1 : Option Addr) (cb1 : Nat) (N1 : Nat → Prop) (w1 : World) (hi1 : Int) (hs : GS p q N1 w1 g2 hi1) (hA : IntsN N1 w1 va1 ca1 A) (hB : IntsN N1 w1 vb1 cb1 B) => add_calls A B va1 ca1 vb1 cb1 p q N1 w1 g2 hi1 hs hA hB b1.good (fun r hr => ok_i64 (by have := b1.len; have := a1.len; omega) (b1.ok (a2 r hr))) (fun r hr => ok_i64 (by have := b1.len; have := a1.len; omega) (b2 r hr)) (by rw [a3, b3]; have := b1.len; have := a1.len; omega) (by omega) (by omega))
      rw [l1, hra] at HI1
      rw [l2, hrb] at HI2
      rw [a3, b3] at HI3
      have HD := Lib.hid (ha.drop m)
      have hcap := ha.1
      have HMN := Lib.hid (show m + (n - m) = n by omega)
      rw [hn] at hcap ⊢
      obtain ⟨k, hk⟩ : ∃ k, n - m = k := ⟨_, rfl⟩
      obtain ⟨cm, hcm⟩ : ∃ k, ca - m = k := ⟨_, rfl⟩
      rw [hk] at HI2 HI3 HMN
      rw [hcm] at HI2 HD
      have f1 : decide ((n : Int) < 2) = false := decide_eq_false (by omega)
      have f2 : decide (n < 2) = false := decide_eq_false (by omega)
      have w3 : Int.tdiv (n : Int) 2 = (m : Int) := by rw [Int.tdiv_eq_ediv_of_nonneg (by omega)]; omega
      have w4 : IntKind.i64.wrap (m : Int) = (m : Int) := IntWalk.i64_in _ (by omega)
      have w5 : (n : Int) - (m : Int) = (k : Int) := by omega
      have w6 : (ca : Int) - (m : Int) = (cm : Int) := by omega
      have d1 : (m : Int) ≤ (n : Int) := by omega
      have d2 : (n : Int) ≤ (ca : Int) := by omega
      have d3 : (m : Int) ≤ (ca : Int) := by omega
      have d4 : ¬ (ca = m) := by omega
      have d5 : m ≤ n := by omega
      have d6 : n ≤ ca := by omega
      have d7 : m ≤ ca := by omega
      clear h ha hG ho hl hc h64 h2 hn hm hcost e hp l1 l2 o1 o2 hra hrb a1 a2 a3 b1 b2 b3 ih hcap
      go_enter Try.func41, Try.ntmps41
      go_wp2_with fail
      refine HI1.out.mono ?_
      rintro e w1 ⟨va1, ca1, N1, hi1, rfl, hs1, hgo1, hA1⟩
      have HS1 := Lib.hid hs1
      have HG1 := Lib.hid hgo1
      have HA1 := Lib.hid hA1
      have HI2' := Lib.hid (HI2.out N1 w1 hi1 hs1 (HD.out.goes hgo1))
      clear hs1 hgo1 hA1 HI1 HI2
      go_wp2_with fail
      refine HI2'.out.mono ?_
      rintro e w2 ⟨vb1, cb1, N2, hi2, rfl, hs2, hgo2, hB2⟩
      have HI3' := Lib.hid (HI3.out va1 ca1 vb1 cb1 N2 w2 hi2 hs2 (HA1.out.goes hgo2) hB2)
      have HG2 := Lib.hid (HG1.out.trans hgo2)
      clear hs2 hgo2 hB2 HI2' HI3 HG1 HA1 HS1
      go_wp2_with fail
      refine HI3'.out.mono ?_
      rintro e w3 ⟨vo, co, N3, hi3, rfl, hs3, hgo3, hO3, _⟩
      have HS3 := Lib.hid hs3
      have HG3 := Lib.hid (HG2.out.trans hgo3)
      have HO3 := Lib.hid hO3
      rw [HMN.out]
      clear hs3 hgo3 hO3 HI3' HG2
      go_wp2_with fail
      go_ret
      exact ⟨vo, co, N3, hi3, rfl, by rw [HRES.out]; exact HS3.out, HG3.out, by rw [HRES.out]; exact HO3.out⟩
end Go.Proofs.Ythagoihpppppkaa

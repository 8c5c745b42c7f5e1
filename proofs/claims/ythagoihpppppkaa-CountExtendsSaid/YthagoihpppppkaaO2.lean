/- The merge sort: which comparators it applies, whatever state the comparator turns. -/
import Derived.Test.YthagoihpppppkaaO1
import Derived.Deep.DeepCutAuto
import Derived.Laws.EntriesVeiled
namespace Go.Proofs.Ythagoihpppppkaa
open Go.RowKit Go.Maps

section
variable (St : List (Nat × Nat) → (Nat → Prop) → World → Prop) (cv : Value)
/-- What a step leaves: the state, whose blocks are elder ones of N or new; nothing but N has turned. -/
def After (D : List (Nat × Nat)) (N : Nat → Prop) (w w' : World) : Prop := ∃ N', St D N' w' ∧ Off N w w' ∧ ∀ k, N' k → N k ∨ w.heap.size ≤ k
/-- The state does not rest on blocks that are not its own. -/
def Rests : Prop := ∀ D N (w w' : World) (B : Nat), St D N w → B ≤ w.heap.size → (∀ k, N k → k < B) → (∀ k, k < B → w'.heap[k]? = w.heap[k]?) → w.heap.size ≤ w'.heap.size → St D N w'
end
theorem After.trans {St : List (Nat × Nat) → (Nat → Prop) → World → Prop} {D E : List (Nat × Nat)} {N N1 : Nat → Prop} {w w1 w' : World} (_h : St D N1 w1) (ho : Off N w w1) (hn : ∀ k, N1 k → N k ∨ w.heap.size ≤ k) (h2 : After St E N1 w1 w') : After St E N w w' := by
  obtain ⟨N2, s2, o2, n2⟩ := h2
  refine ⟨N2, s2, ho.trans o2 (fun k hk h => (hn k h).resolve_right (by omega)), fun k hk => ?_⟩
  rcases n2 k hk with h | h
  · exact hn k h
  · have := ho.size; exact .inr (by omega)
/-- The comparator's contract: along the list of all comparators. -/
def Comp (St : List (Nat × Nat) → (Nat → Prop) → World → Prop) (bo bw : Nat) (full : List (Nat × Nat)) : Prop :=
  ∀ (D : List (Nat × Nat)) (N : Nat → Prop) (w : World) (i j : Nat), St D N w → D ++ [(i, j)] <+: full → Calls Try.prog 37 #[.int .i64 (i : Int), .int .i64 (j : Int), .pointer (some ⟨bo, 0, none⟩), .pointer (some ⟨bw, 0, none⟩)] w fun e w' => e = .returned (.tuple #[]) ∧ After St (D ++ [(i, j)]) N w w'
abbrev cmpV (bo bw : Nat) : Value := .func (.func 37) #[] #[.pointer (some ⟨bo, 0, none⟩), .pointer (some ⟨bw, 0, none⟩)]
abbrev mergV (bs bc bm bf : Nat) : Value := .func (.func 52) #[] #[.pointer (some ⟨bs, 0, none⟩), .pointer (some ⟨bc, 0, none⟩), .pointer (some ⟨bm, 0, none⟩), .pointer (some ⟨bf, 0, none⟩)]
/-- merge's captured boxes. -/
structure Caps (bo bw bs bc bm bf : Nat) (size first : Nat) (N : Nat → Prop) (w : World) : Prop where
  s : w.cell? ⟨bs, 0, none⟩ = some (.int .i64 (size : Int))
  c : w.cell? ⟨bc, 0, none⟩ = some (cmpV bo bw)
  m : w.cell? ⟨bm, 0, none⟩ = some (mergV bs bc bm bf)
  f : w.cell? ⟨bf, 0, none⟩ = some (.int .i64 (first : Int))
  ns : ¬ N bs
  nc : ¬ N bc
  nm : ¬ N bm
  nf : ¬ N bf
theorem Caps.off {bo bw bs bc bm bf size first : Nat} {N N' : Nat → Prop} {w w' : World} (h : Caps bo bw bs bc bm bf size first N w) (ho : Off N w w') (hn : ∀ k, N' k → N k ∨ w.heap.size ≤ k) : Caps bo bw bs bc bm bf size first N' w' :=
  have far : ∀ b v, w.cell? ⟨b, 0, none⟩ = some v → ¬ N b → ¬ N' b := fun b v hv hb hb' => by
    have : b < w.heap.size := lies_lt hv
    rcases hn b hb' with h1 | h1
    · exact hb h1
    · omega
  ⟨ho.cell h.s h.ns, ho.cell h.c h.nc, ho.cell h.m h.nm, ho.cell h.f h.nf, far _ _ h.s h.ns, far _ _ h.c h.nc, far _ _ h.m h.nm, far _ _ h.f h.nf⟩
theorem loopL_stop {lim st i : Nat} (h : ¬ i + st < lim) : ∀ f, loopL lim st f i = []
  | 0 => rfl
  | _ + 1 => by unfold loopL; rw [if_neg h]
theorem pre_left {α : Type} {A B C : List α} (h : A ++ B <+: C) : A <+: C := (List.prefix_append A B).trans h

set_option maxRecDepth 100000 in
set_option maxHeartbeats 4000000 in
theorem merge_calls (St : List (Nat × Nat) → (Nat → Prop) → World → Prop) (bo bw : Nat) (full : List (Nat × Nat)) (hcmp : Comp St bo bw full) (bs bc bm bf size first : Nat) (hs : size ≤ 1000) (hf : first ≤ 1000) :
    ∀ (d : Nat) (start st : Nat) (D : List (Nat × Nat)) (N : Nat → Prop) (w : World), Caps bo bw bs bc bm bf size first N w → St D N w → D ++ mergL (first + size) d start st <+: full → 2 ^ (d + 1) * st = size → 0 < st → start < first + st →
      Calls Try.prog 52 #[.int .i64 (start : Int), .int .i64 (st : Int), .pointer (some ⟨bs, 0, none⟩), .pointer (some ⟨bc, 0, none⟩), .pointer (some ⟨bm, 0, none⟩), .pointer (some ⟨bf, 0, none⟩)] w fun e w' => e = .returned (.tuple #[]) ∧ After St (D ++ mergL (first + size) d start st) N w w' := by
  intro d
  induction d with
  | zero =>
    intro start st D N w hc hst hp he h0 hs0
    have HC := Lib.hid (hcmp D N w start (start + st) hst hp)
    have hcs := hc.s; have hcc := hc.c
    have e1 : 2 * st = size := by simpa using he
    obtain ⟨e, hee⟩ : ∃ e, start + st = e := ⟨_, rfl⟩
    have w1 : IntKind.i64.wrap (2 * (st : Int)) = (size : Int) := by rw [IntWalk.i64_in _ (by omega)]; omega
    have w2 : IntKind.i64.wrap ((start : Int) + (st : Int)) = (e : Int) := by rw [IntWalk.i64_in _ (by omega)]; omega
    have HM := Lib.hid (show mergL (first + size) 0 start st = [(start, e)] by rw [← hee]; rfl)
    rw [hee] at HC
    have HP := Lib.hid hp
    clear hc hst hp he hs0 e1 hee
    go_enter Try.func52, Try.ntmps52
    go_wp2_with fail
    refine HC.out.mono ?_
    rintro e w1 ⟨rfl, ha⟩
    have HA := Lib.hid ha; clear ha
    go_wp2_with fail
    refine bodyPost_ret (results_none rfl _ _ _) rfl ?_
    exact ⟨rfl, by rw [HM.out]; exact HA.out⟩
  | succ d ih =>
    intro start st D N w hc hst hp he h0 hs0
    have e2 : 2 ^ (d + 1) * (2 * st) = size := by rw [← he, Nat.pow_succ 2 (d + 1), Nat.mul_assoc]
    have hbig : 4 * st ≤ size := by
      have h1 : 1 ≤ 2 ^ d := Nat.one_le_two_pow
      have h2 : 2 ^ (d + 1 + 1) * st = 2 ^ d * (4 * st) := by rw [Nat.pow_succ, Nat.pow_succ]; simp only [Nat.mul_assoc]; congr 1; omega
      have h3 : 1 * (4 * st) ≤ 2 ^ d * (4 * st) := Nat.mul_le_mul_right _ h1
      omega
    have hne : ¬ 2 * st = size := by omega
    obtain ⟨lim, hlim⟩ : ∃ l, first + size = l := ⟨_, rfl⟩
    obtain ⟨A, hA⟩ : ∃ A, mergL lim d start (2 * st) = A := ⟨_, rfl⟩
    obtain ⟨B, hB⟩ : ∃ B, mergL lim d (start + st) (2 * st) = B := ⟨_, rfl⟩
    obtain ⟨L, hL⟩ : ∃ L, loopL lim st lim (start + st) = L := ⟨_, rfl⟩
    have hM : mergL lim (d + 1) start st = A ++ B ++ L := by rw [← hA, ← hB, ← hL]; rfl
    rw [hlim] at hp ih ⊢
    rw [hM] at hp
    have pA : D ++ A <+: full := pre_left (B := B ++ L) (by simpa [List.append_assoc] using hp)
    have pB : (D ++ A) ++ B <+: full := pre_left (B := L) (by simpa [List.append_assoc] using hp)
    have HI1 := Lib.hid (ih start (2 * st) D N w hc hst (by rw [hA]; exact pA) e2 (by omega) (by omega))
    have HI2 := Lib.hid (fun (N1 : Nat → Prop) (w1 : World) (hc1 : Caps bo bw bs bc bm bf size first N1 w1) (h1 : St (D ++ A) N1 w1) (hsl : start + st < first + 2 * st) => ih (start + st) (2 * st) (D ++ A) N1 w1 hc1 h1 (by rw [hB]; exact pB) e2 (by omega) hsl)
    rw [hA] at HI1
    simp only [hB] at HI2
    have HCP := Lib.hid hc
    have HMM := Lib.hid hM
    have HPP := Lib.hid hp
    have hcs := hc.s; have hcm := hc.m
    obtain ⟨s2, hs2⟩ : ∃ s, 2 * st = s := ⟨_, rfl⟩
    have w1 : IntKind.i64.wrap (2 * (st : Int)) = (s2 : Int) := by rw [IntWalk.i64_in _ (by omega)]; omega
    have hn1 : ((s2 : Int) == (size : Int)) = false := by rw [beq_eq_false_iff_ne]; omega
    have hn2 : ¬ (s2 : Int) = (size : Int) := by omega
    rw [hs2] at HI1 HI2
    have HS2 := Lib.hid hs2
    have HLM := Lib.hid hlim
    have HLL := Lib.hid hL
    have HH0 := Lib.hid (And.intro h0 (And.intro hs0 hbig))
    by_cases hsl : start + st < first + 2 * st
    · obtain ⟨e, hee⟩ : ∃ e, start + st = e := ⟨_, rfl⟩
      have w2 : IntKind.i64.wrap ((start : Int) + (st : Int)) = (e : Int) := by rw [IntWalk.i64_in _ (by omega)]; omega
      have HSL := Lib.hid hsl
      rw [hee] at HI2 HSL
      rw [hs2] at HSL
      have HE := Lib.hid hee
      have hle : e ≤ 2000 := by omega
      clear hc hst hp he h0 hs0 e2 hbig hne hlim hA hB hL hM pA pB ih hee hs2 hsl
      go_enter Try.func52, Try.ntmps52
      go_wp2_with fail
      refine HI1.out.mono ?_
      rintro r w1 ⟨rfl, N1, t1, o1, n1⟩
      have HC1 := Lib.hid (HCP.out.off o1 n1)
      have HI2' := Lib.hid (HI2.out N1 w1 HC1.out t1 HSL.out)
      have HO1 := Lib.hid (And.intro t1 (And.intro o1 n1))
      have k1 := HC1.out.m
      clear t1 o1 n1 HI1 HI2 hcs hcm
      go_wp2_with fail
      refine HI2'.out.mono ?_
      rintro r w2' ⟨rfl, ha2⟩
      obtain ⟨N2, t2, o2, n2⟩ := After.trans HO1.out.1 HO1.out.2.1 HO1.out.2.2 ha2
      have HC2 := Lib.hid (HCP.out.off o2 n2)
      have HO2 := Lib.hid (And.intro t2 (And.intro o2 n2))
      clear t2 o2 n2 k1 ha2 HI2' HC1 HO1
      go_wp2_with fail
      go_loopg [8] lim (fun g s wr => ∃ (i f : Nat) (E : List (Nat × Nat)) (N3 : Nat → Prop), s = .int .i64 (i : Int) ∧ g = f ∧ i ≤ 4000 ∧ lim ≤ f + i ∧ E ++ loopL lim st f i = L ∧ St (D ++ A ++ B ++ E) N3 wr ∧ Off N w wr ∧ (∀ k, N3 k → N k ∨ w.heap.size ≤ k))
      case atStart => exact ⟨e, lim, [], N2, rfl, rfl, by omega, by omega, by rw [← HE.out]; exact HLL.out, by rw [List.append_nil]; exact HO2.out.1, HO2.out.2.1, HO2.out.2.2⟩
      case round =>
        obtain ⟨i, f, E, N3, rfl, hgf, hi, hfi, hE, t3, o3, n3⟩ := hrel
        have HC3 := Lib.hid (HCP.out.off o3 n3)
        have q1 := HC3.out.s; have q2 := HC3.out.f
        have HLM' := HLM.out
        have HSZ := HH0.out
        obtain ⟨x, hx⟩ : ∃ x, i + st = x := ⟨_, rfl⟩
        have u1 : IntKind.i64.wrap ((i : Int) + (st : Int)) = (x : Int) := by rw [IntWalk.i64_in _ (by omega)]; omega
        have u2 : IntKind.i64.wrap ((first : Int) + (size : Int)) = (lim : Int) := by rw [IntWalk.i64_in _ (by omega)]; omega
        have HT := Lib.hid (And.intro t3 (And.intro o3 n3))
        have HEE := Lib.hid hE
        have HI := Lib.hid hgf; clear hgf
        clear t3 o3 n3 hE
        by_cases hxl : x < lim
        · have f1 : decide (x < lim) = true := decide_eq_true hxl
          have f2 : decide ((x : Int) < (lim : Int)) = true := decide_eq_true (by omega)
          obtain ⟨h, hf1⟩ : ∃ h, f = h + 1 := ⟨f - 1, by omega⟩
          have HIH := Lib.hid hf1
          rw [hf1] at hfi HEE
          have HL1 := Lib.hid (show loopL lim st (h + 1) i = (i, x) :: loopL lim st h (i + 2 * st) by show (if i + st < lim then _ else _) = _; rw [if_pos (by omega), hx])
          have hpre : (D ++ A ++ B ++ E) ++ [(i, x)] <+: full := pre_left (B := loopL lim st h (i + 2 * st)) (by
            have h1 := HPP.out
            rw [← HEE.out, HL1.out] at h1
            simpa [List.append_assoc] using h1)
          have HC := Lib.hid (hcmp (D ++ A ++ B ++ E) N3 wr i x HT.out.1 hpre)
          have HPR := Lib.hid hpre
          have q3 := HC3.out.c
          obtain ⟨wo, hwo⟩ : ∃ z, z = wr := ⟨_, rfl⟩
          obtain ⟨y, hy⟩ : ∃ y, i + s2 = y := ⟨_, rfl⟩
          have u3 : IntKind.i64.wrap ((i : Int) + (s2 : Int)) = (y : Int) := by have := HS2.out; rw [IntWalk.i64_in _ (by omega)]; omega
          have HB := Lib.hid (show y ≤ 4000 ∧ lim ≤ h + y ∧ y = i + 2 * st from by have := HS2.out; omega)
          clear hpre hx hy hxl hwo hfi hi hf1 HSZ HLM'
          go_wp2_with fail
          refine HC.out.mono ?_
          rintro r w4 ⟨rfl, ha4⟩
          obtain ⟨N4, t4, o4, n4⟩ := After.trans HT.out.1 HT.out.2.1 HT.out.2.2 ha4
          have HT4 := Lib.hid (And.intro t4 (And.intro o4 n4))
          clear t4 o4 n4 ha4 q1 q2 q3
          go_wp2_with fail
          go_roundg h
          case measure => rw [HI.out, HIH.out]; omega
          case rel => exact ⟨y, h, E ++ [(i, x)], N4, rfl, rfl, HB.out.1, HB.out.2.1, by rw [HB.out.2.2, ← HEE.out, HL1.out, List.append_assoc]; rfl, by rw [← List.append_assoc]; exact HT4.out.1, HT4.out.2.1, HT4.out.2.2⟩
        · have f1 : decide (x < lim) = false := decide_eq_false hxl
          have f2 : decide ((x : Int) < (lim : Int)) = false := decide_eq_false (by omega)
          have HL1 := Lib.hid (loopL_stop (lim := lim) (st := st) (i := i) (by omega) f)
          clear hx hxl hfi hi HSZ HLM'
          go_wp2_with fail
          go_end0
          refine ⟨rfl, N3, ?_, HT.out.2.1, HT.out.2.2⟩
          have h1 := HEE.out
          rw [HL1.out, List.append_nil] at h1
          rw [HMM.out, ← h1, ← List.append_assoc, ← List.append_assoc]
          exact HT.out.1
    · exfalso; omega
theorem msL_succ (k first h : Nat) (hh : 2 ^ k = h) : msL (k + 1) first = msL k first ++ msL k (first + h) ++ mergL (first + 2 * h) k first 1 := by
  subst hh
  show _ ++ _ ++ mergL (first + 2 ^ (k + 1)) k first 1 = _
  rw [show 2 ^ (k + 1) = 2 * 2 ^ k by rw [Nat.pow_succ]; omega]
set_option maxRecDepth 100000 in
set_option maxHeartbeats 4000000 in
theorem msort_calls (St : List (Nat × Nat) → (Nat → Prop) → World → Prop) (bo bw : Nat) (full : List (Nat × Nat)) (hcmp : Comp St bo bw full) (hgrow : ∀ D N (w w' : World), St D N w → w.grownBy w' none → St D N w') (hlow : ∀ D N (w : World), St D N w → ∀ k, N k → k < w.heap.size) :
    ∀ (k first : Nat) (D : List (Nat × Nat)) (N : Nat → Prop) (w : World), St D N w → D ++ msL k first <+: full → first + 2 ^ k ≤ 500 →
      Calls Try.prog 36 #[.int .i64 (first : Int), .int .i64 ((2 ^ k : Nat) : Int), cmpV bo bw] w fun e w' => e = .returned (.tuple #[]) ∧ After St (D ++ msL k first) N w w' := by
  intro k
  induction k with
  | zero =>
    intro first D N w hst hp hs
    have hg1 := World.grownBy_alloc w (.cells #[.int .i64 (first : Int)] 3) none
    obtain ⟨W1, hW1⟩ : ∃ z, w.alloc (.cells #[.int .i64 (first : Int)] 3) = z := ⟨_, rfl⟩
    rw [hW1] at hg1
    have hc2 := one_cell W1 (.int .i64 1) 3
    have hg2 := World.grownBy_alloc W1 (.cells #[.int .i64 1] 3) none
    obtain ⟨W2, hW2⟩ : ∃ z, W1.alloc (.cells #[.int .i64 1] 3) = z := ⟨_, rfl⟩
    rw [hW2] at hg2 hc2
    have hg3 := World.grownBy_alloc W2 (.cells #[cmpV bo bw] 66) none
    obtain ⟨W3, hW3⟩ : ∃ z, W2.alloc (.cells #[cmpV bo bw] 66) = z := ⟨_, rfl⟩
    rw [hW3] at hg3
    have q1 := hg3.cell hc2.2.1 (by simp)
    have HG := Lib.hid (World.grownBy.trans (World.grownBy.trans hg1 hg2) hg3)
    have HST := Lib.hid hst
    clear hst hp hs hg1 hg2 hg3 hc2
    have f0 : ((2 ^ 0 : Nat) : Int) = 1 := by simp
    rw [f0]
    go_enter Try.func36, Try.ntmps36
    go_wp2_with fail
    refine bodyPost_ret (results_none rfl _ _ _) rfl ?_
    refine ⟨rfl, N, by rw [show msL 0 first = [] from rfl, List.append_nil]; exact hgrow _ _ _ _ HST.out HG.out, Off.of HG.out (fun k e => by cases e), fun k hk => .inl hk⟩
  | succ k ih =>
    intro first D N w hst hp hs
    obtain ⟨h, hh⟩ : ∃ h, 2 ^ k = h := ⟨_, rfl⟩
    have hsz : 2 ^ (k + 1) = 2 * h := by rw [Nat.pow_succ, hh]; omega
    have h1 : 1 ≤ h := by rw [← hh]; exact Nat.one_le_two_pow
    obtain ⟨sz, hz⟩ : ∃ z, 2 * h = z := ⟨_, rfl⟩
    obtain ⟨A, hA⟩ : ∃ A, msL k first = A := ⟨_, rfl⟩
    obtain ⟨B, hB⟩ : ∃ B, msL k (first + h) = B := ⟨_, rfl⟩
    obtain ⟨L, hL⟩ : ∃ L, mergL (first + sz) k first 1 = L := ⟨_, rfl⟩
    have hM : msL (k + 1) first = A ++ B ++ L := by rw [msL_succ k first h hh, hA, hB, hz, hL]
    rw [hM] at hp ⊢
    rw [hsz, hz] at hs ⊢
    have pA : D ++ A <+: full := pre_left (B := B ++ L) (by simpa [List.append_assoc] using hp)
    have pB : (D ++ A) ++ B <+: full := pre_left (B := L) (by simpa [List.append_assoc] using hp)
    have hg1 := World.grownBy_alloc w (.cells #[.int .i64 (first : Int)] 3) none
    have hc1 := one_cell w (.int .i64 (first : Int)) 3
    obtain ⟨W1, hW1⟩ : ∃ z, w.alloc (.cells #[.int .i64 (first : Int)] 3) = z := ⟨_, rfl⟩
    rw [hW1] at hg1 hc1
    have hc2 := one_cell W1 (.int .i64 (sz : Int)) 3
    have hg2 := World.grownBy_alloc W1 (.cells #[.int .i64 (sz : Int)] 3) none
    obtain ⟨W2, hW2⟩ : ∃ z, W1.alloc (.cells #[.int .i64 (sz : Int)] 3) = z := ⟨_, rfl⟩
    rw [hW2] at hg2 hc2
    have hc3 := one_cell W2 (cmpV bo bw) 66
    have hg3 := World.grownBy_alloc W2 (.cells #[cmpV bo bw] 66) none
    obtain ⟨W3, hW3⟩ : ∃ z, W2.alloc (.cells #[cmpV bo bw] 66) = z := ⟨_, rfl⟩
    rw [hW3] at hg3 hc3
    have hg := World.grownBy.trans (World.grownBy.trans hg1 hg2) hg3
    have HLW := Lib.hid (hlow _ _ _ hst)
    have HST := Lib.hid (hgrow _ _ _ _ hst hg)
    have HG := Lib.hid hg
    have hsz1 := hg1.size; have hsz2 := hg2.size; have hsz3 := hg3.size
    obtain ⟨bf, hbf⟩ : ∃ b, w.heap.size = b := ⟨_, rfl⟩
    obtain ⟨bs, hbs⟩ : ∃ b, W1.heap.size = b := ⟨_, rfl⟩
    obtain ⟨bc, hbc⟩ : ∃ b, W2.heap.size = b := ⟨_, rfl⟩
    have HQ := Lib.hid (show W3.cell? ⟨bf, 0, none⟩ = some (.int .i64 (first : Int)) ∧ W3.cell? ⟨bs, 0, none⟩ = some (.int .i64 (sz : Int)) ∧ W3.cell? ⟨bc, 0, none⟩ = some (cmpV bo bw) from by
      rw [← hbf, ← hbs, ← hbc]
      exact ⟨(World.grownBy.trans hg2 hg3).cell hc1.2.1 (by simp), hg3.cell hc2.2.1 (by simp), hc3.2.1⟩)
    have HNB := Lib.hid (show ¬ N bf ∧ ¬ N bs ∧ ¬ N bc from ⟨fun hx => by have := HLW.out _ hx; omega, fun hx => by have := HLW.out _ hx; omega, fun hx => by have := HLW.out _ hx; omega⟩)
    have HI1 := Lib.hid (ih first D N W3 HST.out (by rw [hA]; exact pA) (by rw [hh]; omega))
    have HI2 := Lib.hid (fun (N1 : Nat → Prop) (w1 : World) (t1 : St (D ++ A) N1 w1) => ih (first + h) (D ++ A) N1 w1 t1 (by rw [hB]; exact pB) (by rw [hh]; omega))
    rw [hA, hh] at HI1
    rw [hh] at HI2
    simp only [hB] at HI2
    have HI3 := Lib.hid (fun (bm : Nat) (N1 : Nat → Prop) (w1 : World) (hcap : Caps bo bw bs bc bm bf sz first N1 w1) (t1 : St (D ++ A ++ B) N1 w1) => merge_calls St bo bw full hcmp bs bc bm bf sz first (by omega) (by omega) k first 1 (D ++ A ++ B) N1 w1 hcap t1 (by rw [hL]; simpa [List.append_assoc] using hp) (by omega) (by omega) (by omega))
    simp only [hL] at HI3
    obtain ⟨e, hee⟩ : ∃ e, first + h = e := ⟨_, rfl⟩
    have w2 : IntKind.i64.wrap ((first : Int) + (h : Int)) = (e : Int) := by rw [IntWalk.i64_in _ (by omega)]; omega
    have w3 : Int.tdiv (sz : Int) 2 = (h : Int) := by rw [Int.tdiv_eq_ediv_of_nonneg (by omega)]; omega
    have w4 : IntKind.i64.wrap (h : Int) = (h : Int) := IntWalk.i64_in _ (by omega)
    have f1 : decide ((sz : Int) < 2) = false := decide_eq_false (by omega)
    have f2 : decide (sz < 2) = false := decide_eq_false (by omega)
    rw [hee] at HI2
    have q1 := HQ.out.1; have q2 := HQ.out.2.1; have q3 := HQ.out.2.2
    clear hst hp hs hg1 hg2 hg3 hc1 hc2 hc3 hsz h1 hz hA hB hL hM pA pB hg hee hh hsz1 hsz2 hsz3 ih HST
    go_enter Try.func36, Try.ntmps36
    go_wp2_with fail
    clear hW1 hW2 hW3 hbf hbs hbc
    refine HI1.out.mono ?_
    rintro r w1 ⟨rfl, N1, t1, o1, n1⟩
    have HI2' := Lib.hid (HI2.out N1 w1 t1)
    have HO1 := Lib.hid (And.intro t1 (And.intro o1 n1))
    have p1 := o1.cell q1 HNB.out.1; have p2 := o1.cell q2 HNB.out.2.1; have p3 := o1.cell q3 HNB.out.2.2
    clear t1 o1 n1 HI1 HI2 q1 q2 q3
    go_wp2_with fail
    refine HI2'.out.mono ?_
    rintro r w5 ⟨rfl, ha2⟩
    obtain ⟨N2, t2, o2, n2⟩ := After.trans HO1.out.1 HO1.out.2.1 HO1.out.2.2 ha2
    have q1 := o2.cell HQ.out.1 HNB.out.1; have q2 := o2.cell HQ.out.2.1 HNB.out.2.1; have q3 := o2.cell HQ.out.2.2 HNB.out.2.2
    have HLB := Lib.hid (show bf < W3.heap.size ∧ bs < W3.heap.size ∧ bc < W3.heap.size from ⟨lies_lt HQ.out.1, lies_lt HQ.out.2.1, lies_lt HQ.out.2.2⟩)
    have HO2 := Lib.hid (And.intro t2 (And.intro o2 n2))
    have HL2 := Lib.hid (hlow _ _ _ t2)
    clear t2 o2 n2 ha2 HI2' HO1 p1 p2 p3
    have HQ2 := Lib.hid (And.intro q1 (And.intro q2 q3))
    go_upto_region 5 with fail
    have hca := one_cell w5 Value.nilFunc 66
    have hga := World.grownBy_alloc w5 (.cells #[Value.nilFunc] 66) none
    obtain ⟨wA, hwA⟩ : ∃ z, w5.alloc (.cells #[Value.nilFunc] 66) = z := ⟨_, rfl⟩
    rw [hwA] at hca hga ⊢
    obtain ⟨bm, hbm⟩ : ∃ b, w5.heap.size = b := ⟨_, rfl⟩
    rw [hbm] at hca ⊢
    obtain ⟨_, z0, zf⟩ := hca
    have HGA := Lib.hid (grown_own hga (grown_set wA bm 0 (mergV bs bc bm bf)) (fun k e => by cases e; exact Nat.le_of_eq hbm))
    have HBM := Lib.hid hbm
    have HST := Lib.hid (World.cell?_setCell_same wA ⟨bm, 0, none⟩ (mergV bs bc bm bf) z0)
    clear hwA hga hbm q1 q2 q3
    go_upto_region 6 with fail
    obtain ⟨wB, hwB⟩ : ∃ z, wA.setCell ⟨bm, 0, none⟩ (mergV bs bc bm bf) = z := ⟨_, rfl⟩
    rw [hwB] at HGA HST
    change Code.wp _ _ _ _ (wA.setCell ⟨bm, 0, none⟩ (mergV bs bc bm bf))
    rw [hwB]
    clear hwB z0 zf
    have HCP := Lib.hid (show Caps bo bw bs bc bm bf sz first N2 wB from by
      have n := HO2.out.2.2
      have far : ∀ b, b < W3.heap.size → ¬ N b → ¬ N2 b := fun b hb hn hx => by
        rcases n b hx with h1 | h1
        · exact hn h1
        · omega
      exact ⟨HGA.out.cell HQ2.out.2.1 (by simp), HGA.out.cell HQ2.out.2.2 (by simp), HST.out, HGA.out.cell HQ2.out.1 (by simp), far _ HLB.out.2.1 HNB.out.2.1, far _ HLB.out.2.2 HNB.out.2.2, fun hx => by have h1 := HL2.out _ hx; have h2 := HBM.out; omega, far _ HLB.out.1 HNB.out.1⟩)
    have HT := Lib.hid (hgrow _ _ _ _ HO2.out.1 HGA.out)
    have HI3' := Lib.hid (HI3.out bm N2 wB HCP.out HT.out)
    have z0 := HST.out
    have q1 := HCP.out.f
    clear HI3
    go_wp2_with fail
    refine HI3'.out.mono ?_
    rintro r w6 ⟨rfl, ha6⟩
    have HO6 := Lib.hid (show After St (D ++ (A ++ B ++ L)) N w w6 from by
      have o3 : Off N W3 wB := HO2.out.2.1.trans (Off.of (M := N2) HGA.out (fun k e => by cases e)) (fun k hk h => (HO2.out.2.2 k h).resolve_right (by omega))
      have h1 := After.trans HT.out o3 HO2.out.2.2 ha6
      obtain ⟨N6, t6, o6, n6⟩ := h1
      refine ⟨N6, by simpa [List.append_assoc] using t6, (Off.of (M := N) HG.out (fun k e => by cases e)).trans o6 (fun k _ h => h), fun k hk => ?_⟩
      rcases n6 k hk with h1 | h1
      · exact .inl h1
      · have := HG.out.size; exact .inr (by omega))
    clear ha6
    go_wp2_with fail
    go_end0
    exact ⟨rfl, HO6.out⟩
end Go.Proofs.Ythagoihpppppkaa

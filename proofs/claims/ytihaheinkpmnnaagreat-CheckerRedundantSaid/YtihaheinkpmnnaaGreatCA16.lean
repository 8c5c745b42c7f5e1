/- Texts of the proof: KP KS HP LY. -/
import Derived.Test.YtihaheinkpmnnaaGreatCA13
import Derived.Test.YtihaheinkpmnnaaGreatCA15
import Derived.Test.YtihaheinkpmnnaaGreatCA11
import Derived.Test.YtihaheinkpmnnaaGreatProg
import Derived.Shelf.SlLaysZI
import Derived.Shelf.SlLaysM
import Derived.Shelf.SlLaysE
import Derived.Shelf.SlLaysF
import Derived.Shelf.SlLaysG2
namespace Go.Proofs.YtihaheinkpmnnaaGreat
set_option maxRecDepth 200000
/-- A step: its kind, its literals, its symmetry. -/
abbrev St := Int × List Int × Int
/-- A literal over the variables up to v. -/
def unkB (v x : Int) : Bool := decide (x = 0) || (decide (v < x) || decide (x < -v))
def knownB (v : Int) (l : List Int) : Bool := !l.any (unkB v)
def okS (v : Int) (x : St) : Bool :=
  if x.1 = 1 ∨ x.1 = 2 then decide (x.2.2 = 0) && knownB v x.2.1
  else if x.1 = 4 then decide (0 ≤ x.2.2) && (decide (x.2.2 ≤ 20000) && knownB v x.2.1)
  else if x.1 = 3 then decide (2 ≤ x.2.1.length) && (decide (x.2.1.head? = some (v + 1)) && (decide (v + 1 ≤ 20000) && (knownB v x.2.1.tail && decide (x.2.2 = 0))))
  else false
theorem unk_in (v x : Int) : unkB v x = !inRb v x := by
  unfold unkB inRb
  rw [Bool.eq_iff_iff]
  simp only [Bool.or_eq_true, decide_eq_true_eq, Bool.not_eq_true', Bool.and_eq_false_iff, Bool.not_eq_false', beq_iff_eq, decide_eq_false_iff_not]
  omega
theorem knownB_in (v : Int) (l : List Int) : knownB v l = l.all (inRb v) := by
  unfold knownB
  rw [show unkB v = fun x => !inRb v x from funext (unk_in v), List.not_any_eq_all_not]
  simp
theorem inRb_iff {V : Nat} {x : Int} : inRb V x = true ↔ InR V x := by
  unfold inRb InR
  simp only [Bool.and_eq_true, Bool.not_eq_true', beq_eq_false_iff_ne, decide_eq_true_eq, ne_eq]
  omega
theorem knownB_iff {V : Nat} {l : List Int} : knownB V l = true ↔ ∀ x ∈ l, InR V x := by
  rw [knownB_in, List.all_eq_true]
  exact ⟨fun h x hx => inRb_iff.1 (h x hx), fun h x hx => inRb_iff.2 (h x hx)⟩
/-- A step is well-formed; of a symmetry step its symmetry is not looked at. -/
def wfS (v : Int) (x : St) : Bool := decide (0 ≤ v ∧ v ≤ 20000) && okS v (x.1, x.2.1, if x.1 = 4 then 0 else x.2.2)
/-- Whether unit propagation implies a clause. -/
def impB (V : Nat) (C : List (List Int)) (L : List Int) : Bool := contraP (negL L) || (propP V C (negL L)).2.2.2 != -1
theorem impB_iff {V : Nat} {C : List (List Int)} (hR : Ran V C) (L : List Int) : impB V C L = true ↔ (contraP (negL L) = true ∨ Conf C (negL L)) := by
  unfold impB
  cases h : contraP (negL L) with
  | true => simp
  | false =>
    have := conf_prop hR h
    rw [Bool.false_or]
    simp only [bne_iff_ne, ne_eq] at this ⊢
    rw [this]
    simp
/-- Whether a literal permutation maps a formula to itself. -/
def symB (V : Int) (C : List (List Int)) (S : List Int) : Bool :=
  decide ((S.length : Int) = V) && (S.all (inRb V) && (decide ((S.map Int.natAbs).Nodup) && (C.all (fun c => c.all (inRb V)) && C.all (fun c => C.any (fun d => eqS d (imgL S c))))))
/-- A state: how many variables, which clauses. -/
abbrev CkS := Nat × List (List Int)
def delP (C : List (List Int)) (L : List Int) : Option (List (List Int)) := (C.findIdx? (fun c => eqS c L)).map C.eraseIdx
def mapB (V : Int) (S L : List Int) (c : List Int) : Bool := c.all (inRb V) && eqS (imgL S c) L
/-- Whether a symmetry step is justified. -/
def syB (F : CkS) (Y : List (List Int)) (C : List (List Int)) (x : St) : Bool :=
  decide (0 ≤ x.2.2 ∧ x.2.2 < Y.length) && (symB F.1 F.2 (Y.getD x.2.2.toNat []) && C.any (mapB F.1 (Y.getD x.2.2.toNat []) x.2.1))
/-- One step. -/
def doP (F : CkS) (Y : List (List Int)) (s : CkS) (x : St) : Option CkS :=
  if x.1 = 1 then (if impB s.1 s.2 x.2.1 = true then some (s.1, s.2 ++ [x.2.1]) else none)
  else if x.1 = 2 then (delP s.2 x.2.1).map fun C => (s.1, C)
  else if x.1 = 3 then some (s.1 + 1, s.2 ++ defC ((s.1 : Int) + 1) x.2.1.tail)
  else (if syB F Y s.2 x = true then some (s.1, s.2 ++ [x.2.1]) else none)
def stepP (F : CkS) (Y : List (List Int)) (s : CkS) (x : St) : Option CkS := if wfS s.1 x = true then doP F Y s x else none
/-- How many steps are justified, and the state behind them. -/
def runP (F : CkS) (Y : List (List Int)) : CkS → List St → Nat × CkS
  | s, [] => (0, s)
  | s, x :: l => match stepP F Y s x with
    | none => (0, s)
    | some t => ((runP F Y t l).1 + 1, (runP F Y t l).2)
def chkP (F : CkS) (Y : List (List Int)) (l : List St) : Nat := (runP F Y F l).1
def emptyB (F : CkS) (l : List St) : Bool := F.2.any (fun c => decide (c.length = 0)) || l.any (fun x => decide (x.1 ≠ 2) && decide (x.2.1.length = 0))
def refB (F : CkS) (Y : List (List Int)) (l : List St) : Bool := decide (chkP F Y l = l.length) && emptyB F l
theorem run_cons (F : CkS) (Y : List (List Int)) (s : CkS) (x : St) (l : List St) : runP F Y s (x :: l) = match stepP F Y s x with | none => (0, s) | some t => ((runP F Y t l).1 + 1, (runP F Y t l).2) := rfl
theorem run_nil (F : CkS) (Y : List (List Int)) (s : CkS) : runP F Y s [] = (0, s) := rfl
theorem run_le (F : CkS) (Y : List (List Int)) : ∀ (l : List St) (s : CkS), (runP F Y s l).1 ≤ l.length
  | [], _ => Nat.le_refl _
  | x :: l, s => by
    unfold runP
    cases h : stepP F Y s x with
    | none => exact Nat.zero_le _
    | some t => exact Nat.succ_le_succ (run_le F Y l t)
theorem run_append (F : CkS) (Y : List (List Int)) (m : List St) : ∀ (l : List St) (s : CkS),
    runP F Y s (l ++ m) = if (runP F Y s l).1 = l.length then (l.length + (runP F Y (runP F Y s l).2 m).1, (runP F Y (runP F Y s l).2 m).2) else runP F Y s l
  | [], s => by simp [runP]
  | x :: l, s => by
    rw [List.cons_append, run_cons, run_cons]
    cases h : stepP F Y s x with
    | none => simp
    | some t =>
      simp only
      rw [run_append F Y m l t]
      by_cases hc : (runP F Y t l).1 = l.length
      · simp only [hc, if_true, List.length_cons]
        rw [Nat.add_right_comm]
      · have : ¬ ((runP F Y t l).1 + 1 = (x :: l).length) := by rw [List.length_cons]; omega
        simp only [if_neg hc, if_neg this]
/-- The run of a prefix. -/
theorem run_take (F : CkS) (Y : List (List Int)) : ∀ (l : List St) (k : Nat) (s : CkS), (runP F Y s (l.take k)).1 = min (runP F Y s l).1 (min k l.length)
  | [], k, s => by simp [runP]
  | x :: l, 0, s => by simp [runP]
  | x :: l, k + 1, s => by
    rw [List.take_succ_cons, run_cons, run_cons]
    cases h : stepP F Y s x with
    | none => simp
    | some t =>
      simp only [List.length_cons]
      rw [run_take F Y l k t]
      omega
/-- What a state keeps. -/
structure Fit (s : CkS) (v c : Nat) : Prop where
  ran : Ran s.1 s.2
  vars : s.1 ≤ v
  len : s.2.length ≤ c
  lits : ∀ z ∈ s.2, z.length ≤ 12
theorem Fit.le {s : CkS} {v c v' c' : Nat} (h : Fit s v c) (hv : v ≤ v') (hc : c ≤ c') : Fit s v' c' := ⟨h.ran, Nat.le_trans h.vars hv, Nat.le_trans h.len hc, h.lits⟩
theorem inR_mono {V W : Nat} {x : Int} (h : InR V x) (hw : V ≤ W) : InR W x := ⟨h.1, by have := h.2.1; omega, by have := h.2.2; omega⟩
theorem okS_known {V : Nat} {x : St} (h : okS V x = true) (h3 : x.1 ≠ 3) : ∀ y ∈ x.2.1, InR V y := by
  unfold okS at h
  split at h
  · rw [Bool.and_eq_true] at h; exact knownB_iff.1 h.2
  · split at h
    · simp only [Bool.and_eq_true] at h; exact knownB_iff.1 h.2.2
    · first | (rw [if_neg h3] at h; cases h) | cases h
theorem wf_known {V : Nat} {x : St} (h : wfS V x = true) (h3 : x.1 ≠ 3) : ∀ y ∈ x.2.1, InR V y := by
  unfold wfS at h
  rw [Bool.and_eq_true] at h
  exact okS_known (x := (x.1, x.2.1, if x.1 = 4 then 0 else x.2.2)) h.2 h3
theorem wf_def {V : Nat} {x : St} (h : wfS V x = true) (h3 : x.1 = 3) : 2 ≤ x.2.1.length ∧ x.2.1 = ((V : Int) + 1) :: x.2.1.tail ∧ (∀ y ∈ x.2.1.tail, InR V y) ∧ V + 1 ≤ 20000 ∧ x.2.2 = 0 := by
  unfold wfS okS at h
  simp only [h3, Int.reduceEq, or_self, if_false, if_true, Bool.and_eq_true, decide_eq_true_eq] at h
  obtain ⟨_, h1, h2, h4, h5, h6⟩ := h
  refine ⟨h1, ?_, knownB_iff.1 h5, by omega, h6⟩
  cases hl : x.2.1 with
  | nil => rw [hl] at h1; simp at h1
  | cons y t => rw [hl] at h2; simp at h2; rw [h2]; rfl
theorem wf_kind {v : Int} {x : St} (h : wfS v x = true) : x.1 = 1 ∨ x.1 = 2 ∨ x.1 = 3 ∨ x.1 = 4 := by
  unfold wfS okS at h
  by_cases h1 : x.1 = 1 ∨ x.1 = 2
  · omega
  · by_cases h4 : x.1 = 4
    · omega
    · by_cases h3 : x.1 = 3
      · omega
      · simp [h1, h4, h3] at h
theorem defC_ran {V : Nat} {L : List Int} (h : ∀ y ∈ L, InR V y) : Ran (V + 1) (defC ((V : Int) + 1) L) := by
  intro c hc y hy
  unfold defC at hc
  rw [List.mem_append, List.mem_map, List.mem_singleton] at hc
  rcases hc with ⟨x, hx, rfl⟩ | rfl
  · have := h x hx
    simp only [List.mem_cons, List.not_mem_nil, or_false] at hy
    rcases hy with rfl | rfl
    · exact ⟨by omega, by omega, by omega⟩
    · exact inR_mono this (by omega)
  · rcases List.mem_cons.1 hy with rfl | hy
    · exact ⟨by omega, by omega, by omega⟩
    · obtain ⟨x, hx, rfl⟩ := List.mem_map.1 hy
      obtain ⟨h0, h1, h2⟩ := h x hx
      exact ⟨by omega, by omega, by omega⟩
theorem del_some {C D : List (List Int)} {L : List Int} (h : delP C L = some D) : ∃ i, i < C.length ∧ C.findIdx? (fun c => eqS c L) = some i ∧ D = C.eraseIdx i := by
  unfold delP at h
  cases hf : C.findIdx? (fun c => eqS c L) with
  | none => rw [hf] at h; cases h
  | some i =>
    rw [hf] at h
    simp only [Option.map_some, Option.some.injEq] at h
    exact ⟨i, (List.findIdx?_eq_some_iff_getElem.1 hf).1, rfl, h.symm⟩
theorem step_fit {F : CkS} {Y : List (List Int)} {s t : CkS} {x : St} {v c : Nat} (h : stepP F Y s x = some t) (hf : Fit s v c) (hx : x.2.1.length ≤ 12) : Fit t (v + 1) (c + 12) ∧ s.1 ≤ t.1 := by
  unfold stepP at h
  by_cases hw : wfS s.1 x = true
  rotate_left
  · rw [if_neg hw] at h; cases h
  rw [if_pos hw] at h
  unfold doP at h
  have one : x.1 ≠ 3 → Fit (s.1, s.2 ++ [x.2.1]) (v + 1) (c + 12) := fun h3 => by
    refine ⟨fun z hz y hy => ?_, by have := hf.vars; simp only; omega, by have := hf.len; simp only [List.length_append, List.length_singleton]; omega, fun z hz => ?_⟩
    · rcases List.mem_append.1 hz with hz | hz
      · exact hf.ran z hz y hy
      · rw [List.mem_singleton.1 hz] at hy; exact wf_known hw h3 y hy
    · rcases List.mem_append.1 hz with hz | hz
      · exact hf.lits z hz
      · rw [List.mem_singleton.1 hz]; exact hx
  by_cases h1 : x.1 = 1
  · rw [if_pos h1] at h
    split at h
    · cases h; exact ⟨one (by omega), Nat.le_refl _⟩
    · cases h
  rw [if_neg h1] at h
  by_cases h2 : x.1 = 2
  · rw [if_pos h2] at h
    cases hd : delP s.2 x.2.1 with
    | none => rw [hd] at h; cases h
    | some D =>
      rw [hd] at h
      cases h
      obtain ⟨i, hi, _, rfl⟩ := del_some hd
      refine ⟨⟨fun z hz => hf.ran z (List.mem_of_mem_eraseIdx hz), by have := hf.vars; simp only; omega, ?_, fun z hz => hf.lits z (List.mem_of_mem_eraseIdx hz)⟩, Nat.le_refl _⟩
      have := hf.len
      simp only [List.length_eraseIdx]
      split <;> omega
  rw [if_neg h2] at h
  by_cases h3 : x.1 = 3
  · rw [if_pos h3] at h
    cases h
    obtain ⟨g1, g2, g3, g4, g5⟩ := wf_def hw h3
    have hl : x.2.1.tail.length ≤ 11 := by rw [List.length_tail]; omega
    refine ⟨⟨fun z hz => ?_, by have := hf.vars; simp only; omega, ?_, fun z hz => ?_⟩, Nat.le_succ _⟩
    · rcases List.mem_append.1 hz with hz | hz
      · exact fun y hy => inR_mono (hf.ran z hz y hy) (Nat.le_succ _)
      · exact defC_ran g3 z hz
    · have := hf.len
      unfold defC
      simp only [List.length_append, List.length_map, List.length_singleton]
      omega
    · rcases List.mem_append.1 hz with hz | hz
      · exact hf.lits z hz
      · unfold defC at hz
        rw [List.mem_append, List.mem_map, List.mem_singleton] at hz
        rcases hz with ⟨y, _, rfl⟩ | rfl
        · simp
        · rw [List.length_cons, List.length_map]; omega
  rw [if_neg h3] at h
  split at h
  · cases h; exact ⟨one h3, Nat.le_refl _⟩
  · cases h
end Go.Proofs.YtihaheinkpmnnaaGreat

namespace Go.Proofs.YtihaheinkpmnnaaGreat
set_option maxRecDepth 200000
theorem symB_parts {V : Nat} {C : List (List Int)} {S : List Int} (h : symB V C S = true) : S.length = V ∧ (∀ y ∈ S, InR V y) ∧ (S.map Int.natAbs).Nodup ∧ (∀ c ∈ C, ∀ x ∈ c, InR V x) ∧ ∀ c ∈ C, ∃ d ∈ C, eqS d (imgL S c) = true := by
  unfold symB at h
  simp only [Bool.and_eq_true, decide_eq_true_eq, List.all_eq_true, List.any_eq_true] at h
  obtain ⟨h1, h2, h3, h4, h5⟩ := h
  exact ⟨by omega, fun y hy => inRb_iff.1 (h2 y hy), h3, fun c hc x hx => inRb_iff.1 (h4 c hc x hx), h5⟩
end Go.Proofs.YtihaheinkpmnnaaGreat

namespace Go.Proofs.YtihaheinkpmnnaaGreat
set_option maxRecDepth 200000
def fullC : List (List Int) := [[1, 2], [1, -2], [-1, 2], [-1, -2]]
def sameC : List (List Int) := [[1, -2], [2, -1]]
def prf0 : List St := [(1, [1], 0), (1, [], 0)]
def prf1 : List St := [(4, [-1, 2], 0), (3, [3, 1, -2], 0), (1, [-3], 0), (2, [-2, 1], 0), (5, [], 0)]
theorem hd_1 : chkP (2, fullC) [] prf0 = 2 := by decide +kernel
theorem hd_2 : chkP (2, fullC) [] [(1, [], 0)] = 0 := by decide +kernel
theorem hd_3 : chkP (2, sameC) [[2, 1]] prf1 = 4 := by decide +kernel
theorem hd_4 : refB (2, fullC) [] prf0 = true := by decide +kernel
theorem hd_5 : refB (2, sameC) [] [] = false := by decide +kernel
theorem hd_6 : symB 2 sameC [2, 1] = true := by decide +kernel
theorem hd_7 : symB 2 sameC [-1, -2] = true := by decide +kernel
theorem hd_8 : symB 2 sameC [1, -2] = false := by decide +kernel
theorem hd_9 : symB 2 sameC [1, 1] = false := by decide +kernel
theorem hd_10 : symB 2 sameC [] = false := by decide +kernel
end Go.Proofs.YtihaheinkpmnnaaGreat

namespace Go.Proofs.YtihaheinkpmnnaaGreat
set_option maxRecDepth 200000
open Go.Shelf
def Tryz.sortA_ren : Go.Shelf.Ren := ⟨fun | 5 => 74 | 8 => 59 | 7 => 96 | 19 => 84 | 20 => 85 | 10 => 110 | 11 => 111 | 12 => 112 | 13 => 113 | 14 => 114 | 15 => 115 | 16 => 116 | 17 => 117 | 18 => 118 | 30 => 126 | 31 => 98 | 32 => 99 | 33 => 127 | 34 => 128 | 35 => 86 | 40 => 131 | n => n, fun | 23 => 34 | 25 => 3 | 3 => 3 | 32 => 88 | 22 => 34 | 0 => 0 | 44 => 106 | 46 => 108 | 4 => 4 | 36 => 100 | 35 => 99 | 41 => 71 | 5 => 5 | 9 => 9 | 53 => 120 | 57 => 124 | 63 => 137 | 64 => 116 | n => n, fun | n => n⟩
theorem Tryz.sortA : Go.Proofs.SlLaysM.n5 Tryz.prog Tryz.sortA_ren where
  mixed := by kernel_rfl
  f5 := ⟨"slices.Sort[[]int,int]", by decide, Tryz.func74.trans (congrArg some (by kernel_rfl))⟩
  f7 := ⟨"slices.pdqsortOrdered[int]", by decide, Tryz.func96.trans (congrArg some (by kernel_rfl))⟩
  f8 := Tryz.func59.trans (congrArg some (by kernel_rfl))
  f10 := ⟨"slices.insertionSortOrdered[int]", by decide, Tryz.func110.trans (congrArg some (by kernel_rfl))⟩
  f11 := ⟨"slices.heapSortOrdered[int]", by decide, Tryz.func111.trans (congrArg some (by kernel_rfl))⟩
  f12 := ⟨"slices.breakPatternsOrdered[int]", by decide, Tryz.func112.trans (congrArg some (by kernel_rfl))⟩
  f13 := ⟨"slices.choosePivotOrdered[int]", by decide, Tryz.func113.trans (congrArg some (by kernel_rfl))⟩
  f14 := ⟨"slices.reverseRangeOrdered[int]", by decide, Tryz.func114.trans (congrArg some (by kernel_rfl))⟩
  f15 := ⟨"slices.partialInsertionSortOrdered[int]", by decide, Tryz.func115.trans (congrArg some (by kernel_rfl))⟩
  f16 := ⟨"cmp.Less[int]", by decide, Tryz.func116.trans (congrArg some (by kernel_rfl))⟩
  f17 := ⟨"slices.partitionEqualOrdered[int]", by decide, Tryz.func117.trans (congrArg some (by kernel_rfl))⟩
  f18 := ⟨"slices.partitionOrdered[int]", by decide, Tryz.func118.trans (congrArg some (by kernel_rfl))⟩
  f19 := Tryz.func84.trans (congrArg some (by kernel_rfl))
  f20 := Tryz.func85.trans (congrArg some (by kernel_rfl))
  f30 := ⟨"slices.siftDownOrdered[int]", by decide, Tryz.func126.trans (congrArg some (by kernel_rfl))⟩
  f31 := Tryz.func98.trans (congrArg some (by kernel_rfl))
  f32 := Tryz.func99.trans (congrArg some (by kernel_rfl))
  f33 := ⟨"slices.medianAdjacentOrdered[int]", by decide, Tryz.func127.trans (congrArg some (by kernel_rfl))⟩
  f34 := ⟨"slices.medianOrdered[int]", by decide, Tryz.func128.trans (congrArg some (by kernel_rfl))⟩
  f35 := ⟨"cmp.isNaN[int]", by decide, Tryz.func86.trans (congrArg some (by kernel_rfl))⟩
  f40 := ⟨"slices.order2Ordered[int]", by decide, Tryz.func131.trans (congrArg some (by kernel_rfl))⟩
  t0 := Tryz.underlying0
  a0 := Tryz.isAgg0
  z0 := Tryz.sizeOf0
  v0 := Tryz.zeroValue0
  t3 := Tryz.underlying3
  a3 := Tryz.isAgg3
  z3 := Tryz.sizeOf3
  v3 := Tryz.zeroValue3
  t4 := Tryz.underlying4
  a4 := Tryz.isAgg4
  z4 := Tryz.sizeOf4
  v4 := Tryz.zeroValue4
  t5 := Tryz.underlying5
  a5 := Tryz.isAgg5
  z5 := Tryz.sizeOf5
  v5 := Tryz.zeroValue5
  t9 := Tryz.underlying9
  a9 := Tryz.isAgg9
  z9 := Tryz.sizeOf9
  v9 := Tryz.zeroValue9
  t22 := Tryz.underlying34
  a22 := Tryz.isAgg34
  z22 := Tryz.sizeOf34
  v22 := Tryz.zeroValue34
  t23 := Tryz.underlying34
  a23 := Tryz.isAgg34
  z23 := Tryz.sizeOf34
  v23 := Tryz.zeroValue34
  t25 := Tryz.underlying3
  a25 := Tryz.isAgg3
  z25 := Tryz.sizeOf3
  v25 := Tryz.zeroValue3
  t32 := Tryz.underlying88
  a32 := Tryz.isAgg88
  z32 := Tryz.sizeOf88
  v32 := Tryz.zeroValue88
  t35 := Tryz.underlying99
  a35 := Tryz.isAgg99
  z35 := Tryz.sizeOf99
  v35 := Tryz.zeroValue99
  t36 := Tryz.underlying100
  a36 := Tryz.isAgg100
  z36 := Tryz.sizeOf100
  v36 := Tryz.zeroValue100
  t41 := Tryz.underlying71
  a41 := Tryz.isAgg71
  z41 := Tryz.sizeOf71
  v41 := Tryz.zeroValue71
  t44 := Tryz.underlying106
  a44 := Tryz.isAgg106
  z44 := Tryz.sizeOf106
  v44 := Tryz.zeroValue106
  t46 := Tryz.underlying108
  a46 := Tryz.isAgg108
  z46 := Tryz.sizeOf108
  v46 := Tryz.zeroValue108
  t53 := Tryz.underlying120
  a53 := Tryz.isAgg120
  z53 := Tryz.sizeOf120
  v53 := Tryz.zeroValue120
  t57 := Tryz.underlying124
  a57 := Tryz.isAgg124
  z57 := Tryz.sizeOf124
  v57 := Tryz.zeroValue124
  t63 := Tryz.underlying137
  a63 := Tryz.isAgg137
  z63 := Tryz.sizeOf137
  v63 := Tryz.zeroValue137
  t64 := Tryz.underlying116
  a64 := Tryz.isAgg116
  z64 := Tryz.sizeOf116
  v64 := Tryz.zeroValue116
def Tryz.compactA_ren : Go.Shelf.Ren := ⟨fun | 43 => 55 | n => n, fun | 22 => 34 | 23 => 3 | 3 => 3 | 4 => 4 | 0 => 0 | n => n, fun | n => n⟩
theorem Tryz.compactA : Go.Proofs.SlLaysE.n43 Tryz.prog Tryz.compactA_ren where
  mixed := by kernel_rfl
  f43 := ⟨"slices.Compact[[]int,int]", by decide, Tryz.func55.trans (congrArg some (by kernel_rfl))⟩
  t0 := Tryz.underlying0
  a0 := Tryz.isAgg0
  z0 := Tryz.sizeOf0
  v0 := Tryz.zeroValue0
  t3 := Tryz.underlying3
  a3 := Tryz.isAgg3
  z3 := Tryz.sizeOf3
  v3 := Tryz.zeroValue3
  t4 := Tryz.underlying4
  a4 := Tryz.isAgg4
  z4 := Tryz.sizeOf4
  v4 := Tryz.zeroValue4
  t22 := Tryz.underlying34
  a22 := Tryz.isAgg34
  z22 := Tryz.sizeOf34
  v22 := Tryz.zeroValue34
  a23 := Tryz.isAgg3
  z23 := Tryz.sizeOf3
def Tryz.deleteA_ren : Go.Shelf.Ren := ⟨fun | 45 => 64 | n => n, fun | 22 => 22 | 23 => 34 | 3 => 3 | 4 => 4 | 0 => 0 | n => n, fun | n => n⟩
theorem Tryz.deleteA : Go.Proofs.SlLaysE.n45 Tryz.prog Tryz.deleteA_ren where
  mixed := by kernel_rfl
  f45 := ⟨"slices.Delete[[][]int,[]int]", by decide, Tryz.func64.trans (congrArg some (by kernel_rfl))⟩
  t0 := Tryz.underlying0
  a0 := Tryz.isAgg0
  z0 := Tryz.sizeOf0
  v0 := Tryz.zeroValue0
  t3 := Tryz.underlying3
  a3 := Tryz.isAgg3
  z3 := Tryz.sizeOf3
  v3 := Tryz.zeroValue3
  t4 := Tryz.underlying4
  a4 := Tryz.isAgg4
  z4 := Tryz.sizeOf4
  v4 := Tryz.zeroValue4
  t22 := Tryz.underlying22
  a22 := Tryz.isAgg22
  z22 := Tryz.sizeOf22
  v22 := Tryz.zeroValue22
  a23 := Tryz.isAgg34
  z23 := Tryz.sizeOf34
def Tryz.sortFA_ren : Go.Shelf.Ren := ⟨fun | 6 => 37 | 15 => 59 | 14 => 58 | 28 => 84 | 29 => 85 | 20 => 76 | 21 => 77 | 22 => 78 | 23 => 79 | 24 => 80 | 25 => 81 | 26 => 82 | 27 => 83 | 46 => 97 | 47 => 98 | 48 => 99 | 49 => 100 | 50 => 101 | 57 => 119 | n => n, fun | 22 => 22 | 24 => 34 | 25 => 70 | 3 => 3 | 39 => 88 | 0 => 0 | 53 => 106 | 55 => 108 | 4 => 4 | 46 => 100 | 45 => 99 | 50 => 71 | 5 => 5 | 9 => 9 | 66 => 120 | 70 => 124 | 76 => 137 | 77 => 116 | n => n, fun | n => n⟩
theorem Tryz.sortFA : Go.Proofs.SlLaysF.n6 Tryz.prog Tryz.sortFA_ren where
  mixed := by kernel_rfl
  f6 := ⟨"slices.SortFunc[[][]int,[]int]", by decide, Tryz.func37.trans (congrArg some (by kernel_rfl))⟩
  f14 := ⟨"slices.pdqsortCmpFunc[[]int]", by decide, Tryz.func58.trans (congrArg some (by kernel_rfl))⟩
  f15 := Tryz.func59.trans (congrArg some (by kernel_rfl))
  f20 := ⟨"slices.insertionSortCmpFunc[[]int]", by decide, Tryz.func76.trans (congrArg some (by kernel_rfl))⟩
  f21 := ⟨"slices.heapSortCmpFunc[[]int]", by decide, Tryz.func77.trans (congrArg some (by kernel_rfl))⟩
  f22 := ⟨"slices.breakPatternsCmpFunc[[]int]", by decide, Tryz.func78.trans (congrArg some (by kernel_rfl))⟩
  f23 := ⟨"slices.choosePivotCmpFunc[[]int]", by decide, Tryz.func79.trans (congrArg some (by kernel_rfl))⟩
  f24 := ⟨"slices.reverseRangeCmpFunc[[]int]", by decide, Tryz.func80.trans (congrArg some (by kernel_rfl))⟩
  f25 := ⟨"slices.partialInsertionSortCmpFunc[[]int]", by decide, Tryz.func81.trans (congrArg some (by kernel_rfl))⟩
  f26 := ⟨"slices.partitionEqualCmpFunc[[]int]", by decide, Tryz.func82.trans (congrArg some (by kernel_rfl))⟩
  f27 := ⟨"slices.partitionCmpFunc[[]int]", by decide, Tryz.func83.trans (congrArg some (by kernel_rfl))⟩
  f28 := Tryz.func84.trans (congrArg some (by kernel_rfl))
  f29 := Tryz.func85.trans (congrArg some (by kernel_rfl))
  f46 := ⟨"slices.siftDownCmpFunc[[]int]", by decide, Tryz.func97.trans (congrArg some (by kernel_rfl))⟩
  f47 := Tryz.func98.trans (congrArg some (by kernel_rfl))
  f48 := Tryz.func99.trans (congrArg some (by kernel_rfl))
  f49 := ⟨"slices.medianAdjacentCmpFunc[[]int]", by decide, Tryz.func100.trans (congrArg some (by kernel_rfl))⟩
  f50 := ⟨"slices.medianCmpFunc[[]int]", by decide, Tryz.func101.trans (congrArg some (by kernel_rfl))⟩
  f57 := ⟨"slices.order2CmpFunc[[]int]", by decide, Tryz.func119.trans (congrArg some (by kernel_rfl))⟩
  t0 := Tryz.underlying0
  a0 := Tryz.isAgg0
  z0 := Tryz.sizeOf0
  v0 := Tryz.zeroValue0
  t3 := Tryz.underlying3
  a3 := Tryz.isAgg3
  z3 := Tryz.sizeOf3
  v3 := Tryz.zeroValue3
  t4 := Tryz.underlying4
  a4 := Tryz.isAgg4
  z4 := Tryz.sizeOf4
  v4 := Tryz.zeroValue4
  t5 := Tryz.underlying5
  a5 := Tryz.isAgg5
  z5 := Tryz.sizeOf5
  v5 := Tryz.zeroValue5
  t9 := Tryz.underlying9
  a9 := Tryz.isAgg9
  z9 := Tryz.sizeOf9
  v9 := Tryz.zeroValue9
  t22 := Tryz.underlying22
  a22 := Tryz.isAgg22
  z22 := Tryz.sizeOf22
  v22 := Tryz.zeroValue22
  a24 := Tryz.isAgg34
  z24 := Tryz.sizeOf34
  t25 := Tryz.underlying70
  a25 := Tryz.isAgg70
  z25 := Tryz.sizeOf70
  v25 := Tryz.zeroValue70
  t39 := Tryz.underlying88
  a39 := Tryz.isAgg88
  z39 := Tryz.sizeOf88
  v39 := Tryz.zeroValue88
  t45 := Tryz.underlying99
  a45 := Tryz.isAgg99
  z45 := Tryz.sizeOf99
  v45 := Tryz.zeroValue99
  t46 := Tryz.underlying100
  a46 := Tryz.isAgg100
  z46 := Tryz.sizeOf100
  v46 := Tryz.zeroValue100
  t50 := Tryz.underlying71
  a50 := Tryz.isAgg71
  z50 := Tryz.sizeOf71
  v50 := Tryz.zeroValue71
  t53 := Tryz.underlying106
  a53 := Tryz.isAgg106
  z53 := Tryz.sizeOf106
  v53 := Tryz.zeroValue106
  t55 := Tryz.underlying108
  a55 := Tryz.isAgg108
  z55 := Tryz.sizeOf108
  v55 := Tryz.zeroValue108
  t66 := Tryz.underlying120
  a66 := Tryz.isAgg120
  z66 := Tryz.sizeOf120
  v66 := Tryz.zeroValue120
  t70 := Tryz.underlying124
  a70 := Tryz.isAgg124
  z70 := Tryz.sizeOf124
  v70 := Tryz.zeroValue124
  t76 := Tryz.underlying137
  a76 := Tryz.isAgg137
  z76 := Tryz.sizeOf137
  v76 := Tryz.zeroValue137
  t77 := Tryz.underlying116
  a77 := Tryz.isAgg116
  z77 := Tryz.sizeOf116
  v77 := Tryz.zeroValue116
def Tryz.searchA_ren : Go.Shelf.Ren := ⟨fun | 14 => 40 | n => n, fun | 22 => 22 | 24 => 34 | 29 => 34 | 32 => 70 | 3 => 3 | 4 => 4 | 35 => 88 | 0 => 0 | n => n, fun | n => n⟩
theorem Tryz.searchA : Go.Proofs.SlLaysG2.n14 Tryz.prog Tryz.searchA_ren where
  mixed := by kernel_rfl
  f14 := ⟨"slices.BinarySearchFunc[[][]int,[]int,[]int]", by decide, Tryz.func40.trans (congrArg some (by kernel_rfl))⟩
  t0 := Tryz.underlying0
  a0 := Tryz.isAgg0
  z0 := Tryz.sizeOf0
  v0 := Tryz.zeroValue0
  t3 := Tryz.underlying3
  a3 := Tryz.isAgg3
  z3 := Tryz.sizeOf3
  v3 := Tryz.zeroValue3
  t4 := Tryz.underlying4
  a4 := Tryz.isAgg4
  z4 := Tryz.sizeOf4
  v4 := Tryz.zeroValue4
  t22 := Tryz.underlying22
  a22 := Tryz.isAgg22
  z22 := Tryz.sizeOf22
  v22 := Tryz.zeroValue22
  a24 := Tryz.isAgg34
  z24 := Tryz.sizeOf34
  a29 := Tryz.isAgg34
  z29 := Tryz.sizeOf34
  t32 := Tryz.underlying70
  a32 := Tryz.isAgg70
  z32 := Tryz.sizeOf70
  v32 := Tryz.zeroValue70
  t35 := Tryz.underlying88
  a35 := Tryz.isAgg88
  z35 := Tryz.sizeOf88
  v35 := Tryz.zeroValue88

end Go.Proofs.YtihaheinkpmnnaaGreat

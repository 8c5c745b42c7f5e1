/- Why a changed model is not valid: what lists say. -/
import Derived.Test.YtbddpjofhddilaaNSO
import Derived.Test.YtbddpjofhddilaaN08
namespace Go.Proofs.Ytbddpjofhddilaa
open Go.RowKit

theorem rank_not_full {zs ds : List Nat} {ss : List Int} (hf : fits zs.length ss = true) (hl : ds.length = ss.length) (hd : ∀ d ∈ ds, d < sum zs) {x : Nat} {s : Int} (hx : ds[0]? = some x) (hs : ss[0]? = some s) (hne : sortI zs (x : Int) ≠ s) :
    rankI (sum zs) (ints ds) ∉ fullL zs ss := by
  intro hm
  have hf' := hf
  simp only [fits, decide_eq_true_eq] at hf'
  rw [fullL, if_pos hf] at hm
  have hr : rankI (sum zs) (ints ds) = (num (sum zs) ds : Nat) := rankI_in (by omega) hd
  rw [hr] at hm
  replace hm := List.mem_map.1 hm
  obtain ⟨m, hm, e⟩ := hm
  have e' : m = num (sum zs) ds := Int.ofNat.inj e
  subst e'
  have h1 := (digs_tuple hm).1
  rw [dig_num (ss.map Int.toNat).length ds (by rw [List.length_map]; exact hl) hd] at h1
  have h2 := (fit_iff hd hl (fun s hs => (hf'.2.2 s hs).1)).2 h1
  rw [fitR_no (i := 0) (by show (ds.map _)[0]? = _; rw [List.getElem?_map, hx]; rfl) hs hne] at h2
  cases h2
theorem full_up {zs : List Nat} {ss : List Int} : Up (fullL zs ss) := by
  unfold fullL
  split
  · exact List.pairwise_map.2 ((digs_sorted _ _).imp fun h => by simpa using h)
  · exact List.Pairwise.nil
theorem rising_upZ {hi : Int} : ∀ {l : List Int} {lo : Int}, rising hi lo l = true → Up l ∧ ∀ z ∈ l, lo < z
  | [], _, _ => ⟨List.Pairwise.nil, fun z hz => by cases hz⟩
  | x :: l, lo, h => by
    rw [rising, Bool.and_eq_true, Bool.and_eq_true, decide_eq_true_eq, decide_eq_true_eq] at h
    obtain ⟨h1, h2⟩ := rising_upZ h.2
    refine ⟨List.pairwise_cons.2 ⟨h2, h1⟩, fun z hz => ?_⟩
    rcases List.mem_cons.1 hz with rfl | hz
    · exact h.1.1
    · have := h2 z hz
      omega
/-- The tuple of an atom and the first atoms of the further sorts. -/
def tupF (zs : List Nat) (ss : List Int) (x : Nat) : Nat → List Nat
  | 0 => [x]
  | j + 1 => tupF zs ss x j ++ [sum (zs.take ((ss.getD (j + 1) 0).toNat))]
theorem tupF_len (zs : List Nat) (ss : List Int) (x : Nat) : ∀ j, (tupF zs ss x j).length = j + 1
  | 0 => rfl
  | j + 1 => by rw [tupF, List.length_append, tupF_len zs ss x j]; rfl
theorem tupF_first (zs : List Nat) (ss : List Int) (x : Nat) : ∀ j, (tupF zs ss x j)[0]? = some x
  | 0 => rfl
  | j + 1 => by rw [tupF, List.getElem?_append_left (by rw [tupF_len]; omega)]; exact tupF_first zs ss x j
theorem sum_first {zs : List Nat} (hz : ∀ z ∈ zs, 1 ≤ z) : ∀ {m : Nat}, m < zs.length → sum (zs.take m) < sum zs := by
  induction zs with
  | nil => intro m h; simp at h
  | cons z l ih =>
    intro m h
    have hz1 := hz z (by simp)
    cases m with
    | zero => simp only [List.take_zero, sum]; omega
    | succ m =>
      have := ih (fun y hy => hz y (List.mem_cons_of_mem _ hy)) (m := m) (by simpa using h)
      simp only [List.take_succ_cons, sum]
      omega
theorem tupF_lt {zs : List Nat} {ss : List Int} {x : Nat} (hz : ∀ z ∈ zs, 1 ≤ z) (hx : x < sum zs) (hs : ∀ s ∈ ss, 0 ≤ s ∧ s < (zs.length : Int)) : ∀ {j : Nat}, j < ss.length → ∀ d ∈ tupF zs ss x j, d < sum zs
  | 0, _, d, hd => by simp [tupF] at hd; omega
  | j + 1, hj, d, hd => by
    rw [tupF, List.mem_append, List.mem_singleton] at hd
    rcases hd with hd | rfl
    · exact tupF_lt hz hx hs (by omega) d hd
    · have h1 : ss[j + 1]? = some ss[j + 1] := List.getElem?_eq_getElem hj
      rw [List.getD_eq_getElem?_getD, h1, Option.getD_some]
      have h2 := hs _ (List.getElem_mem hj)
      exact sum_first hz (by omega)

/-- What a valid model's relation is. -/
theorem field_parts {zs : List Nat} {nf i : Nat} {f : Fd} {l0 l : List Rl} (h : fieldB zs nf i f l0 l = true) : l.length = nf ∧ fitsB (sum zs) (l.getD i (0, [])) ((fullK zs.length f.2.1 : Nat), fullL zs f.2.1) = true := by
  unfold fieldB at h
  simp only [Bool.and_eq_true, decide_eq_true_eq] at h
  exact h.1
theorem validM_field {k : Nat} {us : List Int} {st : Int} {F : List Fd} {L : List (List Rl)} {lp : Int} (h : validM k us st F L lp = true) {i j : Nat} {f : Fd} {l : List Rl} (hf : F[i]? = some f) (hl : L[j]? = some l) : fieldB (us.map Int.toNat) F.length i f (L.getD 0 []) l = true := by
  cases hb : fieldB (us.map Int.toNat) F.length i f (L.getD 0 []) l with
  | true => rfl
  | false => rw [validM_not hf hl hb] at h; cases h
/-- Loop out of range; a state missing; a relation of a state missing. -/
theorem validM_loop {k : Nat} {us : List Int} {st : Int} {F : List Fd} {L : List (List Rl)} : validM k us st F L (L.length : Nat) = false := by
  cases h : validM k us st F L (L.length : Nat) with
  | false => rfl
  | true =>
    have := loopedB_iff.1 (validM_parts h).2.2.1
    omega
theorem validM_drop {k : Nat} {us : List Int} {st : Int} {F : List Fd} {L : List (List Rl)} {lp lp' : Int} (h : validM k us st F L lp = true) : validM k us st F (L.drop 1) lp' = false := by
  cases h' : validM k us st F (L.drop 1) lp' with
  | false => rfl
  | true =>
    have h1 := (validM_parts h).2.1
    have h2 := (validM_parts h').2.1
    have h3 := loopedB_iff.1 (validM_parts h).2.2.1
    rw [List.length_drop] at h2
    omega
theorem validM_odd {k : Nat} {us : List Int} {st : Int} {F : List Fd} {L : List (List Rl)} {lp : Int} {l : List Rl} (hl : l ∈ L) (hne : l.length ≠ F.length) : validM k us st F L lp = false := by
  cases h : validM k us st F L lp with
  | false => rfl
  | true =>
    have h1 := (validM_parts h).2.2.2.2
    unfold oddState at h1
    rw [List.any_eq_false] at h1
    have := h1 l hl
    simp at this
    exact absurd this hne
theorem fits_parts {n : Nat} {r f : Rl} (h : fitsB n r f = true) : r.1 = f.1 ∧ 1 ≤ r.1 ∧ Up r.2 ∧ inB r.2 f.2 = true := by
  unfold fitsB at h
  simp only [Bool.and_eq_true, decide_eq_true_eq] at h
  have hv := relValid_iff.1 h.1.2
  exact ⟨h.1.1, hv.1.2.2.1, (rising_upZ hv.2).1, h.2⟩
theorem validI_pos {k : Nat} {us : List Int} {st : Int} (h : validI k us st = true) : ∀ z ∈ us.map Int.toNat, 1 ≤ z := fun z hz => by
  simp only [validI, Bool.and_eq_true, decide_eq_true_eq] at h
  obtain ⟨y, hy, rfl⟩ := List.mem_map.1 hz
  have := sized_at h.1.2 hy
  omega
/-- The columns of a valid model's field. -/
theorem validM_cols {k : Nat} {us : List Int} {st : Int} {F : List Fd} {L : List (List Rl)} {lp : Int} (h : validM k us st F L lp = true) {i : Nat} {f : Fd} (hf : F[i]? = some f) : fits (us.map Int.toNat).length f.2.1 = true := by
  have hlo := loopedB_iff.1 (validM_parts h).2.2.1
  obtain ⟨l, hl⟩ : ∃ l, L[0]? = some l := ⟨_, List.getElem?_eq_getElem (by omega)⟩
  have h1 := fits_parts (field_parts (validM_field h hf hl)).2
  have h2 : (l.getD i (0, [])).1 = ((fullK (us.map Int.toNat).length f.2.1 : Nat) : Int) := h1.1
  unfold fullK at h2
  split at h2
  · assumption
  · have := h1.2.1; omega
theorem validM_len {k : Nat} {us : List Int} {st : Int} {F : List Fd} {L : List (List Rl)} {lp : Int} (h : validM k us st F L lp = true) {j : Nat} {l : List Rl} (hl : L[j]? = some l) : l.length = F.length := by
  have h1 := (validM_parts h).2.2.2.2
  unfold oddState at h1
  rw [List.any_eq_false] at h1
  have := h1 l (List.mem_of_getElem? hl)
  simpa using this
theorem validM_sort {k : Nat} {us : List Int} {st : Int} {F : List Fd} {L : List (List Rl)} {lp lp' : Int} (h : validM k us st F L lp = true) {i j x : Nat} {f : Fd} {l : List Rl} {r : Rl} {s : Int} (hf : F[i]? = some f) (hl : L[j]? = some l) (hr : l[i]? = some r)
    (hx : x < sum (us.map Int.toNat)) (hs : f.2.1[0]? = some s) (hne : sortI (us.map Int.toNat) (x : Int) ≠ s) :
    validM k us st F (L.set j (l.set i (r.1, unionL r.2 [rankI (sum (us.map Int.toNat)) (ints (tupF (us.map Int.toNat) f.2.1 x (f.2.1.length - 1)))]))) lp' = false := by
  have hc := validM_cols h hf
  have hc' := hc
  simp only [fits, decide_eq_true_eq] at hc'
  have hi := (List.getElem?_eq_some_iff.1 hr).1
  have hj := (List.getElem?_eq_some_iff.1 hl).1
  have hpos := validI_pos (validM_parts h).1
  have h0 := fits_parts (field_parts (validM_field h hf hl)).2
  rw [List.getD_eq_getElem?_getD, hr, Option.getD_some] at h0
  have hss : 0 < f.2.1.length := by omega
  have hnf := rank_not_full (ds := tupF (us.map Int.toNat) f.2.1 x (f.2.1.length - 1)) hc (by rw [tupF_len]; omega) (fun d hd => tupF_lt hpos hx hc'.2.2 (by omega) d hd) (tupF_first _ _ _ _) hs hne
  refine validM_not hf (l := l.set i _) (j := j) (by rw [List.getElem?_set_self hj]) ?_
  cases hb : fieldB (us.map Int.toNat) F.length i f ((L.set j (l.set i (r.1, unionL r.2 [rankI (sum (us.map Int.toNat)) (ints (tupF (us.map Int.toNat) f.2.1 x (f.2.1.length - 1)))]))).getD 0 []) (l.set i (r.1, unionL r.2 [rankI (sum (us.map Int.toNat)) (ints (tupF (us.map Int.toNat) f.2.1 x (f.2.1.length - 1)))])) with
  | false => rfl
  | true =>
    have h1 := fits_parts (field_parts hb).2
    rw [List.getD_eq_getElem?_getD, List.getElem?_set_self hi, Option.getD_some] at h1
    have hm : rankI (sum (us.map Int.toNat)) (ints (tupF (us.map Int.toNat) f.2.1 x (f.2.1.length - 1))) ∈ unionL r.2 [rankI (sum (us.map Int.toNat)) (ints (tupF (us.map Int.toNat) f.2.1 x (f.2.1.length - 1)))] := (mem_union h0.2.2.1 (List.pairwise_singleton _ _)).2 (.inr (by simp))
    exact absurd ((inB_iff h1.2.2.1 full_up).1 h1.2.2.2 _ hm) hnf
end Go.Proofs.Ytbddpjofhddilaa

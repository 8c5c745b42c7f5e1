/- The ranks of all tuples over given sorts: those whose atoms fit, in order. -/
import Derived.Test.YtagfkapgjdaiaaaDoorAr
namespace Go.Proofs.YtagfkapgjdaiaaaDoor
open Go.RowKit Go.Shelf

theorem sorted_ext : ∀ {l m : List Nat}, l.Pairwise (· < ·) → m.Pairwise (· < ·) → (∀ x, x ∈ l ↔ x ∈ m) → l = m
  | [], [], _, _, _ => rfl
  | [], b :: m, _, _, h => by have := (h b).2 (by simp); cases this
  | a :: l, [], _, _, h => by have := (h a).1 (by simp); cases this
  | a :: l, b :: m, hl, hm, h => by
    rw [List.pairwise_cons] at hl hm
    have hab : a = b := by
      have h1 := (h a).1 (by simp)
      have h2 := (h b).2 (by simp)
      rw [List.mem_cons] at h1 h2
      rcases h1 with h1 | h1
      · exact h1
      · rcases h2 with h2 | h2
        · exact h2.symm
        · have := hl.1 b h2; have := hm.1 a h1; omega
    subst hab
    rw [sorted_ext hl.2 hm.2 fun x => ⟨fun hx => ?_, fun hx => ?_⟩]
    · have h1 := (h x).1 (by simp [hx])
      rw [List.mem_cons] at h1
      rcases h1 with rfl | h1
      · have := hl.1 x hx; omega
      · exact h1
    · have h1 := (h x).2 (by simp [hx])
      rw [List.mem_cons] at h1
      rcases h1 with rfl | h1
      · have := hm.1 x hx; omega
      · exact h1
/-- Atoms of those sorts have a rank among them. -/
theorem of_digs {zs : List Nat} : ∀ (ss ds : List Nat) (x : Nat), OfSorts zs ds ss → ds.foldl (fun v d => v * sum zs + d) x ∈ digs zs x ss
  | [], ds, x, h => by
    rw [List.eq_nil_of_length_eq_zero h.1]
    simp [digs]
  | s :: ss, [], x, h => by have := h.1; cases this
  | s :: ss, d :: ds, x, h => by
    have h0 := h.2 0 d s rfl rfl
    have ht : OfSorts zs ds ss := ⟨by have := h.1; simpa using this, fun j d' s' hd hs => h.2 (j + 1) d' s' (by simpa using hd) (by simpa using hs)⟩
    cases hz : zs[s]? with
    | none =>
      have hle : zs.length ≤ s := by simpa using hz
      have h1 : zs.take s = zs := List.take_of_length_le hle
      have h2 : zs.take (s + 1) = zs := List.take_of_length_le (by omega)
      rw [h1, h2] at h0; omega
    | some z =>
      have h1 : sum (zs.take (s + 1)) = sum (zs.take s) + z := by rw [List.take_add_one, hz, Option.toList_some, sum_snoc]
      simp only [digs, List.mem_flatMap, List.mem_range]
      refine ⟨d - sum (zs.take s), by rw [List.getD_eq_getElem?_getD, hz]; simp; omega, ?_⟩
      rw [show sum (zs.take s) + (d - sum (zs.take s)) = d by omega]
      exact of_digs ss ds _ ht
theorem fit_iff {zs ds : List Nat} {ss : List Int} (hd : ∀ d ∈ ds, d < sum zs) (hl : ds.length = ss.length) (hs : ∀ s ∈ ss, 0 ≤ s) : fitR zs (ints ds) ss = true ↔ OfSorts zs ds (ss.map Int.toNat) := by
  constructor
  · intro h
    refine ⟨by rw [List.length_map]; exact hl, fun j d s hdj hsj => ?_⟩
    rw [List.getElem?_map] at hsj
    cases hq : ss[j]? with
    | none => rw [hq] at hsj; cases hsj
    | some t =>
      rw [hq] at hsj
      have e : t.toNat = s := by simpa using hsj
      have ht := hs t (List.mem_of_getElem? hq)
      have h1 := List.all_eq_true.1 h ((d : Int), t) (List.mem_of_getElem? (i := j) (by rw [List.getElem?_zip_eq_some]; exact ⟨by simp [ints, hdj], hq⟩))
      have hdl := hd d (List.mem_of_getElem? hdj)
      have h2 := (sortI_is (l := zs) (x := (d : Int)) (i := s) (by omega) (by omega)).1 (by have := of_decide_eq_true h1; simp only at this; omega)
      omega
  · intro h
    refine fitR_yes fun i d s hdi hsi => ?_
    rw [ints, List.getElem?_map] at hdi
    cases hq : ds[i]? with
    | none => rw [hq] at hdi; cases hdi
    | some e =>
      rw [hq] at hdi
      have he : (e : Int) = d := by simpa using hdi
      subst he
      have hs0 := hs s (List.mem_of_getElem? hsi)
      have h1 := h.2 i e s.toNat hq (by rw [List.getElem?_map, hsi]; rfl)
      have hdl := hd e (List.mem_of_getElem? hq)
      have h2 := (sortI_is (l := zs) (x := (e : Int)) (i := s.toNat) (by omega) (by omega)).2 (by omega)
      omega
/-- The ranks below m whose atoms fit. -/
def fitTo (zs : List Nat) (ss : List Int) (m : Nat) : List Nat := (List.range m).filter fun r => fitR zs (ints (dig (sum zs) ss.length r)) ss
theorem fitTo_succ (zs : List Nat) (ss : List Int) (m : Nat) : fitTo zs ss (m + 1) = if fitR zs (ints (dig (sum zs) ss.length m)) ss then fitTo zs ss m ++ [m] else fitTo zs ss m := by
  unfold fitTo
  rw [List.range_succ, List.filter_append]
  by_cases h : fitR zs (ints (dig (sum zs) ss.length m)) ss = true
  · rw [if_pos h]; simp [h]
  · rw [if_neg h]; simp [h]
theorem fitTo_length (zs : List Nat) (ss : List Int) (m : Nat) : (fitTo zs ss m).length ≤ m := by
  have h := List.length_filter_le (fun r => fitR zs (ints (dig (sum zs) ss.length r)) ss) (List.range m)
  rw [List.length_range] at h
  exact h
theorem fitTo_digs {zs : List Nat} {ss : List Int} (hs : ∀ s ∈ ss, 0 ≤ s) (h1 : ss.length ≠ 0) : fitTo zs ss (sum zs ^ ss.length) = digs zs 0 (ss.map Int.toNat) := by
  have hl : (ss.map Int.toNat).length = ss.length := by simp
  refine sorted_ext ?_ (digs_sorted _ _) fun r => ⟨fun h => ?_, fun h => ?_⟩
  · exact (List.pairwise_lt_range).sublist List.filter_sublist
  · have h2 := List.mem_filter.1 h
    have hr := List.mem_range.1 h2.1
    have hN : 1 ≤ sum zs := by
      rcases Nat.eq_zero_or_pos (sum zs) with h0 | h0
      · rw [h0, Nat.zero_pow (by omega)] at hr; omega
      · exact h0
    have h3 := (fit_iff (dig_lt hN _ r) (by rw [dig_length]) hs).1 h2.2
    have h4 := of_digs _ _ 0 h3
    have h5 : num (sum zs) (dig (sum zs) ss.length r) = r := num_dig hN _ r hr
    rw [num] at h5
    rw [h5] at h4
    exact h4
  · have h2 := digs_tuple h
    rw [hl] at h2
    exact List.mem_filter.2 ⟨List.mem_range.2 h2.2, (fit_iff h2.1.lt (by rw [dig_length]) hs).2 h2.1⟩
end Go.Proofs.YtagfkapgjdaiaaaDoor

/- The reference lexer's symbol: the longest that fits is the one that the scanner finds. -/
import Derived.Test.YtmcokfalkkjgmaaDoorI
namespace Go.Proofs.YtmcokfalkkjgmaaDoor
open Go.RowKit

def refBytes : List (List UInt8) := [[40], [41], [123], [125], [91], [93], [58], [59], [44], [124], [124, 124], [46], [39], [126], [94], [42], [43], [43, 43], [45], [45, 62], [38], [38, 38], [35], [61], [61, 62], [33, 61], [60], [60, 61], [60, 61, 62]]
def refSym (j : Nat) : ByteArray := ⟨(refBytes.getD j []).toArray⟩
def refCells : Array Value := (refBytes.map fun l => Value.string ⟨l.toArray⟩).toArray
theorem refSym_size (j : Nat) (hj : j < 29) : 0 < (refSym j).size ∧ (refSym j).size ≤ 3 := by
  have h : ∀ j : Fin 29, 0 < (refSym j).size ∧ (refSym j).size ≤ 3 := by decide
  exact h ⟨j, hj⟩

theorem refSymbols_calls (w : World) : Calls Tryd.prog 37 #[] w fun e w' => e = .returned (.slice (some ⟨w.heap.size, 0, none⟩) 29 29) ∧ w.alloc (.cells refCells 9) = w' := by
  go_enter Tryd.func37, Tryd.ntmps37
  go_wp2
  go_ret
  exact ⟨rfl, rfl⟩
theorem refCells_at (j : Nat) (hj : j < 29) : refCells[j]? = some (.string (refSym j)) := by
  have h : ∀ j : Fin 29, refCells[(j : Nat)]? = some (.string (refSym j)) := by
    intro j
    match j with
    | ⟨j, hj⟩ =>
      simp only [refCells, refSym, List.getElem?_toArray, List.getElem?_map, List.getD_eq_getElem?_getD]
      have : j < refBytes.length := hj
      rw [List.getElem?_eq_getElem this]; rfl
  exact h ⟨j, hj⟩

/-- Of the first n symbols the longest that fits, the empty text if none does. -/
def bestTo (s : ByteArray) (k : Nat) : Nat → ByteArray
  | 0 => ByteArray.empty
  | n + 1 => if fitB (refSym n) s k && decide ((bestTo s k n).size < (refSym n).size) then refSym n else bestTo s k n

theorem fit_ext {y s : ByteArray} {k : Nat} (h : k + y.size ≤ s.size) : fitB y s k = ((s.extract k (k + y.size)).toList == y.toList) := by
  rw [Bool.eq_iff_iff, fitB_iff, beq_iff_eq, ByteArray.toList_eq, ByteArray.toList_eq]
  have hl : (s.extract k (k + y.size)).size = y.size := by simp [ByteArray.size_extract]; omega
  constructor
  · intro hF
    apply List.ext_getElem
    · show (s.extract k (k + y.size)).size = y.size
      exact hl
    · intro i h1 h2
      have hi : i < y.size := h2
      have := hF.2 i hi
      rw [cur_get hi, cur_get (show k + i < s.size by omega)] at this
      have e : (s.extract k (k + y.size))[i]'(by omega) = s[k + i] := ByteArray.getElem_extract (by omega)
      have e2 : y[i] = s[k + i] := UInt8.toNat_inj.1 this
      exact e.trans e2.symm
  · intro he
    refine ⟨h, fun i hi => ?_⟩
    have e : (s.extract k (k + y.size))[i]'(by omega) = s[k + i] := ByteArray.getElem_extract (by omega)
    rw [cur_get hi, cur_get (show k + i < s.size by omega), ← e]
    have : (s.extract k (k + y.size)) = y := by
      cases hx : s.extract k (k + y.size); cases y
      rw [hx] at he
      simpa [Array.toList_inj] using he
    simp only [this]

set_option maxHeartbeats 1000000 in
theorem refSymbol_calls (s : ByteArray) (k : Nat) (w : World) (hs : s.size ≤ maxLen) (hk : k < s.size) (hs2 : s.size ≤ 20000) :
    Calls Tryd.prog 35 #[.string s, .int .i64 (k : Int)] w fun e w' => e = .returned (.string (bestTo s k 29)) ∧ w.grownBy w' none := by
  have HS := Lib.hid hs
  unfold maxLen at hs
  go_enter Tryd.func35, Tryd.ntmps35
  go_wp2_with fail
  refine (refSymbols_calls w).mono ?_
  rintro e w1 ⟨rfl, hw1⟩
  have hcells : ∀ j, j < 29 → w1.cell? ⟨w.heap.size, j, none⟩ = some (.string (refSym j)) := by
    intro j hj
    rw [← hw1, cell_of_row _ w.heap.size j refCells 9 (0, 0) (heap_alloc_new w _)]
    exact refCells_at j hj
  have HCE := Lib.hid hcells; clear hcells
  have HG := Lib.hid (show w.grownBy w1 none by rw [← hw1]; exact World.grownBy_alloc _ _ _)
  clear hw1
  go_wp2
  go_loopg [5, 7] 29 (fun g s5 s7 wr => ∃ j : Nat, s7 = .int .i64 (j : Int) ∧ g = 29 - j ∧ j ≤ 29 ∧ s5 = .string (bestTo s k j) ∧ ∃ n, wr = w1.drewN n)
  case atStart => exact ⟨0, rfl, rfl, by omega, rfl, 0, rfl⟩
  case round =>
    obtain ⟨j, rfl, hg, hj, rfl, n, rfl⟩ := hrel
    have HGK := Lib.hid hg; clear hg
    by_cases hj29 : j < 29
    · have hjI : decide ((j : Int) < 29) = true := by simp; omega
      have hjI2 : (j : Int) < 29 := by omega
      have hc := HCE.out j hj29
      have hsz := refSym_size j hj29
      have hB : bestTo s k (j + 1) = if fitB (refSym j) s k && decide ((bestTo s k j).size < (refSym j).size) then refSym j else bestTo s k j := rfl
      obtain ⟨r, hr⟩ : ∃ r, bestTo s k j = r := ⟨_, rfl⟩
      obtain ⟨y, hy⟩ : ∃ y, refSym j = y := ⟨_, rfl⟩
      rw [hr]
      rw [hy] at hc hsz
      rw [hr, hy] at hB
      have HBB := Lib.hid hB; clear hB hr hy
      by_cases hfit : k + y.size ≤ s.size
      · have hf1 : decide ((k : Int) + (y.size : Int) ≤ (s.size : Int)) = true := by simp; omega
        have hwr : IntKind.i64.wrap ((k : Int) + (y.size : Int)) = (k : Int) + (y.size : Int) := IntWalk.i64_in _ (by omega)
        have hI1 : (k : Int) ≤ (k : Int) + (y.size : Int) := by omega
        have hI2 : (k : Int) + (y.size : Int) ≤ (s.size : Int) := by omega
        have hI0 : (0 : Int) ≤ (k : Int) + (y.size : Int) := by omega
        have hto : ((k : Int) + (y.size : Int)).toNat = k + y.size := by omega
        cases he : ((s.extract k (k + y.size)).toList == y.toList)
        · have hb : fitB y s k = false := by rw [fit_ext hfit]; exact he
          have HB := Lib.hid hb; clear hb
          go_wp2
          go_quiet (fail)
          go_wp2
          go_roundg (29 - (j + 1))
          case measure => rw [HGK.out]; omega
          case rel => exact ⟨j + 1, rfl, rfl, by omega, by rw [HBB.out, HB.out]; rfl, _, by first | rfl | rw [World.drewN_drewN]⟩
        · have hb : fitB y s k = true := by rw [fit_ext hfit]; exact he
          have HB := Lib.hid hb; clear hb
          by_cases hlt : r.size < y.size
          · have hltI : decide ((r.size : Int) < (y.size : Int)) = true := by simp; omega
            go_wp2
            go_quiet (fail)
            go_wp2
            go_roundg (29 - (j + 1))
            case measure => rw [HGK.out]; omega
            case rel => exact ⟨j + 1, rfl, rfl, by omega, by rw [HBB.out, HB.out]; simp [hlt], _, by first | rfl | rw [World.drewN_drewN]⟩
          · have hltI : decide ((r.size : Int) < (y.size : Int)) = false := by simp; omega
            go_wp2
            go_quiet (fail)
            go_wp2
            go_roundg (29 - (j + 1))
            case measure => rw [HGK.out]; omega
            case rel => exact ⟨j + 1, rfl, rfl, by omega, by rw [HBB.out, HB.out]; simp [hlt], _, by first | rfl | rw [World.drewN_drewN]⟩
      · have hf1 : decide ((k : Int) + (y.size : Int) ≤ (s.size : Int)) = false := by simp; omega
        go_wp2
        go_quiet (fail)
        go_wp2
        go_roundg (29 - (j + 1))
        case measure => rw [HGK.out]; omega
        case rel => exact ⟨j + 1, rfl, rfl, by omega, by rw [HBB.out, show fitB y s k = false by simp [fitB, hfit]]; rfl, _, by first | rfl | rw [World.drewN_drewN]⟩
    · obtain rfl : j = 29 := by omega
      go_wp2
      go_ret
      exact ⟨rfl, HG.out.trans (grown_drewN _ _ _)⟩

theorem fit_text {y s : ByteArray} {k : Nat} (h : fitB y s k = true) : s.extract k (k + y.size) = y := by
  have hF := (fitB_iff _ _ _).1 h
  rw [fit_ext hF.1, beq_iff_eq, ByteArray.toList_eq, ByteArray.toList_eq] at h
  cases hx : s.extract k (k + y.size); cases y
  rw [hx] at h
  simpa [Array.toList_inj] using h

theorem best_spec (s : ByteArray) (k : Nat) : ∀ n, n ≤ 29 → (bestTo s k n = ByteArray.empty ∧ ∀ i, i < n → fitB (refSym i) s k = false) ∨
    (∃ i, i < n ∧ fitB (refSym i) s k = true ∧ bestTo s k n = refSym i ∧ ∀ i', i' < n → fitB (refSym i') s k = true → (refSym i').size ≤ (refSym i).size)
  | 0, _ => .inl ⟨rfl, fun i hi => absurd hi (by omega)⟩
  | n + 1, hn => by
    have hsz := refSym_size n (by omega)
    have ih := best_spec s k n (by omega)
    simp only [bestTo]
    cases hf : fitB (refSym n) s k
    · simp only [Bool.false_and, Bool.false_eq_true, if_false]
      rcases ih with ⟨h1, h2⟩ | ⟨i, h1, h2, h3, h4⟩
      · refine .inl ⟨h1, fun i hi => ?_⟩
        by_cases e : i = n
        · rw [e]; exact hf
        · exact h2 i (by omega)
      · refine .inr ⟨i, by omega, h2, h3, fun i' hi' hf' => ?_⟩
        by_cases e : i' = n
        · rw [e] at hf'; rw [hf] at hf'; cases hf'
        · exact h4 i' (by omega) hf'
    · simp only [Bool.true_and, decide_eq_true_eq]
      rcases ih with ⟨h1, h2⟩ | ⟨i, h1, h2, h3, h4⟩
      · rw [h1, if_pos (by simp; omega)]
        refine .inr ⟨n, by omega, hf, rfl, fun i' hi' hf' => ?_⟩
        by_cases e : i' = n
        · rw [e]; exact Nat.le_refl _
        · rw [h2 i' (by omega)] at hf'; cases hf'
      · rw [h3]
        by_cases hlt : (refSym i).size < (refSym n).size
        · rw [if_pos hlt]
          refine .inr ⟨n, by omega, hf, rfl, fun i' hi' hf' => ?_⟩
          by_cases e : i' = n
          · rw [e]; exact Nat.le_refl _
          · have := h4 i' (by omega) hf'; omega
        · rw [if_neg hlt]
          refine .inr ⟨i, by omega, h2, rfl, fun i' hi' hf' => ?_⟩
          by_cases e : i' = n
          · rw [e]; omega
          · exact h4 i' (by omega) hf'

theorem sym_ref : ∀ j : Fin 29, ∃ i : Fin 29, sym j = refSym i := by decide +kernel
theorem ref_sym : ∀ j : Fin 29, ∃ i : Fin 29, refSym j = sym i := by decide +kernel
theorem sym_order : ∀ j i : Fin 29, (j : Nat) ≤ i → (sym j).size < (sym i).size → ∃ x : Fin 3, (x : Nat) < (sym j).size ∧ cur (sym j) x ≠ cur (sym i) x := by decide +kernel

/-- The scanner's symbol is the longest that fits. -/
theorem symFrom_first {s : ByteArray} {k e : Nat} : ∀ n i, i + n ≤ 29 → symFrom s k n i = some e → ∃ j, i ≤ j ∧ j < i + n ∧ fitB (sym j) s k = true ∧ e = k + (sym j).size ∧ ∀ x, i ≤ x → x < j → fitB (sym x) s k = false
  | 0, i, _, h => by simp [symFrom] at h
  | n + 1, i, hn, h => by
    simp only [symFrom] at h
    cases hf : fitB (sym i) s k
    · rw [hf] at h
      obtain ⟨j, h1, h2, h3, h4, h5⟩ := symFrom_first n (i + 1) (by omega) (by simpa using h)
      refine ⟨j, by omega, by omega, h3, h4, fun x hx hxj => ?_⟩
      by_cases e : x = i
      · rw [e]; exact hf
      · exact h5 x (by omega) hxj
    · rw [hf] at h
      simp at h
      exact ⟨i, Nat.le_refl _, by omega, hf, h.symm, fun x hx hxj => by omega⟩
theorem symFrom_empty {s : ByteArray} {k : Nat} : ∀ n i, i + n ≤ 29 → symFrom s k n i = none → ∀ x, i ≤ x → x < i + n → fitB (sym x) s k = false
  | 0, i, _, h, x, h1, h2 => by omega
  | n + 1, i, hn, h, x, h1, h2 => by
    simp only [symFrom] at h
    cases hf : fitB (sym i) s k
    · rw [hf] at h
      by_cases e : x = i
      · rw [e]; exact hf
      · exact symFrom_empty n (i + 1) (by omega) (by simpa using h) x (by omega) (by omega)
    · rw [hf] at h; simp at h
theorem symEnd_longest {s : ByteArray} {k e : Nat} (h : symEnd s k = some e) : ∃ j, j < 29 ∧ fitB (sym j) s k = true ∧ e = k + (sym j).size ∧ ∀ i, i < 29 → fitB (sym i) s k = true → (sym i).size ≤ (sym j).size := by
  obtain ⟨j, _, h2, h3, h4, h5⟩ := symFrom_first 29 0 (by omega) h
  refine ⟨j, by omega, h3, h4, fun i hi hf => ?_⟩
  by_cases hij : i < j
  · rw [h5 i (by omega) hij] at hf; cases hf
  · refine Nat.le_of_not_lt fun hlt => ?_
    obtain ⟨x, hx, hne⟩ := sym_order ⟨j, by omega⟩ ⟨i, hi⟩ (by simp; omega) hlt
    have hFj := ((fitB_iff _ _ _).1 h3).2 x hx
    have hFi := ((fitB_iff _ _ _).1 hf).2 x (by simp at hlt hx ⊢; omega)
    exact hne (hFj.trans hFi.symm)

theorem best_sym (s : ByteArray) (k : Nat) : bestTo s k 29 = s.extract k ((symEnd s k).getD k) ∧ ((bestTo s k 29).size = 0 ↔ symEnd s k = none) ∧ (bestTo s k 29).size = (symEnd s k).getD k - k := by
  cases h : symEnd s k with
  | none =>
    have hno := symFrom_empty 29 0 (by omega) h
    have hb : bestTo s k 29 = ByteArray.empty := by
      rcases best_spec s k 29 (by omega) with ⟨h1, _⟩ | ⟨i, h1, h2, _⟩
      · exact h1
      · obtain ⟨j, hj⟩ := ref_sym ⟨i, h1⟩
        have := hno j (by omega) (by omega)
        rw [← hj] at this; simp only at this; rw [h2] at this; cases this
    rw [hb]
    refine ⟨?_, by simp, by simp⟩
    simp only [Option.getD_none]
    cases hx : s.extract k k with
    | mk d =>
      have : (s.extract k k).size = 0 := by simp
      rw [hx] at this
      have : d = #[] := Array.eq_empty_of_size_eq_zero this
      rw [this]; rfl
  | some e =>
    obtain ⟨j, hj, hf, he, hmax⟩ := symEnd_longest h
    have hsz := sym_size j hj
    obtain ⟨i0, hi0⟩ := sym_ref ⟨j, hj⟩
    simp only at hi0
    rcases best_spec s k 29 (by omega) with ⟨_, h2⟩ | ⟨i, h1, h2, h3, h4⟩
    · have := h2 i0 (by omega); rw [← hi0, hf] at this; cases this
    · obtain ⟨j', hj'⟩ := ref_sym ⟨i, h1⟩
      simp only at hj'
      have a1 := h4 i0 (by omega) (by rw [← hi0]; exact hf)
      have a2 := hmax j' (by omega) (by rw [← hj']; exact h2)
      rw [← hi0] at a1; rw [← hj'] at a2
      have ee : (refSym i).size = (sym j).size := by omega
      have ht := fit_text h2
      rw [h3]
      refine ⟨?_, ?_, ?_⟩
      · simp only [Option.getD_some, he, ← ee]; exact ht.symm
      · constructor
        · intro h0; omega
        · intro h0; cases h0
      · simp only [Option.getD_some, he]; omega
end Go.Proofs.YtmcokfalkkjgmaaDoor

/- What the examples' calls answer. -/
import Derived.Test.YtbddpjofhddilaaNSE
import Derived.Test.YtbddpjofhddilaaNSF
namespace Go.Proofs.Ytbddpjofhddilaa
open Go.RowKit

theorem small_list {L : List (List Rl)} (h : L.all smallS = true) : ∀ l ∈ L, l.length ≤ 10 ∧ ∀ r ∈ l, r.2.length ≤ 200 := by
  intro l hl
  have h2 := List.all_eq_true.1 h l hl
  simp only [smallS, smallR, Bool.and_eq_true, decide_eq_true_eq, List.all_eq_true] at h2
  exact h2
theorem ints_new (w : World) (zs : List Int) : IntsW (w.alloc (.cells (intCells zs).toArray 3)) (some ⟨w.heap.size, 0, none⟩) zs.length zs := by
  refine ⟨Nat.le_refl _, .inr ⟨w.heap.size, 0, rfl, fun j z hj => ?_⟩⟩
  have := World.cell?_alloc_new w (intCells zs).toArray 3 (0 + j)
  rw [this, Nat.zero_add, List.getElem?_toArray, intCells, List.getElem?_map, hj]
  rfl
theorem ints_new2 (w : World) (x0 x1 : Int) : IntsW (w.alloc (.cells #[.int .i64 x0, .int .i64 x1] 3)) (some ⟨w.heap.size, 0, none⟩) 2 [x0, x1] := ints_new w [x0, x1]
section
variable (w : World) (lp x0 x1 x2 x3 : Int)
theorem trace1_calls : Calls Try.prog 60 #[.int .i64 lp, .slice (some ⟨w.heap.size, 0, none⟩) 1 1] (w.alloc (.cells #[.int .i64 x0] 3)) fun e w' =>
    ∃ a1 c1 a2 c2, e = .returned (.agg #[.slice a1 1 c1, .int .i64 1, .slice a2 1 c2, .int .i64 lp]) ∧ (Ints w' a1 c1 [3] ∧ Sts w' a2 c2 [one1 x0]) ∧ (w.alloc (.cells #[.int .i64 x0] 3)).grownBy w' none :=
  (trace_calls lp [x0] _ 1 _ (ints_new w [x0]) (by simp)).mono fun _ _ ⟨a1, c1, a2, c2, he, hs, hg⟩ => ⟨a1, c1, a2, c2, he, hs.here, hg⟩
theorem trace2_calls : Calls Try.prog 60 #[.int .i64 lp, .slice (some ⟨w.heap.size, 0, none⟩) 2 2] (w.alloc (.cells #[.int .i64 x0, .int .i64 x1] 3)) fun e w' =>
    ∃ a1 c1 a2 c2, e = .returned (.agg #[.slice a1 1 c1, .int .i64 2, .slice a2 2 c2, .int .i64 lp]) ∧ (Ints w' a1 c1 [3] ∧ Sts w' a2 c2 [one1 x0, one1 x1]) ∧ (w.alloc (.cells #[.int .i64 x0, .int .i64 x1] 3)).grownBy w' none :=
  (trace_calls lp [x0, x1] _ 2 _ (ints_new w [x0, x1]) (by simp)).mono fun _ _ ⟨a1, c1, a2, c2, he, hs, hg⟩ => ⟨a1, c1, a2, c2, he, hs.here, hg⟩
theorem trace3_calls : Calls Try.prog 60 #[.int .i64 lp, .slice (some ⟨w.heap.size, 0, none⟩) 3 3] (w.alloc (.cells #[.int .i64 x0, .int .i64 x1, .int .i64 x2] 3)) fun e w' =>
    ∃ a1 c1 a2 c2, e = .returned (.agg #[.slice a1 1 c1, .int .i64 3, .slice a2 3 c2, .int .i64 lp]) ∧ (Ints w' a1 c1 [3] ∧ Sts w' a2 c2 [one1 x0, one1 x1, one1 x2]) ∧ (w.alloc (.cells #[.int .i64 x0, .int .i64 x1, .int .i64 x2] 3)).grownBy w' none :=
  (trace_calls lp [x0, x1, x2] _ 3 _ (ints_new w [x0, x1, x2]) (by simp)).mono fun _ _ ⟨a1, c1, a2, c2, he, hs, hg⟩ => ⟨a1, c1, a2, c2, he, hs.here, hg⟩
theorem trace4_calls : Calls Try.prog 60 #[.int .i64 lp, .slice (some ⟨w.heap.size, 0, none⟩) 4 4] (w.alloc (.cells #[.int .i64 x0, .int .i64 x1, .int .i64 x2, .int .i64 x3] 3)) fun e w' =>
    ∃ a1 c1 a2 c2, e = .returned (.agg #[.slice a1 1 c1, .int .i64 4, .slice a2 4 c2, .int .i64 lp]) ∧ (Ints w' a1 c1 [3] ∧ Sts w' a2 c2 [one1 x0, one1 x1, one1 x2, one1 x3]) ∧ (w.alloc (.cells #[.int .i64 x0, .int .i64 x1, .int .i64 x2, .int .i64 x3] 3)).grownBy w' none :=
  (trace_calls lp [x0, x1, x2, x3] _ 4 _ (ints_new w [x0, x1, x2, x3]) (by simp)).mono fun _ _ ⟨a1, c1, a2, c2, he, hs, hg⟩ => ⟨a1, c1, a2, c2, he, hs.here, hg⟩
end
section
variable {w : World} {ia ia' ta ta' s1 fa : Option Addr} {ca ca' tc tc' k k' c1 fc : Nat} {st st' lp lp' : Int} {L L' : List (List Rl)} {fd : Fd} {B : Bool}
theorem headValid (hF : Fields w fa fc [fd]) (hu : Ints w ia ca [3]) (hT : Sts w ta tc L) (hk : L.length = k) (hk64 : k ≤ 64) (hs : L.all smallS = true) (hf : fd.2.1.length ≤ 10) (hB : validM 1 [3] st [fd] L lp = B) :
    Calls Try.prog 18 #[.agg #[.slice s1 1 c1, .slice fa 1 fc, .slice none 0 0, .slice none 0 0], .agg #[.slice ia 1 ca, .int .i64 st, .slice ta k tc, .int .i64 lp]] w fun e w' => e = .returned (.bool B) ∧ w.grownBy w' none := by
  have h := modelValid_calls s1 fa none none 1 c1 fc 0 0 0 0 [fd] [3] ia ca st ta L tc lp w hF hu hT (by omega) (by simp) (by simp) (by omega) (small_list hs) (fun f hm => by simp at hm; subst hm; exact hf)
  rw [hk, hB] at h
  exact h
theorem headSame (hu : Ints w ia ca [3]) (hu' : Ints w ia' ca' [3]) (hT : Sts w ta tc L) (hT' : Sts w ta' tc' L') (hk : L.length = k) (hk' : L'.length = k') (hk64 : k ≤ 64) (hs : L.all smallS = true) (hlo : loopedB k lp = true) (hlo' : loopedB k' lp' = true)
    (hB : agreeTo L L' lp lp' (timesN k k' lp lp') = B) :
    Calls Try.prog 28 #[.agg #[.slice ia 1 ca, .int .i64 st, .slice ta k tc, .int .i64 lp], .agg #[.slice ia' 1 ca', .int .i64 st', .slice ta' k' tc', .int .i64 lp']] w fun e w' => e = .returned (.bool B) ∧ w.grownBy w' none := by
  have h := sameTrace_calls [3] [3] ia ia' ca ca' st st' lp lp' L L' ta ta' tc tc' w hu.weak hu'.weak hT hT' (by simp) (small_lens (by omega) (small_list hs)) (by rw [hk]; exact hlo) (by rw [hk']; exact hlo')
  rw [hk, hk', hB] at h
  exact h
theorem headEqual (hu : Ints w ia ca [3]) (hu' : Ints w ia' ca' [3]) (hT : Sts w ta tc L) (hT' : Sts w ta' tc' L') (hk : L.length = k) (hk' : L'.length = k') (hk64 : k ≤ 64) (hs : L.all smallS = true)
    (hB : modelEq [3] [3] st st' lp lp' L L' = B) :
    Calls Try.prog 20 #[.agg #[.slice ia 1 ca, .int .i64 st, .slice ta k tc, .int .i64 lp], .agg #[.slice ia' 1 ca', .int .i64 st', .slice ta' k' tc', .int .i64 lp']] w fun e w' => e = .returned (.bool B) ∧ w.grownBy w' none := by
  have h := modelEqual_calls [3] [3] ia ia' ca ca' st st' lp lp' L L' ta ta' tc tc' w hu.weak hu'.weak hT hT' (by simp) (small_lens (by omega) (small_list hs))
  rw [hk, hk', hB] at h
  exact h
theorem headShorten {p q : Nat} {N : Int} (hu : Ints w ia ca [3]) (hT : Sts w ta tc L) (hk : L.length = k) (hk64 : k ≤ 64) (hp : p < k) (hlp : (p : Int) = lp) (hs : L.all smallS = true) (hq : shLoop L p = q) (hqp : (q : Int) = lp') (hN : ((shLoop L p + shPer L p : Nat) : Int) = N) (hL' : shSts L p = L') (hk' : L'.length = k') :
    Calls Try.prog 30 #[.agg #[.slice ia 1 ca, .int .i64 st, .slice ta k tc, .int .i64 lp]] w fun e w' => ∃ a c a' c', e = .returned (.agg #[.slice a 1 c, .int .i64 N, .slice a' k' c', .int .i64 lp']) ∧ (Ints w' a c [3] ∧ Sts w' a' c' L') ∧ w.grownBy w' none := by
  have h := shorten_calls [3] ia ca st ta L tc p w hu.weak hT (by simp) (by omega) (by omega) (small_list hs)
  rw [hk, hN, hL', hk', hlp, hq, hqp] at h
  exact h.mono fun _ _ ⟨a, c, a', c', he, hs, hg⟩ => ⟨a, c, a', c', he, hs.here, hg⟩
theorem trace2_any (w : World) (a : Option Addr) (c : Nat) (lp x0 x1 : Int) (h : IntsW w a c [x0, x1]) : Calls Try.prog 60 #[.int .i64 lp, .slice a 2 c] w fun e w' =>
    ∃ a1 c1 a2 c2, e = .returned (.agg #[.slice a1 1 c1, .int .i64 2, .slice a2 2 c2, .int .i64 lp]) ∧ (Ints w' a1 c1 [3] ∧ Sts w' a2 c2 [one1 x0, one1 x1]) ∧ w.grownBy w' none :=
  (trace_calls lp [x0, x1] a c w h (by simp)).mono fun _ _ ⟨a1, c1, a2, c2, he, hs, hg⟩ => ⟨a1, c1, a2, c2, he, hs.here, hg⟩
theorem headNext (s r : Int) (hk : (k : Int) ≤ 9223372036854775807) (hs0 : -9223372036854775808 ≤ s) (hs1 : s ≤ 9223372036854775807) (hr : nextI k lp s = r) :
    Calls Try.prog 23 #[.agg #[.slice ia 1 ca, .int .i64 st, .slice ta k tc, .int .i64 lp], .int .i64 s] w fun e w' => e = .returned (.int .i64 r) ∧ w.grownBy w' none := by
  have h := next_calls ia 1 ca st ta k tc lp s w hk hs0 hs1
  rw [hr] at h
  exact h
theorem headAt (t : Int) (x : Int) (hT : Sts w ta tc L) (hk : L.length = k) (hlo : loopedB k lp = true) (ht0 : 0 ≤ t) (ht1 : t ≤ 9223372036854775807) (hs : L.all smallS = true) (hx : atL L lp t = one1 x) :
    Calls Try.prog 26 #[.agg #[.slice ia 1 ca, .int .i64 st, .slice ta k tc, .int .i64 lp], .int .i64 t] w fun e w' => ∃ a' c', e = .returned (.slice a' 1 c') ∧ Rels w' a' c' (one1 x) ∧ w.grownBy w' none := by
  have h := at_calls ia 1 ca st ta L tc lp t w hT (by rw [hk]; exact hlo) ht0 ht1 (small_wide (small_list hs))
  rw [hk, hx] at h
  exact h.mono fun _ _ ⟨a, c, he, hs, hg⟩ => ⟨a, c, he, hs.here, hg⟩
theorem headRSame (x : Int) {a a' : Option Addr} {c c' : Nat} (h : Rels w a c (one1 x)) (h' : Rels w a' c' (one1 x)) :
    Calls Try.prog 25 #[.slice a 1 c, .slice a' 1 c'] w fun e w' => e = .returned (.bool true) ∧ w.grownBy w' none := by
  have h := rSame_calls (one1 x) (one1 x) a a' c c' w h h' ⟨by simp [one1], fun r hr => by simp [one1] at hr; subst hr; simp⟩
  rw [decide_eq_true (rfl : one1 x = one1 x)] at h
  exact h
theorem headSet (x : Int) : Calls Try.prog 61 #[.int .i64 x] w fun e w' => ∃ b o c', e = .returned (.slice (some ⟨b, o, none⟩) 1 c') ∧ (Rels w' (some ⟨b, o, none⟩) c' (one1 x) ∧ ∃ ra rc, w'.cell? ⟨b, o, none⟩ = some (.int .i64 1) ∧ w'.cell? ⟨b, o + 1, none⟩ = some (.slice ra 1 rc) ∧ IntsW w' ra rc [x]) ∧ w.grownBy w' none := by
  refine (set_calls x w).mono fun e w' ⟨a, c, he, hs, hg⟩ => ?_
  obtain ⟨b, o, rfl, h0, ra, rc, h1, hi⟩ := hs.here.2 0 (1, [x]) rfl
  rw [Nat.zero_mul, Nat.add_zero] at h0 h1
  exact ⟨b, o, c, he, ⟨hs.here, ra, rc, h0, h1, hi⟩, hg⟩
theorem headRel (n x : Int) {a : Option Addr} {c : Nat} (h : IntsW w a c [x]) (hv : relValid n 1 [x] = true) :
    Calls Try.prog 62 #[.int .i64 n, .agg #[.int .i64 1, .slice a 1 c]] w fun e w' => e = .returned (.bool true) ∧ w.grownBy w' none := by
  have h := relValid_calls n 1 [x] a c w h (by simp)
  rw [hv] at h
  exact h
theorem headAtoms (hu : Ints w ia ca [3]) : Calls Try.prog 34 #[.agg #[.slice ia 1 ca, .int .i64 st]] w fun e w' => e = .returned (.int .i64 3) ∧ w.grownBy w' none :=
  atoms_calls [3] ia ca st w (hu.nums (by simp)) (by simp) (by simp)
end
end Go.Proofs.Ytbddpjofhddilaa

/- Texts of the proof: NM EQ SA. -/
import Derived.Test.YtihaheinkpmnnaaGreatCA18
import Derived.Shelf.SlIterI.Nil
import Derived.Shelf.SortM.Plain
import Derived.Shelf.SortM.SortNone
import Derived.Shelf.SlicesE.Compact
import Derived.Test.YtihaheinkpmnnaaGreatCA01
import Derived.Test.YtihaheinkpmnnaaGreatCA15
namespace Go.Proofs.YtihaheinkpmnnaaGreat
set_option maxRecDepth 200000
open Go.RowKit Go.Shelf Go.Sort
/-- A row that is owned holds what it holds. -/
theorem own_holds {α : Type} [Inhabited α] {enc : α → Value} {w : World} {B g cap n : Nat} {e : TypeId} {l : List α} (h : w.ownsRow B e 1 (.slice (some ⟨g, 0, none⟩) n cap) n (l.map enc)) : Holds enc w g 0 l.toArray ∧ g < w.heap.size ∧ l.length = n ∧ n ≤ cap ∧ B ≤ g := by
  obtain ⟨hl, h2⟩ := h
  rcases h2 with ⟨h0, _⟩ | ⟨g', cap', cur, e1, hB, hg, h3, h4, h5, h6⟩
  · cases h0
  · cases e1
    have hlen : l.length = n := by simpa using hl
    refine ⟨fun j hj => ?_, (Array.getElem?_eq_some_iff.1 hg).1, hlen, h3, hB⟩
    have hj' : j < l.length := by simpa using hj
    refine ⟨?_, by simp [World.frozen?, hg]⟩
    have h1 : (cur.toList.take (n * 1))[j]? = (l.map enc)[j]? := by rw [h6]
    rw [List.getElem?_take_of_lt (by omega)] at h1
    simp only [World.cell?, hg, Nat.zero_add]
    simp only [Option.isSome_none, Bool.false_eq_true, if_false]
    rw [← Array.getElem?_toList, h1]
    simp [hj']
theorem grown_put {α : Type} [Inhabited α] {enc : α → Value} {w : World} {g n : Nat} {os : Array Obj} (d : Array α) : w.grownBy (grow (putRow enc (Sort.ahead w n) g 0 d) os) (some g) := by
  refine ⟨rfl, rfl, rfl, by simp, fun k hk hne => ?_⟩
  rw [heap_grow_old _ _ (by simpa using hk)]
  have : g ≠ k := fun e => hne (by rw [e])
  simp [putRow, mapBlock, Sort.ahead, Array.getElem?_modify, this]
/-- Behind a library's function that turns a row, the row's beginning is owned. -/
theorem own_put {α : Type} [Inhabited α] {enc : α → Value} {w : World} {B g cap n q m : Nat} {e : TypeId} {l ts : List α} {os : Array Obj} (h : w.ownsRow B e 1 (.slice (some ⟨g, 0, none⟩) n cap) n (l.map enc)) (ht : ts.length ≤ n) (hm : m ≤ ts.length) :
    (grow (putRow enc (Sort.ahead w q) g 0 ts.toArray) os).ownsRow B e 1 (.slice (some ⟨g, 0, none⟩) m cap) m ((ts.take m).map enc) := by
  obtain ⟨hl, h2⟩ := h
  rcases h2 with ⟨h0, _⟩ | ⟨g', cap', cur, e1, hB, hg, h3, h4, h5, h6⟩
  · cases h0
  · cases e1
    have hgl : g < w.heap.size := (Array.getElem?_eq_some_iff.1 hg).1
    refine ⟨by simp; omega, .inr ⟨g, cap, putCells enc 0 ts.toArray cur, rfl, hB, ?_, by omega, h4, by simp [putCells, h5], ?_⟩⟩
    · rw [heap_grow_old _ _ (by simpa using hgl)]
      simp [putRow, mapBlock, Sort.ahead, Array.getElem?_modify, hg, onCells]
    · apply List.ext_getElem?
      intro j
      by_cases hj : j < m
      · rw [List.getElem?_take_of_lt (by omega), Array.getElem?_toList, List.getElem?_map, List.getElem?_take_of_lt hj]
        simp [putCells, show j < ts.length by omega, show j < cur.size by omega]
      · rw [List.getElem?_take_eq_none (by omega), List.getElem?_eq_none (by simp; omega)]
theorem sort74_some (g cap : Nat) (l : List Int) (w : World) (hH : Holds (Value.int .i64) w g 0 l.toArray) (hg : g < w.heap.size) (hl : l.length < 4611686018427387904) :
    Calls Tryz.prog 74 #[.slice (some ⟨g, 0, none⟩) l.length cap] w fun e w' => e = .returned (.tuple #[]) ∧ ∃ k os, w' = grow (putRow (Value.int .i64) (Sort.ahead w k) g 0 (l.mergeSort fun x y => decide (x ≤ y)).toArray) os :=
  AnyM.slices_Sort_int Tryz.sortA g 0 cap l w hH hg hl
theorem sort74_none (p : Option Addr) (cap : Nat) (w : World) : Calls Tryz.prog 74 #[.slice p 0 cap] w fun e w' => e = .returned (.tuple #[]) ∧ w' = w := AnyM.slices_Sort_int_none Tryz.sortA p cap w
theorem collect_calls {L : List Int} {a : Option Addr} {c b : Nat} (hl : L.length ≤ 100000) (w : World) (hb : w.cell? ⟨b, 0, none⟩ = some (.slice a L.length c)) (h : IntsW w a c L) :
    Calls Tryz.prog 73 #[.func (.func 75) #[] #[.pointer (some ⟨b, 0, none⟩)]] w fun e w' => ∃ v, e = .returned v ∧ w'.ownsRow (w.heap.size + 1) 3 1 v L.length (intCells L) ∧ w.grownBy w' none := by
  have HS := Lib.hid (seq_calls hl w hb h)
  clear hb h hl
  go_enter Tryz.func73, Tryz.ntmps73
  go_wp2_with fail
  refine HS.out.mono ?_
  rintro e w1 ⟨v, rfl, h1, h2⟩
  have HH := Lib.hid (And.intro h1 h2)
  clear h1 h2
  go_wp2_with fail
  go_ret
  exact ⟨v, rfl, HH.out.1, HH.out.2⟩
def srt (L : List Int) : List Int := L.mergeSort fun x y => decide (x ≤ y)
theorem srt_len (L : List Int) : (srt L).length = L.length := by unfold srt; rw [List.length_mergeSort]
theorem srt_mem (L : List Int) (x : Int) : x ∈ srt L ↔ x ∈ L := by unfold srt; rw [List.mem_mergeSort]
theorem srt_up (L : List Int) : (srt L).Pairwise (· ≤ ·) := by
  have := List.pairwise_mergeSort (le := fun x y => decide (x ≤ y)) (fun a b c h h' => by simp at *; omega) (fun a b => by simp; omega) L
  exact this.imp fun h => of_decide_eq_true h
theorem sorted_calls {L : List Int} {a : Option Addr} {c b : Nat} (hl : L.length ≤ 100000) (w : World) (hb : w.cell? ⟨b, 0, none⟩ = some (.slice a L.length c)) (h : IntsW w a c L) :
    Calls Tryz.prog 56 #[.func (.func 75) #[] #[.pointer (some ⟨b, 0, none⟩)]] w fun e w' => ∃ v, e = .returned v ∧ w'.ownsRow (w.heap.size + 1) 3 1 v L.length (intCells (srt L)) ∧ w.grownBy w' none := by
  have HC := Lib.hid (collect_calls hl w hb h)
  obtain ⟨n, hn⟩ : ∃ n, L.length = n := ⟨_, rfl⟩
  rw [hn] at HC hl ⊢
  have HN := Lib.hid (And.intro hn hl)
  clear hb h hl hn
  go_enter Tryz.func56, Tryz.ntmps56
  go_wp2_with fail
  refine HC.out.mono ?_
  rintro e w1 ⟨v, rfl, h1, h2⟩
  rcases h1.2 with ⟨rfl, rfl⟩ | ⟨g, cap, cur, rfl, _⟩
  · have HH := Lib.hid (And.intro h1 h2)
    clear h1 h2
    go_wp2_with fail
    refine (sort74_none none 0 w1).mono ?_
    rintro e w2 ⟨rfl, hw⟩
    rw [hw]; clear hw w2
    go_wp2_with fail
    go_ret
    have : L = [] := List.eq_nil_of_length_eq_zero HN.out.1
    have e0 : intCells (srt L) = [] := by rw [this]; simp [srt, intCells]
    rw [e0]
    exact ⟨_, rfl, World.ownsRow_nil _ _ _ _, HH.out.2⟩
  · obtain ⟨k1, k2, k3, k4, k5⟩ := own_holds h1
    have HSO := Lib.hid (sort74_some g cap L w1 k1 k2 (by have := HN.out; omega))
    rw [k3] at HSO
    have HH := Lib.hid (And.intro h1 (And.intro h2 k5))
    clear h1 h2 k1 k2 k3 k4 k5
    go_wp2_with fail
    refine HSO.out.mono ?_
    rintro e w2 ⟨rfl, q, os, hw⟩
    have HW := Lib.hid (show w2.ownsRow (w.heap.size + 1) 3 1 (.slice (some ⟨g, 0, none⟩) n cap) n (intCells (srt L)) ∧ w.grownBy w2 none by
      have hsl : (srt L).length = n := by rw [srt_len]; exact HN.out.1
      have := own_put (q := q) (os := os) (m := n) (ts := srt L) HH.out.1 (by omega) (by omega)
      rw [List.take_of_length_le (by omega)] at this
      rw [hw]
      refine ⟨this, grown_own HH.out.2.1 (grown_put _) (fun r e => by cases e; have := HH.out.2.2; omega)⟩)
    clear hw
    go_wp2_with fail
    go_ret
    exact ⟨_, rfl, HW.out.1, HW.out.2⟩
theorem values_calls (a : Option Addr) (n c : Nat) (w : World) : Calls Tryz.prog 57 #[.slice a n c] w fun e w' => e = .returned (.func (.func 75) #[] #[.pointer (some ⟨w.heap.size, 0, none⟩)]) ∧ w' = w.alloc (.cells #[.slice a n c] 34) := by
  have hmf : ∀ (fn : Fn) (first cap : Array Value) (w : World), (Instr.makeFunc fn first cap).run Tryz.prog w = .ok (.func fn first cap) w := fun _ _ _ _ => rfl
  go_enter Tryz.func57, Tryz.ntmps57
  go_wp2_with fail
  go_ret
  exact ⟨rfl, rfl⟩
theorem compact_none (w : World) : Calls Tryz.prog 55 #[.slice none 0 0] w fun e w' => e = .returned (.slice none 0 0) ∧ w' = w := by
  go_enter Tryz.func55, Tryz.ntmps55
  go_wp2_with fail
  go_ret
  exact ⟨rfl, rfl⟩
theorem get_arr (d : List Int) (m : Nat) (h : m < d.length) : d.toArray[m]! = d[m] := by simp [getElem!_pos, h]
/-- What Compact keeps of a sorted row: all its numbers, in strict order. -/
theorem compact_up {d : List Int} (hd : d.Pairwise (· ≤ ·)) : ∀ m, m ≤ d.length → (Lib.compactUpTo d.toArray m).Pairwise (· < ·) ∧ (∀ x, x ∈ Lib.compactUpTo d.toArray m ↔ x ∈ d.take m)
  | 0, _ => by simp [Lib.compactUpTo]
  | m + 1, hm => by
    obtain ⟨h1, h2⟩ := compact_up hd m (by omega)
    rw [Lib.compactUpTo_succ]
    have hmx : d.take (m + 1) = d.take m ++ [d[m]] := by rw [List.take_add_one, List.getElem?_eq_getElem hm]; rfl
    have hle : ∀ x ∈ d.take m, x ≤ d[m] := fun x hx => by
      obtain ⟨j, hj, rfl⟩ := List.getElem_of_mem hx
      rw [List.getElem_take]
      rw [List.length_take] at hj
      exact List.pairwise_iff_getElem.1 hd j m (by omega) hm (by omega)
    by_cases h : Lib.keeps d.toArray m = true
    · rw [if_pos h, get_arr d m hm]
      unfold Lib.keeps at h
      have h := of_decide_eq_true h
      have hlt : ∀ x ∈ d.take m, x < d[m] := fun x hx => by
        have h3 := hle x hx
        rcases h with h | h
        · subst h; simp at hx
        · rw [get_arr d m hm, get_arr d (m - 1) (by omega)] at h
          have hm0 : 0 < m := by
            rcases Nat.eq_zero_or_pos m with h0 | h0
            · subst h0; simp at hx
            · exact h0
          have h4 : x ≤ d[m - 1] := by
            obtain ⟨j, hj, rfl⟩ := List.getElem_of_mem hx
            rw [List.getElem_take]
            rw [List.length_take] at hj
            rcases Nat.lt_or_ge j (m - 1) with h5 | h5
            · exact List.pairwise_iff_getElem.1 hd j (m - 1) (by omega) (by omega) h5
            · have : j = m - 1 := by omega
              subst this; exact Int.le_refl _
          have h5 := List.pairwise_iff_getElem.1 hd (m - 1) m (by omega) hm (by omega)
          omega
      refine ⟨List.pairwise_append.2 ⟨h1, List.pairwise_singleton _ _, fun x hx y hy => ?_⟩, fun x => ?_⟩
      · rw [List.mem_singleton.1 hy]; exact hlt x ((h2 x).1 hx)
      · rw [hmx, List.mem_append, List.mem_append, h2]
    · rw [if_neg h, List.append_nil]
      refine ⟨h1, fun x => ?_⟩
      rw [hmx, List.mem_append, h2]
      constructor
      · exact .inl
      · rintro (hx | hx)
        · exact hx
        · rw [List.mem_singleton.1 hx]
          unfold Lib.keeps at h
          rw [decide_eq_true_eq] at h
          have hm0 : m ≠ 0 := fun e => h (.inl e)
          have he : d[m] = d[m - 1] := by
            have : ¬ (d.toArray[m]! ≠ d.toArray[m - 1]!) := fun e => h (.inr e)
            rw [get_arr d m hm, get_arr d (m - 1) (by omega)] at this
            exact Decidable.not_not.1 this
          rw [he]
          exact List.mem_iff_getElem.2 ⟨m - 1, by rw [List.length_take]; omega, by rw [List.getElem_take]⟩
theorem compact_norm (L : List Int) : Lib.compactUpTo (srt L).toArray (srt L).length = normL L := by
  obtain ⟨h1, h2⟩ := compact_up (srt_up L) (srt L).length (Nat.le_refl _)
  refine norm_of h1 fun x => ?_
  rw [h2, List.take_of_length_le (Nat.le_refl _), srt_mem]
theorem compact_some (g cap : Nat) (d : List Int) (w : World) (hH : Holds (Value.int .i64) w g 0 d.toArray) (hl : d.length ≤ 100000) (hc : d.length ≤ cap) :
    Calls Tryz.prog 55 #[.slice (some ⟨g, 0, none⟩) d.length cap] w fun e w' => e = .returned (.slice (some ⟨g, 0, none⟩) (Lib.compactUpTo d.toArray d.length).length cap) ∧ ∃ q, w' = putRow (Value.int .i64) (Sort.ahead w q) g 0 (Lib.compactUpTo d.toArray d.length ++ List.replicate (d.length - (Lib.compactUpTo d.toArray d.length).length) 0).toArray := by
  have := AnyE.slices_Compact Tryz.compactA (Value.int .i64) (fun _ => rfl) (EqlAt.intD _ _ _) (NeqAt.intD _ _ _) 0 Tryz.zeroValue3 g 0 cap d.toArray w hH (by simp; omega) (by simpa using hc)
  have e : d.toArray.size = d.length := by simp
  rw [e] at this
  exact this
theorem grow_nil (w : World) : grow w #[] = w := by
  unfold grow; simp
/-- normal: a clause's literals in order, without repetitions. -/
theorem normal_calls {L : List Int} {a : Option Addr} {c : Nat} (hl : L.length ≤ 100000) (w : World) (h : IntsW w a c L) :
    Calls Tryz.prog 36 #[.slice a L.length c] w fun e w' => ∃ v, e = .returned v ∧ w'.ownsRow w.heap.size 3 1 v (normL L).length (intCells (normL L)) ∧ w.grownBy w' none := by
  obtain ⟨w1, hw1⟩ : ∃ z, w.alloc (.cells #[.slice a L.length c] 34) = z := ⟨_, rfl⟩
  have hg1 : w.grownBy w1 none := by rw [← hw1]; exact World.grownBy_alloc w _ _
  have hb : w1.cell? ⟨w.heap.size, 0, none⟩ = some (.slice a L.length c) := by rw [← hw1]; have := cell_one_new w (.slice a L.length c) 34 0 _ rfl; rwa [add_at] at this
  have HV := Lib.hid (values_calls a L.length c w)
  have HS := Lib.hid (sorted_calls hl w1 hb (h.grown hg1))
  rw [hw1] at HV
  obtain ⟨n, hn⟩ : ∃ n, L.length = n := ⟨_, rfl⟩
  rw [hn] at HV HS hl ⊢
  have HN := Lib.hid (And.intro hn hl)
  have HG := Lib.hid hg1
  clear hw1 hb h hg1 hl hn
  go_enter Tryz.func36, Tryz.ntmps36
  go_wp2_with fail
  refine HV.out.mono ?_
  rintro e w2 ⟨rfl, hw2⟩
  rw [hw2]; clear hw2 w2
  go_wp2_with fail
  refine HS.out.mono ?_
  rintro e w2 ⟨v, rfl, h1, h2⟩
  rcases h1.2 with ⟨rfl, rfl⟩ | ⟨g, cap, cur, rfl, _⟩
  · have HH := Lib.hid (And.intro h1 h2)
    clear h1 h2
    go_wp2_with fail
    refine (compact_none w2).mono ?_
    rintro e w3 ⟨rfl, hw⟩
    rw [hw]; clear hw w3
    go_wp2_with fail
    go_ret
    have : L = [] := List.eq_nil_of_length_eq_zero HN.out.1
    have e0 : intCells (normL L) = [] := by rw [this]; rfl
    have e1 : (normL L).length = 0 := by rw [this]; rfl
    rw [e0, e1]
    exact ⟨_, rfl, World.ownsRow_nil _ _ _ _, HG.out.trans HH.out.2⟩
  · obtain ⟨k1, k2, k3, k4, k5⟩ := own_holds h1
    have hsl : (srt L).length = n := by rw [srt_len]; exact HN.out.1
    have HSO := Lib.hid (compact_some g cap (srt L) w2 k1 (by have := HN.out; omega) (by omega))
    rw [compact_norm] at HSO
    rw [hsl] at HSO
    have HH := Lib.hid (And.intro h1 (And.intro h2 k5))
    clear h1 h2 k1 k2 k3 k4 k5
    go_wp2_with fail
    refine HSO.out.mono ?_
    rintro e w3 ⟨rfl, q, hw⟩
    have HW := Lib.hid (show w3.ownsRow w.heap.size 3 1 (.slice (some ⟨g, 0, none⟩) (normL L).length cap) (normL L).length (intCells (normL L)) ∧ w.grownBy w3 none by
      have hnl : (normL L).length ≤ n := by rw [← HN.out.1]; exact norm_le L
      have := own_put (q := q) (os := #[]) (m := (normL L).length) (ts := normL L ++ List.replicate (n - (normL L).length) 0) HH.out.1 (by simp; omega) (by simp)
      rw [List.take_left] at this
      have hgp := grown_put (w := w2) (enc := Value.int .i64) (g := g) (n := q) (os := #[]) (normL L ++ List.replicate (n - (normL L).length) 0).toArray
      rw [grow_nil] at this hgp
      rw [hw]
      have hwl := HG.out.size
      have hB := HH.out.2.2
      refine ⟨⟨this.1, this.2.imp id (fun ⟨g', c', cu, e1, e2, e3⟩ => ⟨g', c', cu, e1, by omega, e3⟩)⟩, grown_own (HG.out.trans HH.out.2.1) hgp (fun r e => by cases e; omega)⟩)
    clear hw
    go_wp2_with fail
    go_ret
    exact ⟨_, rfl, HW.out.1, HW.out.2⟩
end Go.Proofs.YtihaheinkpmnnaaGreat

namespace Go.Proofs.YtihaheinkpmnnaaGreat
set_option maxRecDepth 200000
open Go.RowKit
set_option maxHeartbeats 1000000 in
theorem equalInts_calls (xs ys : List Int) (a a' : Option Addr) (c c' : Nat) (w : World) (h : IntsW w a c xs) (h' : IntsW w a' c' ys) (hl : (xs.length : Int) ≤ 9223372036854775807) :
    Calls Tryz.prog 93 #[.slice a xs.length c, .slice a' ys.length c'] w fun e w' => e = .returned (.bool (decide (xs = ys))) ∧ ∃ q, w' = w.drewN q := by
  obtain ⟨n, hn⟩ : ∃ n, xs.length = n := ⟨_, rfl⟩
  obtain ⟨m, hm⟩ : ∃ m, ys.length = m := ⟨_, rfl⟩
  rw [hn] at hl ⊢
  rw [hm]
  have HN := Lib.hid (And.intro hn hm)
  have HH := Lib.hid (And.intro h h'); clear h h'
  by_cases hnm : n = m
  · have hB : ((n : Int) != (m : Int)) = false := by simp; omega
    subst hnm
    clear hn hm
    go_enter Tryz.func93, Tryz.ntmps93
    go_wp2
    go_loopg [13] n (fun g s5 wr => ∃ i : Nat, s5 = .int .i64 (i : Int) ∧ g = n - i ∧ i ≤ n ∧ (∀ j, j < i → xs[j]? = ys[j]?) ∧ ∃ q, wr = w.drewN q)
    case atStart => exact ⟨0, rfl, rfl, Nat.zero_le _, fun j hj => absurd hj (Nat.not_lt_zero _), 0, rfl⟩
    case round =>
      obtain ⟨i, rfl, hgi, hi, hok, q, rfl⟩ := hrel
      have HGI := Lib.hid (And.intro hgi hok); clear hgi hok
      by_cases hin : i < n
      · have hinB : decide (i < n) = true := by simpa using hin
        have hinI : (i : Int) < (n : Int) := by omega
        obtain ⟨x, hx⟩ : ∃ x, xs[i]? = some x := ⟨_, List.getElem?_eq_getElem (by rw [HN.out.1]; exact hin)⟩
        obtain ⟨y, hy⟩ : ∃ y, ys[i]? = some y := ⟨_, List.getElem?_eq_getElem (by rw [HN.out.2]; exact hin)⟩
        obtain ⟨b, o, rfl, hcell⟩ := HH.out.1.at hx
        obtain ⟨b', o', rfl, hcell'⟩ := HH.out.2.at hy
        have HX := Lib.hid (And.intro hx hy); clear hx hy
        by_cases hxy : x = y
        · subst hxy
          have hb2 : (x != x) = false := by simp
          go_wp2
          go_quiet (fail)
          go_wp2
          go_roundg (n - (i + 1))
          case measure => rw [HGI.out.1]; omega
          case rel => exact ⟨i + 1, rfl, rfl, by omega, agree_step HGI.out.2 (by rw [HX.out.1, HX.out.2]), _, rfl⟩
        · have hb2 : (x != y) = true := by simpa using hxy
          have HR : Hid (decide (xs = ys) = false) := Lib.hid (decide_eq_false (list_ne HX.out.1 HX.out.2 hxy))
          clear hxy
          go_wp2
          go_quiet (fail)
          go_wp2
          go_ret
          exact ⟨by rw [HR.out]; rfl, _, World.drewN_drewN _ _ _⟩
      · have hie : i = n := by omega
        subst hie
        have hinB : decide (i < i) = false := by simp
        have HR : Hid (decide (xs = ys) = true) := Lib.hid (decide_eq_true (list_eq HN.out.1 HN.out.2 HGI.out.2))
        go_wp2
        go_ret
        exact ⟨by rw [HR.out]; rfl, _, rfl⟩
  · have hB : ((n : Int) != (m : Int)) = true := by simp; omega
    have HR : Hid (decide (xs = ys) = false) := Lib.hid (decide_eq_false (by rintro rfl; omega))
    clear hn hm
    go_enter Tryz.func93, Tryz.ntmps93
    go_wp2
    go_ret
    exact ⟨by rw [HR.out]; rfl, 0, rfl⟩
end Go.Proofs.YtihaheinkpmnnaaGreat

namespace Go.Proofs.YtihaheinkpmnnaaGreat
set_option maxRecDepth 200000
open Go.RowKit Go.Shelf
/-- A box that holds a clause in order. -/
def NormAt (w : World) (b : Nat) (M : List Int) : Prop := ∃ a c, w.cell? ⟨b, 0, none⟩ = some (.slice a (normL M).length c) ∧ IntsW w a c (normL M)
theorem NormAt.grown {w w' : World} {b : Nat} {M : List Int} (h : NormAt w b M) (hg : w.grownBy w' none) : NormAt w' b M := by
  obtain ⟨a, c, h1, h2⟩ := h
  exact ⟨a, c, hg.cell h1 (by simp), h2.grown hg⟩
theorem own_intsW {w : World} {B : Nat} {v : Value} {n : Nat} {l : List Int} (h : w.ownsRow B 3 1 v n (intCells l)) : ∃ a c, v = .slice a n c ∧ l.length = n ∧ IntsW w a c l := by
  obtain ⟨a, c, rfl⟩ := own_shape h
  exact ⟨a, c, rfl, own_ints h⟩
set_option maxHeartbeats 1000000 in
theorem same_calls {M : List Int} {a : Option Addr} {c : Nat} (hl : M.length ≤ 100000) (w : World) (h : IntsW w a c M) :
    Calls Tryz.prog 63 #[.slice a M.length c] w fun e w' => (∃ b, e = .returned (.func (.func 92) #[] #[.pointer (some ⟨b, 0, none⟩)]) ∧ w.heap.size ≤ b ∧ NormAt w' b M) ∧ w.grownBy w' none := by
  have HN := Lib.hid (normal_calls hl w h)
  obtain ⟨n, hn⟩ : ∃ n, M.length = n := ⟨_, rfl⟩
  rw [hn] at HN ⊢
  clear h hl hn
  have hmf : ∀ (fn : Fn) (first cap : Array Value) (w : World), (Instr.makeFunc fn first cap).run Tryz.prog w = .ok (.func fn first cap) w := fun _ _ _ _ => rfl
  go_enter Tryz.func63, Tryz.ntmps63
  go_wp2_with fail
  refine HN.out.mono ?_
  rintro e w1 ⟨v, rfl, h1, h2⟩
  obtain ⟨a1, c1, rfl, h3, h4⟩ := own_intsW h1
  obtain ⟨m, hm⟩ : ∃ m, (normL M).length = m := ⟨_, rfl⟩
  have HH := Lib.hid (And.intro h1 (And.intro h2 (And.intro h4 hm)))
  rw [hm] 
  clear h1 h2 h3 h4 hm
  go_wp2_with fail
  go_ret
  have ga := World.grownBy_alloc w1 (.cells #[.slice a1 m c1] 34) none
  refine ⟨⟨_, rfl, HH.out.2.1.size, a1, c1, ?_, HH.out.2.2.1.grown ga⟩, HH.out.2.1.trans ga⟩
  rw [HH.out.2.2.2]
  have := cell_one_new w1 (.slice a1 m c1) 34 0 _ rfl; rwa [add_at] at this
set_option maxHeartbeats 2000000 in
theorem same1_calls {M L : List Int} {a : Option Addr} {c b : Nat} (hl : L.length ≤ 100000) (_hm : M.length ≤ 100000) (w : World) (h : IntsW w a c L) (hb : NormAt w b M) :
    Calls Tryz.prog 92 #[.slice a L.length c, .pointer (some ⟨b, 0, none⟩)] w fun e w' => e = .returned (.bool (eqS L M)) ∧ w.grownBy w' none := by
  obtain ⟨a1, c1, hc1, hi1⟩ := hb
  obtain ⟨n, hn⟩ : ∃ n, L.length = n := ⟨_, rfl⟩
  obtain ⟨m, hm1⟩ : ∃ m, (normL M).length = m := ⟨_, rfl⟩
  have HNL : Hid (∀ W, w.grownBy W none → Calls Tryz.prog 36 #[.slice a L.length c] W fun e w' => ∃ a2 c2 k, e = .returned (.slice a2 k c2) ∧ IntsW w' a2 c2 (normL L) ∧ (normL L).length = k ∧ w.grownBy w' none) := Lib.hid (fun W hg => (normal_calls hl W (h.grown hg)).mono fun e w' ⟨v, he, h1, h2⟩ => by
    obtain ⟨a2, c2, rfl, h3, h4⟩ := own_intsW h1
    exact ⟨a2, c2, _, he, h4, rfl, hg.trans h2⟩)
  have HI := Lib.hid hi1
  have HE : Hid (∀ (w1 : World) (a2 : Option Addr) (c2 k : Nat), w.grownBy w1 none → IntsW w1 a2 c2 (normL L) → (normL L).length = k → Calls Tryz.prog 93 #[.slice a2 k c2, .slice a1 m c1] w1 fun e w' => e = .returned (.bool (eqS L M)) ∧ w1.grownBy w' none) := Lib.hid (by
    intro w1 a2 c2 k hg h2 hk
    have := equalInts_calls (normL L) (normL M) a2 a1 c2 c1 w1 h2 (hi1.grown hg) (by have := norm_le L; omega)
    rw [hk, hm1] at this
    rw [eqS_dec]
    exact this.mono fun _ _ ⟨e1, q, e2⟩ => ⟨e1, by rw [e2]; exact grown_drewN _ _ _⟩)
  have HMN : Hid (eqS L M = true → m ≤ n) := Lib.hid (by
    intro he
    rw [← hm1, ← hn, ← eqS_norm.1 he]
    exact norm_le L)
  rw [hn] at HNL ⊢
  rw [hm1] at hc1
  have HC := Lib.hid hc1
  clear h hn hl _hm hm1 hi1
  by_cases hlt : n < m
  · have f1 : decide ((n : Int) < (m : Int)) = true := decide_eq_true (by omega)
    have f1' : decide (n < m) = true := decide_eq_true hlt
    have e0 : eqS L M = false := by
      cases he : eqS L M with
      | false => rfl
      | true => have := HMN.out he; omega
    rw [e0]
    clear hlt e0
    go_enter Tryz.func92, Tryz.ntmps92
    go_wp2_with fail
    go_ret
    exact ⟨rfl, grown_refl _ _⟩
  · have f1 : decide ((n : Int) < (m : Int)) = false := decide_eq_false (by omega)
    have f1' : decide (n < m) = false := decide_eq_false hlt
    clear hlt
    go_enter Tryz.func92, Tryz.ntmps92
    go_wp2_with fail
    go_region_held3 (fun w' => w.grownBy w' none ∧ w'.cell? ⟨b, 0, none⟩ = some (.slice a1 m c1))
      (first | exact ⟨grown_drew w none, hc1⟩ | (go_split_ands; exact ⟨by assumption, by assumption⟩) | exact ⟨g7, g7.cell HC.out (by simp)⟩)
      (first
        | (go_at_call 36; refine (HNL.out _ (by go_split_ands; assumption)).mono ?_; rintro e wa ⟨a2, c2, k, rfl, yi, yk, g7⟩)
        | (go_at_call 93; refine (HE.out _ a2 c2 k (by go_split_ands; assumption) (by first | exact yi | assumption) yk).mono ?_; rintro e wb ⟨rfl, g8⟩; have g7 := g7.trans g8))
    have HEND := Lib.hid g7
    clear g7 g8 yi yk
    go_wp2_with fail
    go_ret
    exact ⟨rfl, HEND.out⟩
end Go.Proofs.YtihaheinkpmnnaaGreat

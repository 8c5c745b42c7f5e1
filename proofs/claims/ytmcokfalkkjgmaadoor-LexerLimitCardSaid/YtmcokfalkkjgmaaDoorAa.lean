/- The law LexerLimit: line feeds behind a text. -/
import Derived.Test.YtmcokfalkkjgmaaDoorW
import Derived.Laws.IdiomStrings
import Derived.Deep.Upon
namespace Go.Proofs.YtmcokfalkkjgmaaDoor
open Go.RowKit

/-- a and m line feeds. -/
def buf (a : ByteArray) (m : Nat) : ByteArray := ⟨(a.data.toList ++ List.replicate m 10).toArray⟩
theorem buf_size (a : ByteArray) (m : Nat) : (buf a m).size = a.size + m := by
  show (a.data.toList ++ List.replicate m 10).toArray.size = _
  simp
theorem buf_is (a : ByteArray) (m : Nat) : buf a m = a ++ ⟨(List.replicate m 10).toArray⟩ := by
  have h : ∀ x y : ByteArray, x.data.toList = y.data.toList → x = y := fun x y h => by cases x; cases y; simpa [Array.toList_inj] using h
  apply h
  simp [buf]
theorem feeds_cur {m i : Nat} (h : i < m) : cur ⟨(List.replicate m 10).toArray⟩ i = 10 := by
  have hs : (⟨(List.replicate m 10).toArray⟩ : ByteArray).size = m := by
    show (List.replicate m (10 : UInt8)).toArray.size = m
    simp
  rw [cur_get (by omega)]
  show ((List.replicate m (10 : UInt8)).toArray[i]'(by simpa using h)).toNat = 10
  simp
theorem buf_left {a : ByteArray} {m i : Nat} (h : i < a.size) : cur (buf a m) i = cur a i := by rw [buf_is, cur_app, if_pos h]
theorem buf_right {a : ByteArray} {m i : Nat} (h1 : a.size ≤ i) (h2 : i < a.size + m) : cur (buf a m) i = 10 := by
  rw [buf_is, cur_app, if_neg (by omega)]; exact feeds_cur (by omega)

theorem spaces_skip {u : ByteArray} : ∀ n k, u.size - k ≤ n → k ≤ u.size → (∀ i, k ≤ i → i < u.size → isSpace (cur u i) = true) → skipEnd u k = u.size
  | 0, k, hn, hk, _ => by
    have : k = u.size := by omega
    rw [this, skipEnd_end]
  | n + 1, k, hn, hk, h => by
    by_cases hku : k = u.size
    · rw [hku, skipEnd_end]
    · rw [skipEnd_space (by omega) (h k (Nat.le_refl _) (by omega))]
      exact spaces_skip n (k + 1) (by omega) (by omega) (fun i h1 h2 => h i (by omega) h2)
theorem buf_begins (a : ByteArray) (m : Nat) : Begins a (buf a m) := by
  refine ⟨⟨by omega, by rw [buf_size]; omega, fun i hi => by rw [Nat.zero_add]; exact buf_left hi⟩, ?_⟩
  by_cases hm : m = 0
  · rw [cur_end (by rw [buf_size]; omega)]; rfl
  · rw [buf_right (Nat.le_refl _) (by omega)]; rfl
theorem buf_closes (a : ByteArray) (m : Nat) : Closes a (buf a m) := by
  by_cases hm : m = 0
  · exact .inl (by rw [buf_size]; omega)
  · exact .inr (.inl (buf_right (Nat.le_refl _) (by omega)))
theorem buf_err {a : ByteArray} {m e : Nat} (h : lex a = .error e) : lex (buf a m) = .error e :=
  begins_err (buf_begins a m) _ 0 e (Nat.zero_le _) (Nat.le_refl _) h
theorem buf_ok {a : ByteArray} {m : Nat} {l : List Tok} (h : lex a = .ok l) : lex (buf a m) = .ok l ∧ toks (buf a m) l = toks a l := by
  have h1 : lex (buf a m) = pre l (lexFrom (buf a m) (skipEnd (buf a m) a.size)) := begins_ok (buf_begins a m) (buf_closes a m) _ 0 l (Nat.zero_le _) (Nat.le_refl _) h
  have hsz := buf_size a m
  have h2 : skipEnd (buf a m) a.size = (buf a m).size := spaces_skip m a.size (by omega) (by omega) (fun i h3 h4 => by rw [buf_right h3 (by omega)]; rfl)
  rw [h2, lexFrom_end (by omega)] at h1
  have h3 : lex (buf a m) = .ok l := by
    rw [h1]; simp [pre]
  refine ⟨h3, toks_congr l fun t ht => ?_⟩
  obtain ⟨i, hi⟩ := List.getElem?_of_mem ht
  exact (begins_text (buf_begins a m) (chain_at l 0 i t (Nat.zero_le _) (chain_lex h) hi).2.2).symm

/-- What was there has stayed. -/
structure Kept (w w' : World) : Prop where
  os : w'.os = w.os
  output : w'.output = w.output
  size : w.heap.size ≤ w'.heap.size
  block : ∀ k, k < w.heap.size → w'.heap[k]? = w.heap[k]?
theorem Kept.of {w w' : World} (h : w.grownBy w' none) : Kept w w' := ⟨h.os, h.output, h.size, fun k hk => h.block k hk (by simp)⟩
theorem Kept.trans {a b c : World} (h : Kept a b) (k : Kept b c) : Kept a c :=
  ⟨k.os.trans h.os, k.output.trans h.output, Nat.le_trans h.size k.size, fun i hi => (k.block i (Nat.lt_of_lt_of_le hi h.size)).trans (h.block i hi)⟩
theorem Kept.syms {w w' : World} (h : Kept w w') (hy : SymsAt w) : SymsAt w' := by
  obtain ⟨t, fr, h1⟩ := hy
  exact ⟨t, fr, by rw [h.block 0 (Array.getElem?_eq_some_iff.1 h1).1]; exact h1⟩
theorem Kept.frame {w w' : World} (h : Kept w w') (may : MemPlace → Prop) : w.keptBut w' may := by
  refine ⟨h.os, h.output, fun i hi => ?_⟩
  rw [h.block i hi]
  split <;> simp_all

abbrev olds (a : ByteArray) : List Value := a.data.toList.map fun b => Value.int .u8 (b.toNat : Int)
abbrev feeds (m : Nat) : List Value := List.replicate m (Value.int .u8 10)
/-- The buffer b on its way: m line feeds have been appended; W is the world behind the conversion. -/
structure Buf (w1 W : World) (C : Nat) (a : ByteArray) (w : World) (v : Value) (m : Nat) : Prop where
  came : Came W 1 (some ⟨w1.heap.size, 0, none⟩) w1.heap.size 0 a.size C (olds a)
  first : Kept w1 W
  upon : ∃ r, Upon W 5 1 (some ⟨w1.heap.size, 0, none⟩) w1.heap.size 0 a.size C (olds a) w v m (feeds m) r
theorem Buf.kept {w1 W : World} {C : Nat} {a : ByteArray} {w : World} {v : Value} {m : Nat} (h : Buf w1 W C a w v m) : Kept w1 w := by
  obtain ⟨r, hu⟩ := h.upon
  have hk := hu.kept
  refine ⟨hk.1.trans h.first.os, hk.2.1.trans h.first.output, Nat.le_trans h.first.size hk.size, fun k hk2 => ?_⟩
  rw [hk.block (Nat.lt_of_lt_of_le hk2 h.first.size) (fun p ⟨j, _, hp⟩ e => by rw [hp] at e; simp [MemPlace.block] at e; omega)]
  exact h.first.block k hk2
theorem Buf.later {w1 W : World} {C : Nat} {a : ByteArray} {w w' : World} {v : Value} {m : Nat} (h : Buf w1 W C a w v m) (hg : w.grownBy w' none) : Buf w1 W C a w' v m := by
  obtain ⟨r, hu⟩ := h.upon
  have hsz := hu.kept.size
  exact ⟨h.came, h.first, r, hu.carry h.came hg.os hg.output (fun i hi => hg.block i (by omega) (by simp)) (fun g _ hgl => hg.block g hgl (by simp))⟩
theorem Buf.shape {w1 W : World} {C : Nat} {a : ByteArray} {w : World} {v : Value} {m : Nat} (h : Buf w1 W C a w v m) : ∃ a' c', v = .slice a' (a.size + m) c' := by
  obtain ⟨r, hu⟩ := h.upon
  exact hu.shape
/-- 'string(b)'. -/
theorem Buf.text {w1 W : World} {C : Nat} {a : ByteArray} {w : World} {v : Value} {m : Nat} (h : Buf w1 W C a w v m) (hC : C ≤ maxLen) (hpos : 0 < C ∨ 0 < m) : (convert 32 9 v).run Tryd.prog w = .ok (.string (buf a m)) w := by
  obtain ⟨r, hu⟩ := h.upon
  obtain ⟨g, o', cap', rfl, _, _, hcell⟩ := hu.value h.came hC hpos
  have hl : (a.data.toList ++ List.replicate m (10 : UInt8)).length = a.size + m := by simp
  have := run_convert_bytes_back (P := Tryd.prog) w 32 9 5 ⟨g, o', none⟩ cap' (a.data.toList ++ List.replicate m 10) Tryd.underlying32 Tryd.underlying5 Tryd.underlying9 (fun j hj => by
    rw [Go.WideShapes.add_plain, hcell j (by omega)]
    have e : olds a ++ feeds m = (a.data.toList ++ List.replicate m (10 : UInt8)).map fun b => Value.int .u8 (b.toNat : Int) := by simp
    rw [e, List.getElem?_map, List.getElem?_eq_getElem hj]; rfl)
  rw [hl] at this
  exact this
theorem buf_start (w1 : World) (a : ByteArray) (ha : a.size ≤ maxLen) : ∃ C W, a.size ≤ C ∧ C ≤ maxLen ∧ (convert 9 32 (.string a)).run Tryd.prog w1 = .ok (.slice (some ⟨w1.heap.size, 0, none⟩) a.size C) W ∧ Buf w1 W C a W (.slice (some ⟨w1.heap.size, 0, none⟩) a.size C) 0 := by
  have hge := grownCap_ge w1 a.size 0 5
  refine ⟨_, _, hge, grownCap_le_maxLen w1 a.size 0 5 ha, run_bytes_of_string (P := Tryd.prog) w1 9 32 5 a Tryd.underlying9 Tryd.underlying32 Tryd.underlying5, ?_⟩
  obtain ⟨C, hC⟩ : ∃ C, grownCap w1 a.size 0 5 = C := ⟨_, rfl⟩
  rw [hC] at hge ⊢
  have hbs : (bytesRow a C).size = C := by
    unfold bytesRow
    simp
    show a.size + (C - a.size) = C
    omega
  have hcame : Came (w1.drew.alloc (.cells (bytesRow a C) 5 ((bytesRow a C).size, (bytesRow a C).size + 1))) 1 (some ⟨w1.heap.size, 0, none⟩) w1.heap.size 0 a.size C (olds a) := by
    refine ⟨hge, fun _ => rfl, fun _ => by simp, by simp, fun j u hj => ?_, fun j hj => ?_⟩
    · rw [Nat.zero_add]
      have e := World.cell?_alloc_mark w1.drew (bytesRow a C) 5 ((bytesRow a C).size, (bytesRow a C).size + 1) j
      have e' : (w1.drew.alloc (.cells (bytesRow a C) 5 ((bytesRow a C).size, (bytesRow a C).size + 1))).cell? ⟨w1.heap.size, j, none⟩ = (bytesRow a C)[j]? := e
      rw [e']
      have hjl : j < a.data.size := by
        have := (List.getElem?_eq_some_iff.1 hj).1
        simpa using this
      rw [bytesRow_at a C j hjl]
      simp only [olds, List.getElem?_map] at hj
      rw [List.getElem?_eq_getElem (by simpa using hjl)] at hj
      simpa using hj
    · have hj' : a.size + j < C := by omega
      have e := World.cell?_alloc_mark w1.drew (bytesRow a C) 5 ((bytesRow a C).size, (bytesRow a C).size + 1) (0 + a.size * 1 + j)
      have f := World.frozen?_alloc_mark w1.drew (bytesRow a C) 5 (bytesRow a C).size ((bytesRow a C).size + 1) (0 + a.size * 1 + j)
      refine ⟨?_, ?_⟩
      · have e' : (w1.drew.alloc (.cells (bytesRow a C) 5 ((bytesRow a C).size, (bytesRow a C).size + 1))).cell? ⟨w1.heap.size, 0 + a.size * 1 + j, none⟩ = (bytesRow a C)[0 + a.size * 1 + j]? := e
        rw [e', Array.getElem?_eq_getElem (by rw [hbs]; omega)]; rfl
      · have f' : (w1.drew.alloc (.cells (bytesRow a C) 5 ((bytesRow a C).size, (bytesRow a C).size + 1))).frozen? ⟨w1.heap.size, 0 + a.size * 1 + j, none⟩ = _ := f
        rw [f', hbs]; simp; omega
  refine ⟨hcame, ?_, 0, Upon.start hcame⟩
  exact ⟨rfl, rfl, by simp, fun k hk => Below.heap_alloc w1.drew _ k hk⟩
end Go.Proofs.YtmcokfalkkjgmaaDoor

/- The law LexerLimit: the buffer goes on behind a call; token rows that it does not touch. -/
import Derived.Test.YtmcokfalkkjgmaaDoorAa
namespace Go.Proofs.YtmcokfalkkjgmaaDoor
open Go.RowKit

theorem came_grown {W W' : World} {size : Nat} {ao : Option Addr} {b off len cap : Nat} {vs : List Value} (h : Came W size ao b off len cap vs) (hg : W.grownBy W' none) : Came W' size ao b off len cap vs := by
  have hb : ∀ {o}, (W.cell? ⟨b, o, none⟩).isSome = true → W'.heap[b]? = W.heap[b]? := fun ho =>
    hg.block b (World.block_lt_of_cell? W ⟨b, _, none⟩ (Option.isSome_iff_exists.1 ho).choose_spec) (by simp)
  refine ⟨h.le, h.addr, fun h0 => Nat.lt_of_lt_of_le (h.lt h0) hg.size, h.oldsLen, fun j u hj => hg.cell (h.olds j u hj) (by simp), fun j hj => ?_⟩
  obtain ⟨h1, h2⟩ := h.spare j hj
  have e := hb h1
  exact ⟨by rw [World.cell?_of_block (a := ⟨b, off + len * size + j, none⟩) e]; exact h1, by rw [World.frozen?_of_block (a := ⟨b, off + len * size + j, none⟩) e]; exact h2⟩

theorem Buf.tail {w1 W : World} {C : Nat} {a : ByteArray} {w : World} {v : Value} {m : Nat} (h : Buf w1 W C a w v m) (hC : C ≤ maxLen) (hm : 0 < m) :
    ∃ g o c, v = .slice (some ⟨g, o, none⟩) (a.size + m) c ∧ w1.heap.size ≤ g ∧ g < w.heap.size ∧ c ≤ maxLen ∧ Came w 1 (some ⟨g, o, none⟩) g o (a.size + m) c (olds a ++ feeds m) := by
  obtain ⟨r, hu⟩ := h.upon
  have hl : (olds a ++ feeds m).length = (a.size + m) * 1 := by
    have e1 : (olds a).length = a.size := by simp [olds]
    have e2 : (feeds m).length = m := by simp
    rw [List.length_append, e1, e2]; omega
  have hol : (olds a).length = a.size := by simp [olds]
  have hsz := hu.kept.size
  rcases hu.val with ⟨hle, rfl, hr⟩ | ⟨hgt, g, c', rfl, ho⟩
  · have hcap : 0 < C := by omega
    have hlt := h.came.lt hcap
    have hrm : r = m := by rw [hr]; simp
    refine ⟨_, _, _, rfl, Nat.le_refl _, by omega, hC, hle, fun _ => rfl, fun _ => by omega, hl, fun j u hj => ?_, fun j hj => ?_⟩
    · have hjl := (List.getElem?_eq_some_iff.1 hj).1
      rw [hu.inArray h.came hcap hr j (by omega)]; exact hj
    · obtain ⟨s1, s2⟩ := h.came.spare (m + j) (by omega)
      have e : 0 + (a.size + m) * 1 + j = 0 + a.size * 1 + (m + j) := by omega
      rw [e]
      refine ⟨?_, ?_⟩
      · rw [hu.old hlt (fun j' hj' ⟨_, e2⟩ => by omega)]; exact s1
      · rw [hu.frozen _ hlt]; exact s2
  · have hc' : 0 < c' * 1 := by have := ho.le; omega
    have hg : g < w.heap.size := World.block_lt_of_cell? _ _ (Option.isSome_iff_exists.1 (ho.there 0 hc').1).choose_spec
    have hn := ho.new
    have hfs := h.first.size
    refine ⟨g, 0, c', rfl, by omega, hg, ho.max, ho.le, fun _ => rfl, fun _ => hg, hl, fun j u hj => ?_, fun j hj => ?_⟩
    · have hjl := (List.getElem?_eq_some_iff.1 hj).1
      rw [Nat.zero_add, ho.holds j (by omega)]; exact hj
    · have hle := ho.le
      rw [Nat.zero_add]
      exact ho.there _ (by omega)

/-- The buffer's tail: k line feeds more. -/
structure Tail (W : World) (g o n C : Nat) (cs : List Value) (w : World) (v : Value) (k : Nat) : Prop where
  came : Came W 1 (some ⟨g, o, none⟩) g o n C cs
  upon : ∃ r, Upon W 5 1 (some ⟨g, o, none⟩) g o n C cs w v k (feeds k) r
theorem Tail.start {W : World} {g o n C : Nat} {cs : List Value} (h : Came W 1 (some ⟨g, o, none⟩) g o n C cs) : Tail W g o n C cs W (.slice (some ⟨g, o, none⟩) n C) 0 := ⟨h, 0, Upon.start h⟩
theorem Tail.size {W : World} {g o n C : Nat} {cs : List Value} {w : World} {v : Value} {k : Nat} (h : Tail W g o n C cs w v k) : W.heap.size ≤ w.heap.size := by
  obtain ⟨r, hu⟩ := h.upon
  exact hu.kept.size
theorem Tail.other {W : World} {g o n C : Nat} {cs : List Value} {w : World} {v : Value} {k : Nat} (h : Tail W g o n C cs w v k) {b : Nat} (hb : b < W.heap.size) (hg : b ≠ g) : w.heap[b]? = W.heap[b]? := by
  obtain ⟨r, hu⟩ := h.upon
  exact hu.kept.block hb (fun p ⟨j, _, hp⟩ e => hg (by rw [hp] at e; simp [MemPlace.block] at e; exact e.symm))
theorem Tail.kept {w1 W : World} {g o n C : Nat} {cs : List Value} {w : World} {v : Value} {k : Nat} (h : Tail W g o n C cs w v k) (hw : Kept w1 W) (hg : w1.heap.size ≤ g) : Kept w1 w := by
  obtain ⟨r, hu⟩ := h.upon
  refine ⟨hu.kept.1.trans hw.os, hu.kept.2.1.trans hw.output, Nat.le_trans hw.size hu.kept.size, fun b hb => ?_⟩
  rw [h.other (Nat.lt_of_lt_of_le hb hw.size) (by omega)]
  exact hw.block b hb
theorem Tail.text {W : World} {g o n C : Nat} {a : ByteArray} {m : Nat} {w : World} {v : Value} {k : Nat} (h : Tail W g o n C (olds a ++ feeds m) w v k) (hn : n = a.size + m) (hC : C ≤ maxLen) (hpos : 0 < C ∨ 0 < k) : (convert 32 9 v).run Tryd.prog w = .ok (.string (buf a (m + k))) w := by
  obtain ⟨r, hu⟩ := h.upon
  obtain ⟨g, o', cap', rfl, _, _, hcell⟩ := hu.value h.came hC hpos
  have hl : (a.data.toList ++ List.replicate (m + k) (10 : UInt8)).length = n + k := by simp; show a.size + (m + k) = _; omega
  have := run_convert_bytes_back (P := Tryd.prog) w 32 9 5 ⟨g, o', none⟩ cap' (a.data.toList ++ List.replicate (m + k) 10) Tryd.underlying32 Tryd.underlying5 Tryd.underlying9 (fun j hj => by
    rw [Go.WideShapes.add_plain, hcell j (by omega)]
    have e : olds a ++ feeds m ++ feeds k = (a.data.toList ++ List.replicate (m + k) (10 : UInt8)).map fun b => Value.int .u8 (b.toNat : Int) := by simp [olds, feeds]
    rw [e, List.getElem?_map, List.getElem?_eq_getElem hj]; rfl)
  rw [hl] at this
  exact this

/-- A token row that lies at B or behind it. -/
def RowB (B : Nat) (w : World) (v : Value) (s : ByteArray) (l : List Tok) : Prop :=
  (l = [] ∧ ∃ a c, v = .slice a 0 c) ∨ ∃ g cap, v = .slice (some ⟨g, 0, none⟩) l.length cap ∧ B ≤ g ∧ TokRow w s l g cap
theorem RowB.reads {B : Nat} {w : World} {v : Value} {s : ByteArray} {l : List Tok} (h : RowB B w v s l) : Reads w v s l := by
  rcases h with h | ⟨g, c, hv, _, hr⟩
  · exact .inl h
  · exact .inr ⟨g, c, hv, hr⟩
theorem RowB.grown {B : Nat} {w w' : World} {v : Value} {s : ByteArray} {l : List Tok} (h : RowB B w v s l) (hg : w.grownBy w' none) : RowB B w' v s l := by
  rcases h with h | ⟨g, c, hv, hb, hr⟩
  · exact .inl h
  · exact .inr ⟨g, c, hv, hb, hr.grown hg⟩
theorem RowB.down {B B' : Nat} {w : World} {v : Value} {s : ByteArray} {l : List Tok} (h : RowB B w v s l) (hb : B' ≤ B) : RowB B' w v s l := by
  rcases h with h | ⟨g, c, hv, hb2, hr⟩
  · exact .inl h
  · exact .inr ⟨g, c, hv, by omega, hr⟩
theorem RowB.slice {B : Nat} {w : World} {v : Value} {s : ByteArray} {l : List Tok} (h : RowB B w v s l) : ∃ a c, v = .slice a l.length c := by
  rcases h with ⟨rfl, a, c, rfl⟩ | ⟨g, c, rfl, _⟩
  · exact ⟨a, c, rfl⟩
  · exact ⟨_, _, rfl⟩
theorem RowB.tail {W : World} {g o n C B : Nat} {cs : List Value} {w : World} {v v' : Value} {k : Nat} {s : ByteArray} {l : List Tok} (h : RowB B W v' s l) (ht : Tail W g o n C cs w v k) (hg : g < B) : RowB B w v' s l := by
  rcases h with h | ⟨gb, c, hv, hb, hr⟩
  · exact .inl h
  · have e := ht.other hr.lt (by omega)
    exact .inr ⟨gb, c, hv, hb, Nat.lt_of_lt_of_le hr.lt ht.size, hr.room, hr.capm, fun j u hu => (World.cell?_of_block (a := ⟨gb, j, none⟩) e).trans (hr.cells j u hu)⟩
theorem lex_ok4 {w w' : World} {s : ByteArray} {e : Ending} {l : List Tok} (hs : s.size ≤ 20000) (hl : lex s = .ok l) (h : LexPost w s e w') :
    ∃ v, e = .returned (.tuple #[v, .int .i64 0, .int .i64 0]) ∧ RowB w.heap.size w' v s l ∧ w.grownBy w' none := by
  obtain ⟨hg, h | ⟨_, h | h⟩⟩ := h
  · omega
  · obtain ⟨j', h1, rfl⟩ := h; rw [hl] at h1; cases h1
  · obtain ⟨l', v, h1, rfl, hown⟩ := h; rw [hl] at h1; cases h1
    refine ⟨v, rfl, ?_, hg⟩
    rcases Nat.eq_zero_or_pos l.length with h0 | h0
    · have hl0 : l = [] := List.eq_nil_of_length_eq_zero h0
      rcases hown.2 with ⟨hv, _⟩ | ⟨g, cap, cur, hv, _⟩
      · exact .inl ⟨hl0, _, _, hv⟩
      · rw [h0] at hv; exact .inl ⟨hl0, _, _, hv⟩
    · obtain ⟨g, cap, hv, h1, h2, h3, h4, h5⟩ := own_slice hown h0
      exact .inr ⟨g, cap, hv, h1, h2, h3, h4, h5⟩
theorem lex_big {w w' : World} {s : ByteArray} {e : Ending} (hs : 20000 < s.size) (h : LexPost w s e w') :
    e = .returned (.tuple #[.slice none 0 0, .int .i64 2, .int .i64 0]) ∧ w.grownBy w' none := by
  obtain ⟨hg, h | ⟨_, _⟩⟩ := h
  · exact ⟨h.2, hg⟩
  · omega
end Go.Proofs.YtmcokfalkkjgmaaDoor

/- Texts of the proof: Q4 P0 P1. -/
import Derived.Test.YtihaheinkpmnnaaGreatCA02
import Derived.RangeFuncOwn
namespace Go.Proofs.YtihaheinkpmnnaaGreat
set_option maxRecDepth 200000
open Go.RowKit
theorem set_block {w w1 : World} {p o : Nat} {v : Value} (h : w1.heap[p]? = w.heap[p]?) : (w1.setCell ⟨p, o, none⟩ v).heap[p]? = (w.setCell ⟨p, o, none⟩ v).heap[p]? := by
  unfold World.setCell
  simp only [Array.getElem?_modify, h]
theorem irow_off {B : Nat} {w w' : World} {a : Option Addr} {n c : Nat} {l : List Int} {r : Option Nat} (h : IRow B w a c l) (hg : w.grownBy w' r) (hn : l.length = n) (hr : ∀ b, (Value.slice a n c).ownBlock = some b → r ≠ some b) : IRow B w' a c l := by
  subst hn
  refine World.ownsRow.kept h hg ?_
  cases hv : (Value.slice a l.length c).ownBlock with
  | none => exact .inl rfl
  | some b => exact .inr (fun e => hr b hv e.symm)
/-- What a step on the queue leaves: but for its cell and its row all is as it was. -/
structure QF (p o : Nat) (ra : Option Nat) (v : Value) (w w' : World) : Prop where
  off : Off (fun k => k = p ∨ ra = some k) w w'
  blk : w'.heap[p]? = (w.setCell ⟨p, o, none⟩ v).heap[p]?
set_option maxHeartbeats 4000000 in
theorem hpush_calls (B p o : Nat) (a : Option Addr) (c n : Nat) (l : List Int) (x : Int) (w : World) (hn : l.length = n) (h0 : w.cell? ⟨p, o, none⟩ = some (.slice a n c)) (f0 : w.frozen? ⟨p, o, none⟩ = false) (hl : IRow B w a c l) (hB : B ≤ w.heap.size) (hm : n ≤ 500000) (hpa : (Value.slice a n c).ownBlock ≠ some p) (hh : Heap n l) :
    Calls Tryz.prog 124 #[.iface 143 (.pointer (some ⟨p, o, none⟩)), .iface 3 (.int .i64 x)] w fun e w' => e = .returned (.tuple #[]) ∧ ∃ a' c' l', l'.Perm (x :: l) ∧ Heap (n + 1) l' ∧ IRow B w' a' c' l' ∧ QF p o (Value.slice a n c).ownBlock (.slice a' (n + 1) c') w w' ∧ ((Value.slice a' (n + 1) c').ownBlock = (Value.slice a n c).ownBlock ∨ ∃ b, (Value.slice a' (n + 1) c').ownBlock = some b ∧ w.heap.size ≤ b) := by
  have hlt := lies_lt h0
  have HC : Hid (Calls Tryz.prog 153 #[.pointer (some ⟨p, o, none⟩), .iface 3 (.int .i64 x)] w fun e w' => e = .returned (.tuple #[]) ∧ ∃ a' c' w1, IRow B w1 a' c' (l ++ [x]) ∧ w' = w1.setCell ⟨p, o, none⟩ (.slice a' (n + 1) c') ∧ w.grownBy w1 (Value.slice a n c).ownBlock ∧ ((Value.slice a' (n + 1) c').ownBlock = (Value.slice a n c).ownBlock ∨ ∃ b, (Value.slice a' (n + 1) c').ownBlock = some b ∧ w.heap.size ≤ b)) := Lib.hid (by
    have h := push_calls B p o a c l x w (by rw [hn]; exact h0) f0 hl hB (by omega) (by rw [hn]; exact hpa)
    rw [hn] at h
    exact h)
  have HH := Lib.hid (And.intro hn (And.intro h0 (And.intro f0 (And.intro hpa (And.intro hh hlt)))))
  have m1 := meth_push ⟨p, o, none⟩ w
  clear hn h0 f0 hl hB hpa hh hlt
  go_enter Tryz.func124, Tryz.ntmps124
  go_wp2_with fail
  refine HC.out.mono ?_
  rintro e w2 ⟨rfl, a', c', w1, hrow, hw2, hg, hown⟩
  have hpw : w1.heap[p]? = w.heap[p]? := hg.block p HH.out.2.2.2.2.2 (fun e => HH.out.2.2.2.1 e.symm)
  have hc1 : w1.cell? ⟨p, o, none⟩ = some (.slice a n c) := hg.cell HH.out.2.1 (fun e => HH.out.2.2.2.1 e.symm)
  have q2 : w2.cell? ⟨p, o, none⟩ = some (.slice a' (n + 1) c') := by rw [hw2]; exact World.cell?_setCell_same _ _ _ hc1
  have hln : (l ++ [x]).length = n + 1 := by rw [List.length_append, HH.out.1]; rfl
  have hpa' : (Value.slice a' (n + 1) c').ownBlock ≠ some p := by
    rcases hown with h | ⟨b, h, hb⟩
    · rw [h]; exact HH.out.2.2.2.1
    · rw [h]; intro e; have := HH.out.2.2.2.2.2; injection e with e; omega
  have hrow2 : IRow B w2 a' c' (l ++ [x]) := by
    rw [hw2]; exact irow_off hrow (grown_set _ _ _ _) hln (fun b hb e => by injection e with e; subst e; exact hpa' hb)
  obtain ⟨g, rfl, hBg, hgl, hc'⟩ := irow_head hrow2 (by rw [hln]; omega)
  have hpg : p ≠ g := fun e => hpa' (by rw [e]; rfl)
  have HQ : Hid (QF p o (Value.slice a n c).ownBlock (.slice (some ⟨g, 0, none⟩) (n + 1) c') w w2) := Lib.hid ⟨by
    rw [hw2]
    exact (Off.of hg (fun k e => .inr e)).trans (Off.of (grown_set _ _ _ _) (fun k e => .inl (Option.some.inj e).symm)) (fun k _ hk => hk), by rw [hw2]; exact set_block hpw⟩
  have HR := Lib.hid (And.intro hrow2 (And.intro hown (And.intro hpg hln)))
  have m2 := meth_len q2
  clear hrow hw2 hg hown hpw hc1 hpa' hrow2 hpg HC m1
  have HU : Hid (UpI (l ++ [x]) n) := Lib.hid (by have h := HH.out.2.2.2.2.1; have e := HH.out.1; subst e; exact up_push h x)
  have k1 : IntKind.i64.wrap ((n : Int) + 1 - 1) = (n : Int) := by rw [IntWalk.i64_in _ (by omega)]; omega
  have HL := Lib.hid (len_calls (some ⟨g, 0, none⟩) (n + 1) c' w2)
  go_wp2_with fail
  refine HL.out.mono ?_
  rintro e w3 ⟨rfl, hw3⟩
  rw [hw3]
  clear hw3 w3 HL m2
  go_wp2_with fail
  clear k1
  refine (up_calls B p o g (n + 1) c' (l ++ [x]) n w2 HR.out.2.2.2 q2 HR.out.1 HR.out.2.2.1 (by omega) (by omega) HU.out).mono ?_
  rintro e w3 ⟨rfl, l', hp, hH, hr3, hg3⟩
  have HF := Lib.hid (And.intro hp (And.intro hH (And.intro hr3 hg3)))
  clear hp hH hr3 hg3 q2
  go_wp2_with fail
  go_end0
  refine ⟨rfl, _, c', l', HF.out.1.trans (List.perm_append_comm (l₁ := l) (l₂ := [x])), HF.out.2.1, HF.out.2.2.1, ⟨?_, ?_⟩, HR.out.2.1⟩
  · refine HQ.out.off.trans (Off.of HF.out.2.2.2 (fun k e => e)) (fun k hk e => ?_)
    rcases HR.out.2.1 with h | ⟨b, h, hb⟩
    · exact .inr (by rw [← h]; exact e)
    · exact absurd hk (by have : b = k := Option.some.inj (h.symm.trans e); omega)
  · have hz : p < w2.heap.size := Nat.lt_of_lt_of_le HH.out.2.2.2.2.2 HQ.out.off.size
    rw [HF.out.2.2.2.block p hz (fun e => HR.out.2.2.1 (Option.some.inj e))]
    exact HQ.out.blk
theorem swap_first (B g c : Nat) (l : List Int) (w : World) (h : IRow B w (some ⟨g, 0, none⟩) c l) (n : Nat) (hn : l.length = n + 1) (hm : n ≤ 500000) :
    Calls Tryz.prog 151 #[.slice (some ⟨g, 0, none⟩) (n + 1) c, .int .i64 0, .int .i64 (n : Int)] w fun e w' => e = .returned (.tuple #[]) ∧ IRow B w' (some ⟨g, 0, none⟩) c (swp l 0 n) ∧ w.grownBy w' (some g) := by
  rcases Nat.eq_zero_or_pos n with rfl | h0
  · have e : swp l 0 0 = l := by
      unfold swp
      obtain ⟨a, rfl⟩ := List.length_eq_one_iff.1 hn
      rfl
    rw [e]
    exact swap0_calls B g c l w h hn
  · exact swap_calls B g c l w h 0 n (n + 1) hn (by omega) (by omega) (by omega) (by omega)
theorem irow_take {B g c n : Nat} {w : World} {l : List Int} (h : IRow B w (some ⟨g, 0, none⟩) c l) (hn : n ≤ l.length) : IRow B w (some ⟨g, 0, none⟩) c (l.take n) := by
  have e : (l.take n).length = n := by rw [List.length_take]; omega
  rcases h.2 with ⟨h1, _⟩ | ⟨g', cap, cur, h1, hb, hg, hnc, hcm, hcs, ht⟩
  · cases h1
  · injection h1 with h1 _ h2
    injection h1 with h1
    injection h1 with h1
    subst h1 h2
    refine ⟨by rw [intCells, List.length_map, e]; omega, .inr ⟨g, c, cur, by rw [e], hb, hg, by omega, hcm, hcs, ?_⟩⟩
    rw [e, intCells, List.map_take, ← intCells, ← ht, List.take_take]
    congr 1
    omega
set_option maxHeartbeats 4000000 in
theorem hpop_calls (B p o g c n : Nat) (l : List Int) (w : World) (hn : l.length = n + 1) (h0 : w.cell? ⟨p, o, none⟩ = some (.slice (some ⟨g, 0, none⟩) (n + 1) c)) (f0 : w.frozen? ⟨p, o, none⟩ = false) (hl : IRow B w (some ⟨g, 0, none⟩) c l) (hm : n ≤ 500000) (hpg : p ≠ g) (hh : Heap (n + 1) l) :
    Calls Tryz.prog 125 #[.iface 143 (.pointer (some ⟨p, o, none⟩))] w fun e w' => e = .returned (.iface 3 (.int .i64 (at_ l 0))) ∧ ∃ l', l.Perm (at_ l 0 :: l') ∧ l'.length = n ∧ Heap n l' ∧ IRow B w' (some ⟨g, 0, none⟩) c l' ∧ QF p o (some g) (.slice (some ⟨g, 0, none⟩) n c) w w' := by
  have hlt := lies_lt h0
  obtain ⟨_, hge, _, _, hnc⟩ := irow_head hl (by omega)
  have HH := Lib.hid (And.intro hn (And.intro h0 (And.intro f0 (And.intro hpg (And.intro hh (And.intro hlt (And.intro hl hnc)))))))
  have m1 := meth_len h0
  have k1 : IntKind.i64.wrap ((n : Int) + 1 - 1) = (n : Int) := by rw [IntWalk.i64_in _ (by omega)]; omega
  have HL := Lib.hid (len_calls (some ⟨g, 0, none⟩) (n + 1) c w)
  have m2 := meth_swap h0
  clear hn h0 f0 hl hpg hh hlt hge hnc
  obtain ⟨x, hx⟩ : ∃ x, at_ l 0 = x := ⟨_, rfl⟩
  rw [hx]
  have HX := Lib.hid hx
  clear hx
  go_enter Tryz.func125, Tryz.ntmps125
  go_wp2_with fail
  refine HL.out.mono ?_
  rintro e w3 ⟨rfl, hw3⟩
  rw [hw3]
  clear hw3 w3 HL m1
  go_wp2_with fail
  clear k1 m2
  refine (swap_first B g c l w HH.out.2.2.2.2.2.2.1 n HH.out.1 hm).mono ?_
  rintro e w1 ⟨rfl, hr1, hg1⟩
  have hl1 : (swp l 0 n).length = n + 1 := by rw [swp_len, HH.out.1]
  have q1 := hg1.cell HH.out.2.1 (fun e => HH.out.2.2.2.1 (Option.some.inj e))
  have HD : Hid (DnI n (swp l 0 n) 0) := Lib.hid (dn_first (by rw [HH.out.1]; exact HH.out.2.2.2.2.1) HH.out.1)
  have HP : Hid ((swp l 0 n).Perm l) := Lib.hid (swp_perm (by rw [HH.out.1]; omega) (by rw [HH.out.1]; omega))
  have HA : Hid (at_ (swp l 0 n) n = x) := Lib.hid (by rw [at_swp (by rw [HH.out.1]; omega) (by rw [HH.out.1]; omega), if_pos rfl, HX.out])
  have HR := Lib.hid (And.intro hr1 (And.intro hg1 hl1))
  clear hr1 hg1 hl1
  go_wp2_with fail
  refine (down_calls B p o g n (n + 1) c (swp l 0 n) w1 HR.out.2.2 (by omega) q1 HR.out.1 HH.out.2.2.2.1 (by omega) HD.out).mono ?_
  rintro e w2 ⟨⟨b, rfl⟩, l2, hp2, hH2, hrest, hr2, hg2⟩
  have hl2 : l2.length = n + 1 := hp2.length_eq.trans HR.out.2.2
  have q2 := hg2.cell q1 (fun e => HH.out.2.2.2.1 (Option.some.inj e))
  have hx2 : at_ l2 n = x := (hrest n (Nat.le_refl _)).trans HA.out
  have c2 := irow_cell hr2 (i := n) (by omega)
  rw [hx2] at c2
  have hgg := HR.out.2.1.trans hg2
  have f2 : w2.frozen? ⟨p, o, none⟩ = false := (World.frozen?_of_block (a := ⟨p, o, none⟩) (hgg.block p HH.out.2.2.2.2.2.1 (fun e => HH.out.2.2.2.1 (Option.some.inj e)))).trans HH.out.2.2.1
  have m3 := meth_pop ⟨p, o, none⟩ w2
  have HF := Lib.hid (And.intro hp2 (And.intro hH2 (And.intro hr2 (And.intro hgg (And.intro hl2 hx2)))))
  have HPC := Lib.hid (pop_calls p o g n c x w2 q2 f2 (by rw [← HH.out.1]; exact HH.out.2.2.2.2.2.2.2) c2 (by omega))
  clear hp2 hH2 hr2 hgg hl2 hx2 hg2 hrest q1 q2 c2 f2
  go_wp2_with fail
  refine HPC.out.mono ?_
  rintro e w3 ⟨rfl, hw3⟩
  have HW := Lib.hid hw3
  clear m3 HPC hw3
  go_wp2_with fail
  go_ret
  have hl2 := HF.out.2.2.2.2.1
  refine ⟨rfl, l2.take n, ?_, by rw [List.length_take]; omega, ?_, ?_, ⟨?_, ?_⟩⟩
  · have h1 := HP.out.symm.trans HF.out.1.symm
    have h2 := take_last hl2
    rw [HF.out.2.2.2.2.2] at h2
    rw [h2] at h1
    exact h1.trans (List.perm_append_comm (l₁ := l2.take n) (l₂ := [x]))
  · have := heap_take HF.out.2.1 (by omega)
    rwa [List.length_take, Nat.min_eq_left (by omega)] at this
  · rw [HW.out]
    have h3 := irow_take (n := n) HF.out.2.2.1 (by omega)
    exact irow_off h3 (grown_set _ _ _ _) rfl (fun b hb e => by
      simp only [Value.ownBlock, Option.some.injEq] at hb
      exact HH.out.2.2.2.1 ((Option.some.inj e).trans hb.symm))
  · rw [HW.out]
    exact (Off.of HF.out.2.2.2.1 (fun k e => .inr e)).trans (Off.of (grown_set _ _ _ _) (fun k e => .inl (Option.some.inj e).symm)) (fun k _ hk => hk)
  · rw [HW.out]
    exact set_block (HF.out.2.2.2.1.block p HH.out.2.2.2.2.2.1 (fun e => HH.out.2.2.2.1 (Option.some.inj e)))
end Go.Proofs.YtihaheinkpmnnaaGreat

namespace Go.Proofs.YtihaheinkpmnnaaGreat
set_option maxRecDepth 200000
open Go.RowKit
theorem Off.keeps {M : Nat → Prop} {w w' : World} (h : Off M w w') (hm : ∀ k o, M k → w.heap[k]? = some o → o.isCells = true) : KeepsOthers w w' :=
  ⟨h.size, fun k o hk ho => (h.block k (Array.getElem?_eq_some_iff.1 hk).1 (fun m => by rw [hm k o m hk] at ho; cases ho)).trans hk⟩
/-- A row of integers of one's own: where it lies, its capacity, its elements. -/
structure Rw where
  a : Option Addr
  c : Nat
  l : List Int
abbrev Rw.val (r : Rw) : Value := .slice r.a r.l.length r.c
def Rw.blk (r : Rw) : Option Nat := r.val.ownBlock
def upd (R : Nat → Rw) (i : Nat) (x : Rw) : Nat → Rw := fun j => if j = i then x else R j
theorem upd_same (R : Nat → Rw) (i : Nat) (x : Rw) : upd R i x i = x := by unfold upd; rw [if_pos rfl]
theorem upd_other {R : Nat → Rw} {i j : Nat} {x : Rw} (h : j ≠ i) : upd R i x j = R j := by unfold upd; rw [if_neg h]
/-- The propagator's cells: rows 0 the trail, 1 the reasons, 2 satisfied, 3 open, 4 starts, 5 clauses, 6 waiting. -/
def pcells (V : Nat) (ca : Option Addr) (cn cc : Nat) (va : Option Addr) (vc : Nat) (ns kf : Int) (R : Nat → Rw) : Array Value :=
  #[.int .i64 (V : Int), .slice ca cn cc, (R 0).val, .int .i64 ns, (R 1).val, .int .i64 kf, .slice va (V + 1) vc, (R 2).val, (R 3).val, (R 4).val, (R 5).val, (R 6).val]
structure PK where
  B : Nat
  p : Nat
  V : Nat
  ca : Option Addr
  cn : Nat
  cc : Nat
  vb : Nat
structure PW (K : PK) (w : World) (vs : List Int) (ns kf : Int) (R : Nat → Rw) : Prop where
  blk : w.heap[K.p]? = some (.cells (pcells K.V K.ca K.cn K.cc (some ⟨K.vb, 0, none⟩) (K.V + 1) ns kf R) 113 (0, 0))
  low : K.B ≤ K.p
  rows : ∀ i, i < 7 → IRow K.B w (R i).a (R i).c (R i).l
  apart : ∀ i j, i < 7 → j < 7 → i ≠ j → ∀ b, (R i).blk = some b → (R j).blk ≠ some b
  offp : ∀ i, i < 7 → (R i).blk ≠ some K.p
  offv : ∀ i, i < 7 → (R i).blk ≠ some K.vb
  vlow : K.B ≤ K.vb
  vne : K.vb ≠ K.p
  vrow : w.ownsRow K.B 126 1 (.slice (some ⟨K.vb, 0, none⟩) (K.V + 1) (K.V + 1)) (K.V + 1) (vs.map (Value.int .i8))
  vlen : vs.length = K.V + 1
/-- The propagator's blocks. -/
def PM (K : PK) (R : Nat → Rw) (k : Nat) : Prop := k = K.p ∨ k = K.vb ∨ ∃ i, i < 7 ∧ (R i).blk = some k
theorem PW.below {K : PK} {w : World} {vs : List Int} {ns kf : Int} {R : Nat → Rw} (h : PW K w vs ns kf R) : ∀ k, PM K R k → K.B ≤ k ∧ k < w.heap.size ∧ ∀ o, w.heap[k]? = some o → o.isCells = true := by
  have hrow : ∀ {e : TypeId} {n : Nat} {v : Value} {xs : List Value} {k : Nat}, w.ownsRow K.B e 1 v n xs → v.ownBlock = some k → K.B ≤ k ∧ k < w.heap.size ∧ ∀ o, w.heap[k]? = some o → o.isCells = true := by
    intro e n v xs k hr hv
    rcases hr.2 with ⟨rfl, _⟩ | ⟨g, cap, cur, rfl, hb, hg, _⟩
    · cases hv
    · cases hv
      exact ⟨hb, (Array.getElem?_eq_some_iff.1 hg).1, fun o ho => by rw [hg] at ho; cases ho; rfl⟩
  rintro k (rfl | rfl | ⟨i, hi, e⟩)
  · exact ⟨h.low, (Array.getElem?_eq_some_iff.1 h.blk).1, fun o ho => by rw [h.blk] at ho; cases ho; rfl⟩
  · exact hrow h.vrow rfl
  · exact hrow (h.rows i hi) e
theorem cell_blk {w : World} {b : Nat} {cs : Array Value} {t : TypeId} (h : w.heap[b]? = some (.cells cs t (0, 0))) {o : Nat} {v : Value} (hv : cs[o]? = some v) : w.cell? ⟨b, o, none⟩ = some v := by
  unfold World.cell?
  simp [h, hv]
theorem frozen_blk {w : World} {b : Nat} {cs : Array Value} {t : TypeId} (h : w.heap[b]? = some (.cells cs t (0, 0))) (o : Nat) : w.frozen? ⟨b, o, none⟩ = false := by
  unfold World.frozen?
  simp [h]
theorem set_blk {w : World} {b : Nat} {cs : Array Value} {t : TypeId} (h : w.heap[b]? = some (.cells cs t (0, 0))) (o : Nat) (v : Value) : (w.setCell ⟨b, o, none⟩ v).heap[b]? = some (.cells (cs.setIfInBounds o v) t (0, 0)) := by
  unfold World.setCell
  simp [Array.getElem?_modify, h]
section
variable {K : PK} {w : World} {vs : List Int} {ns kf : Int} {R : Nat → Rw}
theorem PW.f0 (h : PW K w vs ns kf R) : w.cell? ⟨K.p, 0, none⟩ = some (.int .i64 (K.V : Int)) := cell_blk h.blk rfl
theorem PW.f1 (h : PW K w vs ns kf R) : w.cell? ⟨K.p, 1, none⟩ = some (.slice K.ca K.cn K.cc) := cell_blk h.blk rfl
theorem PW.f2 (h : PW K w vs ns kf R) : w.cell? ⟨K.p, 2, none⟩ = some (R 0).val := cell_blk h.blk rfl
theorem PW.f3 (h : PW K w vs ns kf R) : w.cell? ⟨K.p, 3, none⟩ = some (.int .i64 ns) := cell_blk h.blk rfl
theorem PW.f4 (h : PW K w vs ns kf R) : w.cell? ⟨K.p, 4, none⟩ = some (R 1).val := cell_blk h.blk rfl
theorem PW.f5 (h : PW K w vs ns kf R) : w.cell? ⟨K.p, 5, none⟩ = some (.int .i64 kf) := cell_blk h.blk rfl
theorem PW.f6 (h : PW K w vs ns kf R) : w.cell? ⟨K.p, 6, none⟩ = some (.slice (some ⟨K.vb, 0, none⟩) (K.V + 1) (K.V + 1)) := cell_blk h.blk rfl
theorem PW.f7 (h : PW K w vs ns kf R) : w.cell? ⟨K.p, 7, none⟩ = some (R 2).val := cell_blk h.blk rfl
theorem PW.f8 (h : PW K w vs ns kf R) : w.cell? ⟨K.p, 8, none⟩ = some (R 3).val := cell_blk h.blk rfl
theorem PW.f9 (h : PW K w vs ns kf R) : w.cell? ⟨K.p, 9, none⟩ = some (R 4).val := cell_blk h.blk rfl
theorem PW.f10 (h : PW K w vs ns kf R) : w.cell? ⟨K.p, 10, none⟩ = some (R 5).val := cell_blk h.blk rfl
theorem PW.f11 (h : PW K w vs ns kf R) : w.cell? ⟨K.p, 11, none⟩ = some (R 6).val := cell_blk h.blk rfl
theorem PW.fr (h : PW K w vs ns kf R) (o : Nat) : w.frozen? ⟨K.p, o, none⟩ = false := frozen_blk h.blk o
theorem PW.vcell (h : PW K w vs ns kf R) {i : Nat} {z : Int} (hz : vs[i]? = some z) : w.cell? ⟨K.vb, i, none⟩ = some (.int .i8 z) := by
  have hc := @World.ownsRow.cells w K.B 126 1 _ (K.V + 1) _ h.vrow (g := K.vb) rfl i (.int .i8 z) (by rw [List.getElem?_map, hz]; rfl)
  rwa [add_at] at hc
theorem PW.vfr (h : PW K w vs ns kf R) (i : Nat) : w.frozen? ⟨K.vb, i, none⟩ = false := World.ownsRow.frozenAt h.vrow i
/-- What leaves its blocks alone leaves it. -/
theorem PW.kept {w' : World} (h : PW K w vs ns kf R) (hb : ∀ k, PM K R k → w'.heap[k]? = w.heap[k]?) : PW K w' vs ns kf R := by
  have hrow : ∀ {e : TypeId} {n : Nat} {v : Value} {xs : List Value}, w.ownsRow K.B e 1 v n xs → (∀ k, v.ownBlock = some k → w'.heap[k]? = w.heap[k]?) → w'.ownsRow K.B e 1 v n xs := by
    intro e n v xs hr hk
    refine ⟨hr.1, ?_⟩
    rcases hr.2 with h1 | ⟨g, cap, cur, rfl, hb, hg, rest⟩
    · exact .inl h1
    · exact .inr ⟨g, cap, cur, rfl, hb, (hk g rfl).trans hg, rest⟩
  exact ⟨(hb _ (.inl rfl)).trans h.blk, h.low, fun i hi => hrow (h.rows i hi) (fun k e => hb k (.inr (.inr ⟨i, hi, e⟩))), h.apart, h.offp, h.offv, h.vlow, h.vne, hrow h.vrow (fun k e => hb k (.inr (.inl (Option.some.inj e).symm))), h.vlen⟩
theorem PW.grown {w' : World} (h : PW K w vs ns kf R) (hg : w.grownBy w' none) : PW K w' vs ns kf R :=
  h.kept fun k hk => hg.block k (h.below k hk).2.1 (by simp)
theorem PW.drewN (h : PW K w vs ns kf R) (n : Nat) : PW K (w.drewN n) vs ns kf R := h.grown (grown_drewN _ _ _)
theorem PW.drew (h : PW K w vs ns kf R) : PW K w.drew vs ns kf R := h.grown (grown_drew _ _)
/-- A cell of a row is stored. -/
theorem PW.store (h : PW K w vs ns kf R) {i g : Nat} (hi : i < 7) (ha : (R i).a = some ⟨g, 0, none⟩) (j : Nat) (z : Int) :
    PW K (w.setCell ⟨g, j, none⟩ (.int .i64 z)) vs ns kf (upd R i ⟨(R i).a, (R i).c, (R i).l.set j z⟩) := by
  have hgb : (R i).blk = some g := by unfold Rw.blk; simp only [Rw.val, ha, Value.ownBlock]
  have hgp : g ≠ K.p := fun e => h.offp i hi (by rw [hgb, e])
  have hgv : g ≠ K.vb := fun e => h.offv i hi (by rw [hgb, e])
  have hval : ∀ j', (upd R i ⟨(R i).a, (R i).c, (R i).l.set j z⟩ j').val = (R j').val := fun j' => by
    unfold upd; by_cases e : j' = i
    · rw [if_pos e, e]; simp [Rw.val]
    · rw [if_neg e]
  have hblk : ∀ j', (upd R i ⟨(R i).a, (R i).c, (R i).l.set j z⟩ j').blk = (R j').blk := fun j' => by unfold Rw.blk; rw [hval]
  have hot : ∀ k, k ≠ g → (w.setCell ⟨g, j, none⟩ (.int .i64 z)).heap[k]? = w.heap[k]? := fun k hk => Below.heap_setCell _ _ _ _ hk
  refine ⟨?_, h.low, fun k hk => ?_, fun a b ha' hb' hab => by rw [hblk, hblk]; exact h.apart a b ha' hb' hab, fun k hk => by rw [hblk]; exact h.offp k hk, fun k hk => by rw [hblk]; exact h.offv k hk, h.vlow, h.vne, ?_, h.vlen⟩
  · rw [hot _ (fun e => hgp e.symm), h.blk]
    unfold pcells
    simp only [hval]
  · by_cases e : k = i
    · subst e
      rw [upd_same]
      have := irow_set (show IRow K.B w (some ⟨g, 0, none⟩) (R k).c (R k).l from by have := h.rows k hk; rwa [ha] at this) j z
      simp only [ha]
      exact this
    · rw [upd_other e]
      exact irow_off (h.rows k hk) (grown_set _ _ _ _) rfl (fun b hb eb => by
        cases eb
        exact h.apart k i hk hi e g hb hgb)
  · refine World.ownsRow.kept h.vrow (grown_set _ _ _ _) (.inr ?_)
    simp only [Value.ownBlock]
    intro e; cases e; exact hgv rfl
end
end Go.Proofs.YtihaheinkpmnnaaGreat

namespace Go.Proofs.YtihaheinkpmnnaaGreat
set_option maxRecDepth 200000
open Go.RowKit
def fld : Nat → Nat
  | 0 => 2
  | 1 => 4
  | 2 => 7
  | 3 => 8
  | 4 => 9
  | 5 => 10
  | _ => 11
section
variable {K : PK} {w : World} {vs : List Int} {ns kf : Int} {R : Nat → Rw}
theorem pcells_upd {V : Nat} {ca : Option Addr} {cn cc : Nat} {va : Option Addr} {vc : Nat} {i : Nat} (hi : i < 7) (x : Rw) :
    (pcells V ca cn cc va vc ns kf R).setIfInBounds (fld i) x.val = pcells V ca cn cc va vc ns kf (upd R i x) := by
  match i, hi with
  | 0, _ => rfl
  | 1, _ => rfl
  | 2, _ => rfl
  | 3, _ => rfl
  | 4, _ => rfl
  | 5, _ => rfl
  | 6, _ => rfl
/-- A row and its field have turned. -/
theorem PW.turn {w' : World} (h : PW K w vs ns kf R) {i : Nat} (hi : i < 7) (x : Rw) (ho : Off (fun k => k = K.p ∨ (R i).blk = some k) w w') (hp : w'.heap[K.p]? = (w.setCell ⟨K.p, fld i, none⟩ x.val).heap[K.p]?)
    (hx : IRow K.B w' x.a x.c x.l) (hb : x.blk = (R i).blk ∨ ∃ b, x.blk = some b ∧ w.heap.size ≤ b) : PW K w' vs ns kf (upd R i x) := by
  have hfar : ∀ b, PM K R b → (R i).blk ≠ some b → x.blk ≠ some b := fun b hM hne e => by
    rcases hb with h1 | ⟨b', h1, h2⟩
    · exact hne (h1 ▸ e)
    · have := (h.below b hM).2.1
      rw [h1] at e; injection e with e; omega
  have hkeep : ∀ b, PM K R b → b ≠ K.p → (R i).blk ≠ some b → w'.heap[b]? = w.heap[b]? := fun b hM h1 h2 => ho.block b (h.below b hM).2.1 (fun e => e.elim h1 h2)
  have hrow : ∀ {e : TypeId} {n : Nat} {v : Value} {xs : List Value}, w.ownsRow K.B e 1 v n xs → (∀ k, v.ownBlock = some k → w'.heap[k]? = w.heap[k]?) → w'.ownsRow K.B e 1 v n xs := by
    intro e n v xs hr hk
    refine ⟨hr.1, ?_⟩
    rcases hr.2 with h1 | ⟨g, cap, cur, rfl, hb, hg, rest⟩
    · exact .inl h1
    · exact .inr ⟨g, cap, cur, rfl, hb, (hk g rfl).trans hg, rest⟩
  refine ⟨?_, h.low, fun k hk => ?_, fun a b ha' hb' hab c hc => ?_, fun k hk => ?_, fun k hk => ?_, h.vlow, h.vne, ?_, h.vlen⟩
  · rw [hp, set_blk h.blk, pcells_upd hi]
  · by_cases e : k = i
    · subst e; rw [upd_same]; exact hx
    · rw [upd_other e]
      refine hrow (h.rows k hk) fun b hbb => ?_
      exact hkeep b (.inr (.inr ⟨k, hk, hbb⟩)) (fun e2 => h.offp k hk (e2 ▸ hbb)) (fun e2 => h.apart k i hk hi e b hbb e2)
  · by_cases e1 : a = i
    · subst e1
      rw [upd_same] at hc
      rw [upd_other (fun e => hab e.symm)]
      intro hc2
      exact hfar c (.inr (.inr ⟨b, hb', hc2⟩)) (fun e2 => h.apart a b ha' hb' hab c e2 hc2) hc
    · rw [upd_other e1] at hc
      by_cases e2 : b = i
      · subst e2
        rw [upd_same]
        exact hfar c (.inr (.inr ⟨a, ha', hc⟩)) (fun e2 => h.apart a b ha' hb' hab c hc e2)
      · rw [upd_other e2]; exact h.apart a b ha' hb' hab c hc
  · by_cases e : k = i
    · subst e; rw [upd_same]; exact hfar _ (.inl rfl) (h.offp k hk)
    · rw [upd_other e]; exact h.offp k hk
  · by_cases e : k = i
    · subst e; rw [upd_same]; exact hfar _ (.inr (.inl rfl)) (h.offv k hk)
    · rw [upd_other e]; exact h.offv k hk
  · exact hrow h.vrow (fun k e => by
      cases e
      exact hkeep K.vb (.inr (.inl rfl)) h.vne (h.offv i hi))
/-- A number is stored. -/
theorem PW.setAs (h : PW K w vs ns kf R) (z : Int) : PW K (w.setCell ⟨K.p, 3, none⟩ (.int .i64 z)) vs z kf R := by
  have h2 : ∀ k, PM K R k → k ≠ K.p → (w.setCell ⟨K.p, 3, none⟩ (.int .i64 z)).heap[k]? = w.heap[k]? := fun k _ hk => Below.heap_setCell _ _ _ _ hk
  refine ⟨by rw [set_blk h.blk]; rfl, h.low, fun i hi => irow_off (h.rows i hi) (grown_set _ _ _ _) rfl (fun b hb e => by cases e; exact h.offp i hi hb), h.apart, h.offp, h.offv, h.vlow, h.vne, ?_, h.vlen⟩
  refine World.ownsRow.kept h.vrow (grown_set _ _ _ _) (.inr ?_)
  simp only [Value.ownBlock]; intro e; exact h.vne (Option.some.inj e)
theorem PW.setKf (h : PW K w vs ns kf R) (z : Int) : PW K (w.setCell ⟨K.p, 5, none⟩ (.int .i64 z)) vs ns z R := by
  refine ⟨by rw [set_blk h.blk]; rfl, h.low, fun i hi => irow_off (h.rows i hi) (grown_set _ _ _ _) rfl (fun b hb e => by cases e; exact h.offp i hi hb), h.apart, h.offp, h.offv, h.vlow, h.vne, ?_, h.vlen⟩
  refine World.ownsRow.kept h.vrow (grown_set _ _ _ _) (.inr ?_)
  simp only [Value.ownBlock]; intro e; exact h.vne (Option.some.inj e)
/-- A value is stored. -/
theorem PW.setVal (h : PW K w vs ns kf R) (j : Nat) (z : Int) : PW K (w.setCell ⟨K.vb, j, none⟩ (.int .i8 z)) (vs.set j z) ns kf R := by
  refine ⟨by rw [Below.heap_setCell _ _ _ _ (fun e => h.vne e.symm)]; exact h.blk, h.low, fun i hi => irow_off (h.rows i hi) (grown_set _ _ _ _) rfl (fun b hb e => by cases e; exact h.offv i hi hb), h.apart, h.offp, h.offv, h.vlow, h.vne, ?_, by rw [List.length_set]; exact h.vlen⟩
  have := (World.ownsRow.stored h.vrow j (.int .i8 z)).1
  rwa [← List.map_set] at this
theorem PW.row (h : PW K w vs ns kf R) {i : Nat} (hi : i < 7) {n : Nat} (hn : (R i).l.length = n) (h0 : 0 < n) : ∃ g, (R i).a = some ⟨g, 0, none⟩ ∧ (R i).val = .slice (some ⟨g, 0, none⟩) n (R i).c ∧ n ≤ (R i).c ∧ IRow K.B w (some ⟨g, 0, none⟩) (R i).c (R i).l := by
  obtain ⟨g, e, _, _, hc⟩ := irow_head (h.rows i hi) (by omega)
  refine ⟨g, e, by rw [Rw.val, e, hn], by omega, ?_⟩
  have := h.rows i hi
  rwa [e] at this
end
/-- The number of a literal. -/
def ixL (x : Int) : Int := if x < 0 then -2 * x + 1 else 2 * x
theorem ix_calls (x : Int) (w : World) (h : -100000 ≤ x ∧ x ≤ 100000) : Calls Tryz.prog 121 #[.int .i64 x] w fun e w' => e = .returned (.int .i64 (ixL x)) ∧ w' = w := by
  by_cases h0 : x < 0
  · have e : ixL x = -2 * x + 1 := by unfold ixL; rw [if_pos h0]
    have k1 : IntKind.i64.wrap (-2 * x) = -2 * x := IntWalk.i64_in _ (by omega)
    have k2 : IntKind.i64.wrap (-2 * x + 1) = -2 * x + 1 := IntWalk.i64_in _ (by omega)
    have f : decide (x < 0) = true := decide_eq_true h0
    rw [e]
    clear e
    go_enter Tryz.func121, Tryz.ntmps121
    go_wp2
    go_ret
    exact ⟨rfl, rfl⟩
  · have e : ixL x = 2 * x := by unfold ixL; rw [if_neg h0]
    have k1 : IntKind.i64.wrap (2 * x) = 2 * x := IntWalk.i64_in _ (by omega)
    have f : decide (x < 0) = false := decide_eq_false h0
    rw [e]
    clear e
    go_enter Tryz.func121, Tryz.ntmps121
    go_wp2
    go_ret
    exact ⟨rfl, rfl⟩
theorem value_calls {K : PK} {w : World} {tr : List Int} {ns kf : Int} {R : Nat → Rw} (h : PW K w (valsP K.V tr) ns kf R) (hc : Cons tr) (hV : K.V ≤ 50000) {x : Int} (hx : InR K.V x) :
    Calls Tryz.prog 106 #[.pointer (some ⟨K.p, 0, none⟩), .int .i64 x] w fun e w' => e = .returned (.int .i8 (valL tr x)) ∧ w' = w := by
  obtain ⟨h0, h1, h2⟩ := hx
  have q0 := h.f6
  have hv01 : -1 ≤ valL tr x ∧ valL tr x ≤ 1 := by unfold valL; split <;> (try split) <;> omega
  by_cases hn : x < 0
  · obtain ⟨v, hv⟩ : ∃ v : Nat, -x = (v : Int) := ⟨x.natAbs, by omega⟩
    have hg := vals_get (V := K.V) (tr := tr) (v := v) (by omega) (by omega)
    obtain ⟨y, hy⟩ : ∃ y, valL tr (v : Int) = y := ⟨_, rfl⟩
    have HY : Hid (valL tr x = -y) := Lib.hid (by
      have := val_neg hc x
      rw [hv, hy] at this; omega)
    rw [hy] at hg
    have c1 := h.vcell hg
    have i0 : (0 : Int) ≤ (v : Int) := by omega
    have i1 : (v : Int) < ((K.V + 1 : Nat) : Int) := by omega
    have i2 : (v : Int) < (K.V : Int) + 1 := by omega
    have f : decide (x < 0) = true := decide_eq_true hn
    have k1 : IntKind.i64.wrap (-x) = (v : Int) := by rw [IntWalk.i64_in _ (by omega)]; exact hv
    have k2 : IntKind.i8.wrap (-y) = -y := by
      have := HY.out
      rcases (by omega : y = -1 ∨ y = 0 ∨ y = 1) with rfl | rfl | rfl <;> rfl
    rw [HY.out]
    have HV := Lib.hid hv
    clear hg hy hv h hv01
    go_enter Tryz.func106, Tryz.ntmps106
    go_wp2
    go_ret
    exact ⟨rfl, rfl⟩
  · obtain ⟨v, hv⟩ : ∃ v : Nat, x = (v : Int) := ⟨x.natAbs, by omega⟩
    have hg := vals_get (V := K.V) (tr := tr) (v := v) (by omega) (by omega)
    obtain ⟨y, hy⟩ : ∃ y, valL tr (v : Int) = y := ⟨_, rfl⟩
    subst hv
    rw [hy] at hg ⊢
    have c1 := h.vcell hg
    have i2 : (v : Int) < (K.V : Int) + 1 := by omega
    have f : decide ((v : Int) < 0) = false := decide_eq_false hn
    clear hg hy h hv01
    go_enter Tryz.func106, Tryz.ntmps106
    go_wp2
    go_ret
    exact ⟨rfl, rfl⟩
end Go.Proofs.YtihaheinkpmnnaaGreat

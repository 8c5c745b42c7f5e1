/- Texts of the proof: SM LR. -/
import Derived.Test.YtihaheinkpmnnaaGreatCA23
namespace Go.Proofs.YtihaheinkpmnnaaGreat
set_option maxRecDepth 200000
open Go.RowKit Go.Shelf Go.Maps
/-- What a state was made with: the formula, the symmetries. -/
structure Kst where
  V0 : Nat
  fa : Option Addr
  fc : Nat
  F : List (List Int)
  ya : Option Addr
  yc : Nat
  Y : List (List Int)
  R : World
  bm : Nat
def Kst.fs (K : Kst) : CkS := (K.V0, K.F)
/-- The symmetries that are known: a map from their numbers to whether they are valid. -/
def KnownM (K : Kst) (w : World) (b N : Nat) : Prop :=
  ∃ (n : Nat) (D : DataW Unit), n ≤ N ∧ w.ownsMap (H := Unit) Tryz.prog 3 (plainElem Tryz.prog 4) b n D ∧ ∀ k : Int, (Lit.int .i64 k).wf = true → Maps.has D (.int .i64 k) = true → D.atKey (.int .i64 k) (.lit (.bool false)) = .lit (.bool (symB K.V0 K.F (K.Y.getD k.toNat [])))
theorem KnownM.kept {K : Kst} {w w' : World} {b N : Nat} (h : KnownM K w b N) {row : Option Nat} (hg : w.grownBy w' row) (hr : some b ≠ row) : KnownM K w' b N := by
  obtain ⟨n, D, h1, h2, h3⟩ := h
  exact ⟨n, D, h1, h2.kept hg hr, h3⟩
theorem KnownM.lt {K : Kst} {w : World} {b N : Nat} (h : KnownM K w b N) : b < w.heap.size := by
  obtain ⟨n, D, h1, h2, h3⟩ := h
  exact h2.lt
theorem KnownM.new (K : Kst) (w : World) : KnownM K (w.alloc (.map #[] 0)) w.heap.size 0 :=
  ⟨0, .map [], Nat.le_refl _, World.ownsMap_made w _ _ _, fun k _ h => by simp [Maps.has] at h⟩
theorem KnownM.look {K : Kst} {w : World} {b N : Nat} (h : KnownM K w b N) {k : Int} (hk : (Lit.int .i64 k).wf = true) :
    ∃ v ok : Bool, (Instr.lookup 50 (.map (some b)) (.int .i64 k) true).run Tryz.prog w = .ok (.tuple #[.bool v, .bool ok]) w ∧ (ok = true → v = symB K.V0 K.F (K.Y.getD k.toNat [])) := by
  obtain ⟨n, D, h1, hD, h3⟩ := h
  obtain ⟨v, ps, hr, hv⟩ := hD.look_ok (Maps.int_keyed Tryz.underlying3) Tryz.underlying50 (zero4 w) (plainElem_bool Tryz.underlying4 false) (Maps.keyOf_int_mk Tryz.underlying3 hk)
  obtain ⟨x, rfl, hx⟩ := plainElem_bool_inv hv
  refine ⟨x, Maps.has D (.int .i64 k), hr, fun ho => ?_⟩
  have h4 := h3 k hk ho
  have h5 := congrArg Prod.fst hx
  simp only at h5
  rw [h4] at h5
  injection h5 with h5
  injection h5 with h5
  exact h5.symm
theorem KnownM.store {K : Kst} {w : World} {b N : Nat} (h : KnownM K w b N) (hN : N ≤ 1000000) {k : Int} (hk : (Lit.int .i64 k).wf = true) :
    ∃ w', (Instr.mapUpdate 50 (.map (some b)) (.int .i64 k) (.bool (symB K.V0 K.F (K.Y.getD k.toNat [])))).run Tryz.prog w = .ok () w' ∧ KnownM K w' b (N + 1) ∧ w.grownBy w' (some b) := by
  obtain ⟨n, D, h1, hD, h3⟩ := h
  have hkl : keyOf Tryz.prog 3 (.int .i64 k) = some (.int .i64 k) := Maps.keyOf_int_mk Tryz.underlying3 hk
  obtain ⟨w', hr, ho, ht⟩ := hD.store (Maps.int_keyed Tryz.underlying3) Tryz.underlying50 (by unfold maxLen; omega) hkl (plainElem_bool Tryz.underlying4 (symB K.V0 K.F (K.Y.getD k.toNat [])))
  refine ⟨w', hr, ⟨n + 1, _, by omega, ho, fun j hj hh => ?_⟩, ht.grown⟩
  by_cases e : j = k
  · subst e
    rw [Maps.atKey_put_same hD.isMap (by trivial : Go.WideAt.IsKeyLit (.int .i64 j))]
  · have hne : (Lit.int .i64 j) ≠ Lit.int .i64 k := by simpa using e
    rw [Maps.atKey_put_other hne]
    rw [Maps.has_put_other hne] at hh
    exact h3 j hj hh
/-- A clause that lies before B or in a row of integers of its own. -/
def Ok3 (B : Nat) (w : World) (p : Nr) : Prop := IntsW w p.1 p.2.1 p.2.2 ∧ (p.2.2 = [] ∨ ∃ k o, p.1 = some ⟨k, o, none⟩ ∧ (k < B ∨ ∃ cur fr, w.heap[k]? = some (.cells cur 3 fr)))
theorem ints_lt {w : World} {a : Option Addr} {c : Nat} {l : List Int} (h : IntsW w a c l) : l = [] ∨ ∃ k o, a = some ⟨k, o, none⟩ ∧ k < w.heap.size := by
  rcases h.2 with h | ⟨b, o, ha, hz⟩
  · exact .inl h
  · cases l with
    | nil => exact .inl rfl
    | cons x l => exact .inr ⟨b, o, ha, World.block_lt_of_cell? w _ (hz 0 x rfl)⟩
theorem ok3_old {w0 w : World} {a : Option Addr} {c : Nat} {l : List Int} (h : IntsW w0 a c l) (hg : w0.grownBy w none) : Ok3 w0.heap.size w (a, c, l) :=
  ⟨h.grown hg, (ints_lt h).imp id fun ⟨k, o, h1, h2⟩ => ⟨k, o, h1, .inl h2⟩⟩
theorem Ok3.keep {B : Nat} {w w' : World} {p : Nr} (h : Ok3 B w p) {row : Option Nat} (hg : w.grownBy w' row) (hr : ∀ g, row = some g → B ≤ g ∧ ∀ cur fr, w.heap[g]? ≠ some (.cells cur 3 fr)) : Ok3 B w' p := by
  obtain ⟨h1, h2⟩ := h
  rcases h2 with h2 | ⟨k, o, ha, hk⟩
  · exact ⟨⟨h1.1, .inl h2⟩, .inl h2⟩
  · by_cases hl : p.2.2 = []
    · exact ⟨⟨h1.1, .inl hl⟩, .inl hl⟩
    · have hkl : k < w.heap.size := by
        rcases ints_lt h1 with h | ⟨k', o', e, h⟩
        · exact absurd h hl
        · rw [ha] at e; cases e; exact h
      have hne : some k ≠ row := fun e => by
        obtain ⟨h3, h4⟩ := hr k e.symm
        rcases hk with hk | ⟨cur, fr, hk⟩
        · omega
        · exact h4 cur fr hk
      have hb := hg.block k hkl hne
      refine ⟨⟨h1.1, ?_⟩, .inr ⟨k, o, ha, hk.imp id fun ⟨cur, fr, h⟩ => ⟨cur, fr, hb.trans h⟩⟩⟩
      rcases h1.2 with h | ⟨b, o', e, hz⟩
      · exact absurd h hl
      · rw [ha] at e; cases e
        exact .inr ⟨k, o, ha, fun j z hj => (World.cell?_of_block hb).trans (hz j z hj)⟩
theorem Ok3.grown {B : Nat} {w w' : World} {p : Nr} (h : Ok3 B w p) (hg : w.grownBy w' none) : Ok3 B w' p := h.keep hg fun g e => by cases e
/-- What isn't cells lies as it lay in a certain world, but for the map of the state. -/
def Oth (K : Kst) (bm : Nat) (w : World) : Prop := ∀ (k : Nat) (o : Obj), K.R.heap[k]? = some o → o.isCells = false → k ≠ bm → w.heap[k]? = some o
theorem Oth.step {K : Kst} {bm : Nat} {w w' : World} (h : Oth K bm w) {row : Option Nat} (hg : w.grownBy w' row) (hr : ∀ g, row = some g → g = bm ∨ ∃ cur T fr, w.heap[g]? = some (.cells cur T fr)) : Oth K bm w' := fun k o hk ho hne => by
  have h1 := h k o hk ho hne
  refine (hg.block k (Array.getElem?_eq_some_iff.1 h1).1 (fun e => ?_)).trans h1
  rcases hr k e.symm with h2 | ⟨cur, T, fr, h2⟩
  · exact hne h2
  · rw [h1] at h2; cases h2; cases ho
/-- A state in a box: what its row and its map are. -/
structure BoxM (w0 : World) (K : Kst) (b : Nat) (s : CkS) (N : Nat) (v : Value) (bm : Nat) (ps : List Nr) (w : World) : Prop where
  hp : w.heap[b]? = some (.cells #[.int .i64 (K.V0 : Int), .slice K.fa K.F.length K.fc, .slice K.ya K.Y.length K.yc, .map (some bm), v, .int .i64 (s.1 : Int)] 53 (0, 0))
  low : w0.heap.size ≤ b
  mlow : w0.heap.size ≤ bm
  map : KnownM K w bm N
  row : w.ownsRow w0.heap.size 34 1 v s.2.length (ps.map encP)
  eqs : ps.map (·.2.2) = s.2
  ok : ∀ p ∈ ps, Ok3 w0.heap.size w p
  grown : w0.grownBy w none
  oth : Oth K bm w
  hbm : bm = K.bm
def StM (w0 : World) (K : Kst) (b : Nat) (s : CkS) (N : Nat) (w : World) : Prop := ∃ v bm ps, BoxM w0 K b s N v bm ps w
theorem BoxM.later {w0 : World} {K : Kst} {b : Nat} {s : CkS} {N : Nat} {v : Value} {bm : Nat} {ps : List Nr} {w w' : World} (h : BoxM w0 K b s N v bm ps w) (hg : w.grownBy w' none) : BoxM w0 K b s N v bm ps w' :=
  ⟨(hg.block b (Array.getElem?_eq_some_iff.1 h.hp).1 (by simp)).trans h.hp, h.low, h.mlow, h.map.kept hg (by simp), own_grown h.row hg, h.eqs, fun p hp => (h.ok p hp).grown hg, h.grown.trans hg, h.oth.step hg (fun g e => by cases e), h.hbm⟩
theorem BoxM.cells {w0 : World} {K : Kst} {b : Nat} {s : CkS} {N : Nat} {v : Value} {bm : Nat} {ps : List Nr} {w : World} (h : BoxM w0 K b s N v bm ps w) :
    w.cell? ⟨b, 0, none⟩ = some (.int .i64 (K.V0 : Int)) ∧ w.cell? ⟨b, 1, none⟩ = some (.slice K.fa K.F.length K.fc) ∧ w.cell? ⟨b, 2, none⟩ = some (.slice K.ya K.Y.length K.yc) ∧ w.cell? ⟨b, 3, none⟩ = some (.map (some bm)) ∧ w.cell? ⟨b, 4, none⟩ = some v ∧ w.cell? ⟨b, 5, none⟩ = some (.int .i64 (s.1 : Int)) ∧ ∀ i, w.frozen? ⟨b, i, none⟩ = false := by
  have := h.hp
  refine ⟨?_, ?_, ?_, ?_, ?_, ?_, fun i => ?_⟩ <;> simp [World.cell?, World.frozen?, this]
theorem BoxM.shape {w0 : World} {K : Kst} {b : Nat} {s : CkS} {N : Nat} {v : Value} {bm : Nat} {ps : List Nr} {w : World} (h : BoxM w0 K b s N v bm ps w) : ∃ a c, v = .slice a s.2.length c ∧ ClsW w a c s.2 := by
  have hlen : ps.length = s.2.length := by rw [← h.eqs, List.length_map]
  rcases h.row.2 with ⟨e, h0⟩ | ⟨g, cap, cur, e, hB, hg, h3, h4, h5, h6⟩
  · exact ⟨none, 0, by rw [e, h0], by rw [h0]; exact Nat.le_refl _, .inl (List.eq_nil_of_length_eq_zero h0)⟩
  · refine ⟨_, _, e, h3, .inr ⟨g, 0, rfl, fun j z hj => ?_⟩⟩
    rw [← h.eqs, List.getElem?_map] at hj
    cases hq : ps[j]? with
    | none => rw [hq] at hj; cases hj
    | some p =>
      rw [hq] at hj
      simp only [Option.map_some, Option.some.injEq] at hj
      subst hj
      refine ⟨p.1, p.2.1, ?_, (h.ok p (List.mem_of_getElem? hq)).1⟩
      have hrow := h.row
      rw [e] at hrow
      have hjl := (List.getElem?_eq_some_iff.1 hq).1
      obtain ⟨k1, _⟩ := own_holds (enc := encP) hrow
      have := (k1 j (by simpa using hjl)).1
      rw [this]
      have e2 : ps.toArray[j]! = p := by
        rw [getElem!_pos ps.toArray j (by simpa using hjl)]
        have := (List.getElem?_eq_some_iff.1 hq).2
        simpa using this
      rw [e2]; rfl
theorem heap_setCell_at {w : World} {b i : Nat} {cs : Array Value} {u : Value} {T : TypeId} (h : w.heap[b]? = some (.cells cs T (0, 0))) : (w.setCell ⟨b, i, none⟩ u).heap[b]? = some (.cells (cs.setIfInBounds i u) T (0, 0)) := by
  have hlt := (Array.getElem?_eq_some_iff.1 h).1
  have hg := (Array.getElem?_eq_some_iff.1 h).2
  show (w.heap.modify b _)[b]? = _
  rw [Array.getElem?_eq_getElem (by rw [Array.size_modify]; exact hlt), Array.getElem_modify_self, hg]
  rfl
theorem row_not3 {w : World} {B n : Nat} {v : Value} {xs : List Value} (h : w.ownsRow B 34 1 v n xs) : ∀ g, v.ownBlock = some g → B ≤ g ∧ ∀ cur fr, w.heap[g]? ≠ some (.cells cur 3 fr) := by
  intro g hg
  rcases h.2 with ⟨rfl, _⟩ | ⟨g', cap, cur, rfl, hB, hb, _⟩
  · cases hg
  · cases hg; exact ⟨hB, fun cur fr e => by rw [hb] at e; cases e⟩
theorem KnownM.ne_cells {K : Kst} {w : World} {bm N g : Nat} (h : KnownM K w bm N) {cur : Array Value} {T : TypeId} {fr : Nat × Nat} (hb : w.heap[g]? = some (.cells cur T fr)) : bm ≠ g := by
  intro e
  subst e
  obtain ⟨n, D, _, ⟨es, clock, h2, _⟩, _⟩ := h
  rw [h2] at hb; cases hb
/-- A further clause in the state. -/
theorem BoxM.app {w0 : World} {K : Kst} {b : Nat} {s : CkS} {N : Nat} {v : Value} {bm : Nat} {ps : List Nr} {w w6 : World} (h : BoxM w0 K b s N v bm ps w) {p : Nr} {v' : Value} (hp : Ok3 w0.heap.size w p)
    (hrow : w6.ownsRow w0.heap.size 34 1 v' (s.2.length + 1) (ps.map encP ++ [encP p])) (hg : w.grownBy w6 v.ownBlock) : BoxM w0 K b (s.1, s.2 ++ [p.2.2]) N v' bm (ps ++ [p]) (w6.setCell ⟨b, 4, none⟩ v') := by
  have hr := row_not3 h.row
  have hbl := (Array.getElem?_eq_some_iff.1 h.hp).1
  have hnb : some b ≠ v.ownBlock := fun e => by
    rcases h.row.2 with ⟨rfl, _⟩ | ⟨g', cap, cur, rfl, hB, hb, _⟩
    · cases e
    · cases e
      rw [h.hp] at hb; cases hb
  have hnm : some bm ≠ v.ownBlock := fun e => by
    rcases h.row.2 with ⟨rfl, _⟩ | ⟨g', cap, cur, rfl, hB, hb, _⟩
    · cases e
    · cases e; exact h.map.ne_cells hb rfl
  have h6 := (hg.block b hbl hnb).trans h.hp
  have hset : w6.grownBy (w6.setCell ⟨b, 4, none⟩ v') (some b) := grown_set w6 b 4 v'
  have hnb' : v'.ownBlock = none ∨ v'.ownBlock ≠ some b := by
    rcases hrow.2 with ⟨rfl, _⟩ | ⟨g', cap, cur, rfl, hB, hb, _⟩
    · exact .inl rfl
    · refine .inr fun e => ?_
      cases e
      rw [h6] at hb; cases hb
  have hkm := h.map.kept hg hnm
  have hcurv : ∀ g, v.ownBlock = some g → g = bm ∨ ∃ cur T fr, w.heap[g]? = some (.cells cur T fr) := fun g e => by
    rcases h.row.2 with ⟨rfl, _⟩ | ⟨g', cap, cur, rfl, hB, hb, _⟩
    · cases e
    · cases e; exact .inr ⟨_, _, _, hb⟩
  refine ⟨by rw [heap_setCell_at h6]; rfl, h.low, h.mlow, hkm.kept hset (fun e => hkm.ne_cells h6 (by cases e; rfl)), ?_, ?_, ?_, ?_, (h.oth.step hg hcurv).step hset (fun g e => by cases e; exact .inr ⟨_, _, _, h6⟩), h.hbm⟩
  · rw [List.map_append, List.length_append]; exact hrow.kept hset hnb'
  · rw [List.map_append, h.eqs]; rfl
  · intro q hq
    have k1 : Ok3 w0.heap.size w q := by
      rcases List.mem_append.1 hq with hq | hq
      · exact h.ok q hq
      · rw [List.mem_singleton.1 hq]; exact hp
    exact (k1.keep hg hr).keep hset fun g e => by cases e; exact ⟨h.low, fun cur fr e => by rw [h6] at e; cases e⟩
  · exact grown_own (grown_own h.grown hg (fun k e => (hr k e).1)) hset (fun k e => by cases e; exact h.low)
end Go.Proofs.YtihaheinkpmnnaaGreat

namespace Go.Proofs.YtihaheinkpmnnaaGreat
set_option maxRecDepth 200000
open Go.RowKit Go.Shelf Go.Maps
theorem KnownM.more {K : Kst} {w : World} {bm N M : Nat} (h : KnownM K w bm N) (hN : N ≤ M) : KnownM K w bm M := by
  obtain ⟨n, D, h1, h2⟩ := h
  exact ⟨n, D, by omega, h2⟩
theorem StM.more {w0 : World} {K : Kst} {b : Nat} {s : CkS} {N M : Nat} {w : World} (h : StM w0 K b s N w) (hN : N ≤ M) : StM w0 K b s M w := by
  obtain ⟨v, bm, ps, hB⟩ := h
  exact ⟨v, bm, ps, hB.hp, hB.low, hB.mlow, hB.map.more hN, hB.row, hB.eqs, hB.ok, hB.grown, hB.oth, hB.hbm⟩
theorem StM.grown {w0 : World} {K : Kst} {b : Nat} {s : CkS} {N : Nat} {w : World} (h : StM w0 K b s N w) : w0.grownBy w none := by
  obtain ⟨v, bm, ps, hB⟩ := h
  exact hB.grown
theorem StM.later {w0 : World} {K : Kst} {b : Nat} {s : CkS} {N : Nat} {w w' : World} (h : StM w0 K b s N w) (hg : w.grownBy w' none) : StM w0 K b s N w' := by
  obtain ⟨v, bm, ps, hB⟩ := h
  exact ⟨v, bm, ps, hB.later hg⟩
/-- What the steps of a state have to keep to. -/
structure Fine (w0 : World) (s : CkS) (N : Nat) (x : St) (la : Option Addr) (lc : Nat) : Prop where
  ints : IntsW w0 la lc x.2.1
  len : x.2.1.length ≤ 12
  fit : Fit s 390 988
  cnt : N ≤ 1000
set_option maxHeartbeats 8000000 in
theorem learn_calls {w0 : World} {K : Kst} {b : Nat} {s : CkS} {N : Nat} {w : World} (h : StM w0 K b s N w) {x : St} {la : Option Addr} {lc : Nat} (hf : Fine w0 s N x la lc) (hr : ∀ y ∈ x.2.1, InR s.1 y) :
    Calls Tryz.prog 45 #[.pointer (some ⟨b, 0, none⟩), .agg #[.int .i64 x.1, .slice la x.2.1.length lc, .int .i64 x.2.2]] w fun e w' =>
      e = .returned (.bool (impB s.1 s.2 x.2.1)) ∧ (impB s.1 s.2 x.2.1 = true → StM w0 K b (s.1, s.2 ++ [x.2.1]) (N + 1) w') ∧ w0.grownBy w' none := by
  obtain ⟨v, bm, ps, hB⟩ := h
  obtain ⟨ln, hln⟩ : ∃ z, x.2.1.length = z := ⟨_, rfl⟩
  obtain ⟨n, hn⟩ : ∃ z, s.2.length = z := ⟨_, rfl⟩
  obtain ⟨va, vc, rfl, hcls⟩ := hB.shape
  obtain ⟨bx, hbx⟩ : ∃ z, w.heap.size = z := ⟨_, rfl⟩
  obtain ⟨W1, hW1⟩ : ∃ z, w.alloc (.cells #[.int .i64 x.1, .slice la ln lc, .int .i64 x.2.2] 46) = z := ⟨_, rfl⟩
  have hw1 : w.grownBy W1 none ∧ W1.heap[bx]? = some (.cells #[.int .i64 x.1, .slice la ln lc, .int .i64 x.2.2] 46 (0, 0)) := by
    rw [← hW1, ← hbx]; exact ⟨World.grownBy_alloc _ _ none, World.alloc_heap_new w _⟩
  have hB1 := hB.later hw1.1
  obtain ⟨c0, c1, c2, c3, c4, c5, cf⟩ := hB1.cells
  have q1 : W1.cell? ⟨bx, 1, none⟩ = some (.slice la ln lc) := by simp [World.cell?, hw1.2]
  obtain ⟨ans, hans⟩ : ∃ z, impB s.1 s.2 x.2.1 = z := ⟨_, rfl⟩
  have HIM : Hid (∀ W, W1.grownBy W none → Calls Tryz.prog 62 #[.agg #[.int .i64 (s.1 : Int), .slice va n vc], .slice la ln lc] W fun e w' => e = .returned (.bool ans) ∧ W1.grownBy w' none) := Lib.hid (fun W hg => by
    have := implies_calls s.1 s.2 va vc x.2.1 la lc W (hcls.grown (hw1.1.trans hg)) (by have := hf.fit.vars; omega) (by have := hf.fit.len; omega) (fun z hz => by have := hf.fit.lits z hz; omega) hf.fit.ran ((hf.ints.grown hB.grown).grown (hw1.1.trans hg)) (by have := hf.len; omega) hr
    rw [hn, hln] at this
    refine this.mono ?_
    rintro e w' ⟨⟨d, rfl, hd⟩, hg2⟩
    refine ⟨?_, hg.trans hg2⟩
    rw [← hans, show d = impB s.1 s.2 x.2.1 from by rw [Bool.eq_iff_iff, hd, impB_iff hf.fit.ran]])
  have HB1 := Lib.hid hB1
  have HF := Lib.hid (And.intro hf (And.intro hw1 (And.intro hln (And.intro hn hbx))))
  rw [hn] at c4
  rw [hln, hans]
  have HANS := Lib.hid hans
  have C4 := Lib.hid c4
  have C5 := Lib.hid c5
  have Q1 := Lib.hid q1
  have hnl : n ≤ 1000 := by have := hf.fit.len; omega
  clear hB hcls hB1 hw1 hln hn hf hr hans c0 c1 c2 c3 cf
  go_enter Tryz.func45, Tryz.ntmps45
  go_wp2_with fail
  clear hW1 hbx
  go_region_held3 (fun w' => W1.grownBy w' none ∧ w'.cell? ⟨b, 4, none⟩ = some (.slice va n vc) ∧ w'.cell? ⟨b, 5, none⟩ = some (.int .i64 (s.1 : Int)) ∧ w'.cell? ⟨bx, 1, none⟩ = some (.slice la ln lc))
    (first | exact ⟨grown_drew W1 none, c4, c5, q1⟩ | (go_split_ands; exact ⟨by assumption, by assumption, by assumption, by assumption⟩) | exact ⟨g7, g7.cell C4.out (by simp), g7.cell C5.out (by simp), g7.cell Q1.out (by simp)⟩)
    (first | (go_at_call 62; refine (HIM.out _ (by go_split_ands; assumption)).mono ?_; rintro e w5 ⟨rfl, g7⟩))
  have HG := Lib.hid g7
  have HG0 := Lib.hid (HB1.out.grown.trans g7)
  clear g7 c4 c5 q1
  cases ans with
  | false =>
    go_wp2_with fail
    go_ret
    exact ⟨rfl, (fun h => by cases h), HG0.out⟩
  | true =>
    go_wp2_with fail
    obtain ⟨v, hv⟩ : ∃ z, Value.slice va n vc = z := ⟨_, rfl⟩
    have hB5 := HB1.out.later HG.out
    rw [HF.out.2.2.2.1, hv] at hB5
    obtain ⟨i0, hi0, hz0, hz1, hz2⟩ := info_parts info34
    have hdr : w5.grownBy w5.drew none := grown_drew w5 none
    have HB5 := Lib.hid hB5
    have HROW : Hid (w5.ownsRow w0.heap.size 34 1 v n (ps.map encP)) := Lib.hid (by have := hB5.row; rwa [HF.out.2.2.2.1] at this)
    have HST : Hid (∀ W, w5.grownBy W none → W.cell? ⟨bx, 1, none⟩ = some (.slice la ln lc) ∧ (W.cell? ⟨b, 4, none⟩ = some v ∧ W.frozen? ⟨b, 4, none⟩ = false)) := Lib.hid (fun W hg => by
      obtain ⟨_, _, _, _, k4, _, kf⟩ := (HB5.out.later hg).cells
      exact ⟨(HG.out.trans hg).cell Q1.out (by simp), k4, kf 4⟩)
    have HBS : Hid (∀ W, w5.grownBy W none → w0.heap.size ≤ W.heap.size) := Lib.hid (fun W hg => (HG0.out.trans hg).size)
    have HBXN : Hid (some bx ≠ v.ownBlock ∧ some b ≠ v.ownBlock ∧ bx ≠ b) := Lib.hid (by
      have hx5 := (HG.out.block bx (Array.getElem?_eq_some_iff.1 HF.out.2.1.2).1 (by simp)).trans HF.out.2.1.2
      refine ⟨fun e => ?_, fun e => ?_, fun e => ?_⟩
      · rcases HROW.out.2 with ⟨e2, _⟩ | ⟨g', cap, cur, e2, _, hb, _⟩
        · rw [e2] at e; cases e
        · rw [e2] at e; cases e; rw [hx5] at hb; cases hb
      · rcases HROW.out.2 with ⟨e2, _⟩ | ⟨g', cap, cur, e2, _, hb, _⟩
        · rw [e2] at e; cases e
        · rw [e2] at e; cases e; rw [HB5.out.hp] at hb; cases hb
      · subst e; rw [HB5.out.hp] at hx5; injection hx5 with h5; injection h5 with _ h6; exact absurd h6 (by decide))
    have HST6 : Hid (∀ W W', w5.grownBy W none → W.grownBy W' v.ownBlock → W'.cell? ⟨bx, 1, none⟩ = some (.slice la ln lc) ∧ (W'.cell? ⟨b, 4, none⟩ = some v ∧ W'.frozen? ⟨b, 4, none⟩ = false)) := Lib.hid (fun W W' hg hg' => by
      obtain ⟨k1, k2, k3⟩ := HST.out W hg
      have hbl : b < W.heap.size := World.block_lt_of_cell? W _ k2
      refine ⟨hg'.cell k1 HBXN.out.1, hg'.cell k2 HBXN.out.2.1, ?_⟩
      rw [World.frozen?_of_block (hg'.block b hbl HBXN.out.2.1)]; exact k3)
    have HSS : Hid (∀ (W : World) (u : Value), W.cell? ⟨bx, 1, none⟩ = some (.slice la ln lc) → (W.setCell ⟨b, 4, none⟩ u).cell? ⟨bx, 1, none⟩ = some (.slice la ln lc)) := Lib.hid (fun W u hh => by
      rw [World.cell?_setCell_other _ _ _ _ (by intro e; injection e with e _; exact HBXN.out.2.2 e.symm)]; exact hh)
    rw [hv]
    clear hv hB5
    refine wp_region_gone_drew (S := (fun Wh : World => Wh.cell? ⟨bx, 1, none⟩ = some (.slice la ln lc))) (T := (fun Wh : World => Wh.cell? ⟨b, 4, none⟩ = some v ∧ Wh.frozen? ⟨b, 4, none⟩ = false)) (m := 11) (by kernel_rfl) ⟨(HST.out _ hdr).1, (HST.out _ hdr).2⟩ (fun hHeld => ?_)
    refine wpAnyG_take (i := 0) (oi := { dst := some 18, op := Op.move (Operand.tmp 0), type := 49, pos := "checker.go:70", after := #[], guard := none }) (v := ?_) rfl (by decide) (by kernel_rfl) (by kernel_rfl) (by kernel_rfl) (fun _ _ _ h => h) (Or.inl ⟨by rfl, ?_⟩) (by assumption) ?_
    rotate_left 1
    · (intro W hSW; (try dsimp only at hSW); first | (go_simp; done) | (go_simp; with_reducible rfl))
    try simp only [Act.put, List.setIfInBounds_toArray, List.set_cons_zero, List.set_cons_succ]
    refine wpAnyG_take (i := 1) (oi := { dst := some 19, op := Op.move (Operand.tmp 0), type := 49, pos := "checker.go:70", after := #[], guard := none }) (v := ?_) rfl (by decide) (by kernel_rfl) (by kernel_rfl) (by kernel_rfl) (fun _ _ _ h => h) (Or.inl ⟨by rfl, ?_⟩) (by assumption) ?_
    rotate_left 1
    · (intro W hSW; (try dsimp only at hSW); first | (go_simp; done) | (go_simp; with_reducible rfl))
    try simp only [Act.put, List.setIfInBounds_toArray, List.set_cons_zero, List.set_cons_succ]
    refine wpAnyG_takeT (i := 2) (oi := { dst := some 20, op := Op.nilCheck (Operand.tmp 19), type := 0, pos := "checker.go:70", after := #[{ on := 1, ground := Ground.data }], guard := none }) (v := ?_) rfl rfl (by kernel_rfl) (by decide) (by kernel_rfl) (by kernel_rfl) (by kernel_rfl) (by kernel_rfl) (fun _ _ _ h => h) (Or.inl ⟨by rfl, ?_⟩) (by assumption) ?_
    rotate_left 1
    · (intro W hSW; (try dsimp only at hSW); first | (go_simp; done) | (go_simp; with_reducible rfl))
    try simp only [Act.put, List.setIfInBounds_toArray, List.set_cons_zero, List.set_cons_succ]
    refine wpAnyG_take (i := 3) (oi := { dst := some 21, op := Op.fieldAddr 53 (Operand.tmp 20) 3, type := 0, pos := "checker.go:70", after := #[{ on := 2, ground := Ground.data }], guard := none }) (v := ?_) rfl (by decide) (by kernel_rfl) (by kernel_rfl) (by kernel_rfl) (fun _ _ _ h => h) (Or.inl ⟨by rfl, ?_⟩) (by assumption) ?_
    rotate_left 1
    · (intro W hSW; (try dsimp only at hSW); first | (go_simp; done) | (go_simp; with_reducible rfl))
    try simp only [Act.put, List.setIfInBounds_toArray, List.set_cons_zero, List.set_cons_succ]
    refine wpAnyG_takeT (i := 4) (oi := { dst := some 22, op := Op.load 22 (Operand.tmp 21), type := 22, pos := "checker.go:70", after := #[{ on := 3, ground := Ground.data }], guard := none }) (v := ?_) rfl rfl (by kernel_rfl) (by decide) (by kernel_rfl) (by kernel_rfl) (by kernel_rfl) (by kernel_rfl) (fun _ _ _ h => h) (Or.inl ⟨by rfl, ?_⟩) (by assumption) ?_
    rotate_left 1
    · (intro W hSW; (try dsimp only at hSW); first | (go_simp; done) | (go_simp; with_reducible rfl))
    try simp only [Act.put, List.setIfInBounds_toArray, List.set_cons_zero, List.set_cons_succ]
    refine wpAnyG_take (i := 5) (oi := { dst := some 23, op := Op.fieldAddr 46 (Operand.tmp 3) 1, type := 0, pos := "checker.go:70", after := #[], guard := none }) (v := ?_) rfl (by decide) (by kernel_rfl) (by kernel_rfl) (by kernel_rfl) (fun _ _ _ h => h) (Or.inl ⟨by rfl, ?_⟩) (by assumption) ?_
    rotate_left 1
    · (intro W hSW; (try dsimp only at hSW); first | (go_simp; done) | (go_simp; with_reducible rfl))
    try simp only [Act.put, List.setIfInBounds_toArray, List.set_cons_zero, List.set_cons_succ]
    refine wpAnyG_takeT (i := 6) (oi := { dst := some 24, op := Op.load 34 (Operand.tmp 23), type := 34, pos := "checker.go:70", after := #[{ on := 5, ground := Ground.data }], guard := none }) (v := ?_) rfl rfl (by kernel_rfl) (by decide) (by kernel_rfl) (by kernel_rfl) (by kernel_rfl) (by kernel_rfl) (fun _ _ _ h => h) (Or.inl ⟨by rfl, ?_⟩) (by assumption) ?_
    rotate_left 1
    · (intro W hSW; (try dsimp only at hSW); first | (go_simp; done) | (go_simp; with_reducible rfl))
    try simp only [Act.put, List.setIfInBounds_toArray, List.set_cons_zero, List.set_cons_succ]
    refine wpAnyG_ready (rs := [7]) (by kernel_rfl) (by simp) ?_
    refine (AllReadyG.cons (o := { dst := some 25, op := Op.buildSlice 22 1 #[(0, Operand.tmp 24)], type := 22, pos := "checker.go:70", after := #[{ on := 6, ground := Ground.data }], guard := none }) rfl (fun K hK => ?_) AllReadyG.nil)
    rw [if_pos (by rfl)]
    go_simp
    have haA : ∀ r, w5.grownBy ((World.alloc w5 (.cells #[.slice la ln lc] 34)).drew) r := fun r => (World.grownBy_alloc w5 _ r).trans (grown_drew _ r)
    have hnA : ∀ j u, [Value.slice la ln lc][j]? = some u → ((World.alloc w5 (.cells #[.slice la ln lc] 34)).drew).cell? ((⟨w5.heap.size, 0, none⟩ : Addr).add j) = some u := cell_one_new w5 _ _
    obtain ⟨WA, hWA⟩ : ∃ WA, (World.alloc w5 (.cells #[.slice la ln lc] 34)).drew = WA := ⟨_, rfl⟩
    rw [hWA] at haA hnA ⊢
    clear hWA
    have hA := haA none
    have hST := HST.out _ hA
    refine hK.out _ _ ⟨hST.1, .inr hST.2⟩ (fun hHeld => ?_)
    clear hK K
    try simp only [Act.put, List.setIfInBounds_toArray, List.set_cons_zero, List.set_cons_succ]
    refine wpAnyG_ready (rs := [8]) (by kernel_rfl) (by simp) ?_
    refine (AllReadyG.cons (o := { dst := some 26, op := Op.call { callee := Callee.builtin Builtin.append, args := #[Operand.tmp 22, Operand.tmp 25], argTypes := #[22, 22] }, type := 22, pos := "checker.go:70", after := #[{ on := 4, ground := Ground.data }, { on := 7, ground := Ground.data }], guard := none }) rfl (fun K hK => ?_) AllReadyG.nil)
    refine ready_append_g 22 34 (.tmp 22) (.tmp 25) rfl rfl Tryz.underlying22 hi0 hz0 hz1 hz2 rfl (by decide) (by omega) w0.heap.size v n (ps.map encP) rfl (own_grown HROW.out hA) ⟨w5.heap.size, 0, none⟩ [.slice la ln lc] rfl rfl hnA (fun u hu => by simp at hu; subst hu; rfl) (by omega) (HBS.out _ hA) (fun v' w6 hown' hgrow6 hat6 => ?_)
    obtain ⟨rgA, rcA, rfl⟩ := own_shape hown'
    have hST6 := HST6.out _ _ hA hgrow6
    refine hK.out _ _ ⟨hST6.1, .inr hST6.2⟩ (fun hHeld => ?_)
    clear hK K
    try simp only [Act.put, List.setIfInBounds_toArray, List.set_cons_zero, List.set_cons_succ]
    refine wpAnyG_take (i := 9) (oi := { dst := some 27, op := Op.nilCheck (Operand.tmp 18), type := 0, pos := "checker.go:70", after := #[{ on := 0, ground := Ground.data }, { on := 0, ground := Ground.phase }, { on := 1, ground := Ground.phase }, { on := 2, ground := Ground.phase }, { on := 3, ground := Ground.phase }, { on := 4, ground := Ground.phase }, { on := 5, ground := Ground.phase }, { on := 6, ground := Ground.phase }, { on := 7, ground := Ground.phase }, { on := 8, ground := Ground.phase }], guard := none }) (v := ?_) rfl (by decide) (by kernel_rfl) (by kernel_rfl) (by kernel_rfl) (fun _ _ _ h => h) (Or.inl ⟨by rfl, ?_⟩) (by assumption) ?_
    rotate_left 1
    · (intro W hSW; (try dsimp only at hSW); first | (go_simp; done) | (go_simp; with_reducible rfl))
    try simp only [Act.put, List.setIfInBounds_toArray, List.set_cons_zero, List.set_cons_succ]
    refine wpAnyG_take (i := 10) (oi := { dst := some 28, op := Op.fieldAddr 53 (Operand.tmp 27) 3, type := 0, pos := "checker.go:70", after := #[{ on := 9, ground := Ground.data }, { on := 0, ground := Ground.phase }, { on := 1, ground := Ground.phase }, { on := 2, ground := Ground.phase }, { on := 3, ground := Ground.phase }, { on := 4, ground := Ground.phase }, { on := 5, ground := Ground.phase }, { on := 6, ground := Ground.phase }, { on := 7, ground := Ground.phase }, { on := 8, ground := Ground.phase }], guard := none }) (v := ?_) rfl (by decide) (by kernel_rfl) (by kernel_rfl) (by kernel_rfl) (fun _ _ _ h => h) (Or.inl ⟨by rfl, ?_⟩) (by assumption) ?_
    rotate_left 1
    · (intro W hSW; (try dsimp only at hSW); first | (go_simp; done) | (go_simp; with_reducible rfl))
    try simp only [Act.put, List.setIfInBounds_toArray, List.set_cons_zero, List.set_cons_succ]
    refine wpAnyG_ready (rs := [11]) (by kernel_rfl) (by simp) ?_
    refine (AllReadyG.cons (o := { dst := none, op := Op.store 22 (Operand.tmp 28) (Operand.tmp 26), type := 0, pos := "checker.go:70", after := #[{ on := 10, ground := Ground.data }, { on := 8, ground := Ground.data }, { on := 8, ground := Ground.chain }, { on := 0, ground := Ground.phase }, { on := 1, ground := Ground.phase }, { on := 2, ground := Ground.phase }, { on := 3, ground := Ground.phase }, { on := 4, ground := Ground.phase }, { on := 5, ground := Ground.phase }, { on := 6, ground := Ground.phase }, { on := 7, ground := Ground.phase }, { on := 8, ground := Ground.phase }], guard := none }) rfl (fun K hK => ?_) AllReadyG.nil)
    rw [if_pos (by rfl)]
    obtain ⟨s1, s2⟩ := hST6.2
    go_simp
    refine hK.out _ _ ⟨HSS.out _ _ hST6.1, .inl (by rfl)⟩ (fun hHeld => ?_)
    clear hK K
    try simp only [Act.put, List.setIfInBounds_toArray, List.set_cons_zero, List.set_cons_succ]
    refine wpAnyG_done (by kernel_rfl) ?_ _
    have HE : Hid (StM w0 K b (s.1, s.2 ++ [x.2.1]) (N + 1) (w6.setCell ⟨b, 4, none⟩ (.slice rgA (n + 1) rcA))) := Lib.hid (by
      have hBA := HB5.out.later hA
      have hln := HF.out.2.2.1
      have hp : Ok3 w0.heap.size WA (la, lc, x.2.1) := ok3_old HF.out.1.ints hBA.grown
      have e1 : encP (la, lc, x.2.1) = .slice la ln lc := by unfold encP; simp only; rw [hln]
      have hr6 : w6.ownsRow w0.heap.size 34 1 (.slice rgA (n + 1) rcA) (s.2.length + 1) (ps.map encP ++ [encP (la, lc, x.2.1)]) := by
        rw [e1, HF.out.2.2.2.1]; exact hown'
      exact StM.more ⟨_, _, _, hBA.app hp hr6 hgrow6⟩ (Nat.le_succ _))
    clear hHeld hST6 s1 s2 hown' hgrow6 hat6 hST hA hnA haA hdr
    go_wp2_with fail
    go_ret
    exact ⟨rfl, HE.out, HE.out.grown⟩
end Go.Proofs.YtihaheinkpmnnaaGreat

/- Texts of the proof: M7. -/
import Derived.Test.YthkjjiijjedipaaDoorCD27
namespace Go.Proofs.YthkjjiijjedipaaDoor
open Go.RowKit

section
variable {δ : Type}
/-- A row that is being made: its own block, and the spans of its elements. -/
structure Out (cs : δ → List Value) (k : Nat) (P : δ → World → Prop) (w : World) (B : Nat) (e : TypeId) (v : Value) (D : List δ) : Prop where
  own : w.ownsRow B e k v D.length (D.flatMap cs)
  el : ∀ d ∈ D, ∃ lo hi, Span lo hi w (P d) ∧ B ≤ lo ∧ ∀ x, v.ownBlock = some x → x < lo ∨ hi ≤ x
variable {cs : δ → List Value} {k : Nat} {P : δ → World → Prop}
theorem Out.start (w : World) (B : Nat) (e : TypeId) : Out cs k P w B e (.slice none 0 0) [] := ⟨World.ownsRow_nil _ _ _ _, fun d hd => (by cases hd)⟩
theorem Out.quiet {w w' : World} {B : Nat} {e : TypeId} {v : Value} {D : List δ} {r : Option Nat} (h : Out cs k P w B e v D) (hg : w.grownBy w' r) (hr : ∀ x, r = some x → x < B) : Out cs k P w' B e v D := by
  refine ⟨h.own.kept hg ?_, fun d hd => ?_⟩
  · cases r with
    | none => cases hv : v.ownBlock <;> simp
    | some k => exact own_ne h.own (hr k rfl)
  · obtain ⟨lo, hi, hs, hb, hx⟩ := h.el d hd
    exact ⟨lo, hi, hs.off hg (fun x hx => by have := hr x hx; omega), hb, hx⟩
theorem Out.push {w w3 : World} {B : Nat} {e : TypeId} {v v' : Value} {D : List δ} {d : δ} {lo hi : Nat} {o : Obj} (h : Out cs k P w B e v D) (hd : Span lo hi w (P d)) (hB : B ≤ lo)
    (hx : ∀ x, v.ownBlock = some x → x < lo ∨ hi ≤ x) (hown : w3.ownsRow B e k v' (D.length + 1) (D.flatMap cs ++ cs d))
    (hg : (w.alloc o).grownBy w3 v.ownBlock) (hat : v'.ownBlock = v.ownBlock ∨ v'.ownBlock = some (w.alloc o).heap.size) : Out cs k P w3 B e v' (D ++ [d]) := by
  have ga := World.grownBy_alloc w o none
  have key : ∀ (y : δ) (lo hi : Nat), Span lo hi w (P y) → B ≤ lo → (∀ x, v.ownBlock = some x → x < lo ∨ hi ≤ x) → ∃ lo hi, Span lo hi w3 (P y) ∧ B ≤ lo ∧ ∀ x, v'.ownBlock = some x → x < lo ∨ hi ≤ x := by
    intro y lo hi hs hb hx
    refine ⟨lo, hi, (hs.grown ga).off hg hx, hb, fun x e => ?_⟩
    rcases hat with q | q
    · exact hx x (by rw [← q]; exact e)
    · rw [q] at e
      injection e with e
      have := hs.1
      have := ga.size
      omega
  refine ⟨by rw [List.length_append, List.flatMap_append, List.flatMap_cons, List.flatMap_nil, List.append_nil]; exact hown, fun y hy => ?_⟩
  rw [List.mem_append, List.mem_singleton] at hy
  rcases hy with hy | rfl
  · obtain ⟨lo, hi, hs, hb, hx⟩ := h.el y hy
    exact key y lo hi hs hb hx
  · exact key _ lo hi hd hB hx
theorem flat_at (hcs : ∀ d, (cs d).length = k) : ∀ (D : List δ) (j : Nat) (d : δ), D[j]? = some d → ∀ t < k, (D.flatMap cs)[j * k + t]? = (cs d)[t]?
  | [], j, d, h, _, _ => by simp at h
  | e :: D, 0, d, h, t, ht => by
    simp at h; subst h
    rw [List.flatMap_cons, List.getElem?_append_left (by rw [hcs]; omega), Nat.zero_mul, Nat.zero_add]
  | e :: D, j + 1, d, h, t, ht => by
    rw [List.flatMap_cons, List.getElem?_append_right (by rw [hcs, Nat.add_mul]; omega)]
    have := flat_at hcs D j d (by simpa using h) t ht
    rw [← this, hcs]; congr 1; rw [Nat.add_mul]; omega
theorem Out.span {w : World} {B : Nat} {e : TypeId} {v : Value} {D : List δ} (h : Out cs k P w B e v D) (hcs : ∀ d, (cs d).length = k) :
    ∃ a c, v = .slice a D.length c ∧ D.length ≤ c ∧ Span B w.heap.size w (fun W => ∀ (j : Nat) (d : δ), D[j]? = some d → P d W ∧ ∃ g, a = some ⟨g, 0, none⟩ ∧ ∀ t u, (cs d)[t]? = some u → W.cell? ⟨g, 0 + j * k + t, none⟩ = some u) := by
  have hc := @World.ownsRow.cells w B e k v D.length _ h.own
  rcases h.own.2 with ⟨hv, h0⟩ | ⟨g, cap, cur, rfl, hb, hg, hnc, hcm, _⟩
  · have hl : D = [] := List.eq_nil_of_length_eq_zero h0
    subst hl
    exact ⟨none, 0, hv, Nat.le_refl _, Nat.le_refl _, fun W _ j d hj => by simp at hj⟩
  · have hlt := (Array.getElem?_eq_some_iff.1 hg).1
    refine ⟨_, _, rfl, hnc, Nat.le_refl _, fun W hW j d hj => ⟨?_, g, rfl, fun t u hu => ?_⟩⟩
    · obtain ⟨lo, hi, hs, hbl, _⟩ := h.el d (List.mem_of_getElem? hj)
      exact hs.2 W fun b h1 h2 => hW b (by omega) (Nat.lt_of_lt_of_le h2 hs.1)
    · have ht : t < k := by rw [← hcs d]; exact (List.getElem?_eq_some_iff.1 hu).1
      have := hc (g := g) rfl (j * k + t) u (by rw [flat_at hcs D j d hj t ht]; exact hu)
      rw [add_at] at this
      rw [Nat.zero_add, World.cell?_of_block (hW g hb hlt)]; exact this
end

/-- A row of integers that is written in its place. -/
structure IArr (w : World) (b : Nat) (M : List Int) : Prop where
  cells : ∀ (j : Nat) (z : Int), M[j]? = some z → w.cell? ⟨b, j, none⟩ = some (.int .i64 z)
  fr : ∀ o, w.frozen? ⟨b, o, none⟩ = false
  low : b < w.heap.size
theorem IArr.grown {w w' : World} {b : Nat} {M : List Int} {r : Option Nat} (h : IArr w b M) (hg : w.grownBy w' r) (hr : some b ≠ r) : IArr w' b M :=
  ⟨fun j z hj => hg.cell (h.cells j z hj) hr, fun o => (World.frozen?_of_block (a := ⟨b, o, none⟩) (hg.block b h.low hr)).trans (h.fr o), Nat.lt_of_lt_of_le h.low hg.size⟩
theorem IArr.set {w : World} {b : Nat} {M : List Int} (h : IArr w b M) {j : Nat} {z0 : Int} (hj : M[j]? = some z0) (z : Int) : IArr (w.setCell ⟨b, j, none⟩ (.int .i64 z)) b (M.set j z) := by
  have hjl : j < M.length := (List.getElem?_eq_some_iff.1 hj).1
  refine ⟨fun k u hk => ?_, fun o => by rw [World.frozen?_setCell]; exact h.fr o, Nat.lt_of_lt_of_le h.low (grown_set w b j _).size⟩
  by_cases e : k = j
  · subst e
    rw [List.getElem?_set_self hjl] at hk
    cases hk
    exact World.cell?_setCell_same _ _ _ (h.cells k z0 hj)
  · rw [List.getElem?_set_ne (fun e2 => e e2.symm)] at hk
    rw [World.cell?_setCell_other _ _ _ _ (ne_at (fun e2 => e e2.symm))]
    exact h.cells k u hk
theorem IArr.ints {w : World} {b : Nat} {M : List Int} (h : IArr w b M) {c : Nat} (hc : M.length ≤ c) : IntsW w (some ⟨b, 0, none⟩) c M :=
  ⟨hc, .inr ⟨b, 0, rfl, fun j z hj => by rw [Nat.zero_add]; exact h.cells j z hj⟩⟩
theorem made_zero (n j : Nat) (z : Int) (h : (List.replicate n (0 : Int))[j]? = some z) : (madeCells #[.int .i64 0] n)[j]? = some (.int .i64 z) := by
  have hj := (List.getElem?_eq_some_iff.1 h).1
  rw [List.length_replicate] at hj
  rw [List.getElem?_replicate, if_pos hj] at h
  cases h
  unfold madeCells
  rw [Array.getElem?_eq_getElem (by simpa using hj)]
  simp [Nat.mod_one]
theorem IArr.made (w : World) (n : Nat) : IArr (w.alloc (.cells (madeCells #[.int .i64 0] n) 3)) w.heap.size (List.replicate n 0) :=
  ⟨fun j z hj => by rw [World.cell?_alloc_new]; exact made_zero n j z hj, fun o => World.frozen?_alloc_new w _ _ o, by simp⟩

/-- A clause with its row. -/
abbrev Dc := List Int × Option Addr × Nat
def clC (d : Dc) : List Value := [.slice d.2.1 d.1.length d.2.2]
def clP (d : Dc) (W : World) : Prop := IntsW W d.2.1 d.2.2 d.1
abbrev OutC (w : World) (B : Nat) (v : Value) (D : List Dc) : Prop := Out clC 1 clP w B 28 v D
theorem OutC.cls {w : World} {B : Nat} {v : Value} {D : List Dc} (h : OutC w B v D) : ∃ a c, v = .slice a (D.map (·.1)).length c ∧ Span B w.heap.size w (fun W => ClsW W a c (D.map (·.1))) := by
  obtain ⟨a, c, hv, hc, hs⟩ := h.span (fun d => rfl)
  refine ⟨a, c, by rw [List.length_map]; exact hv, hs.1, fun W hW => ⟨by rw [List.length_map]; exact hc, ?_⟩⟩
  have hh := hs.2 W hW
  rcases D with _ | ⟨d0, D⟩
  · exact .inl rfl
  · obtain ⟨_, g, rfl, _⟩ := hh 0 d0 rfl
    refine .inr ⟨g, 0, rfl, fun j z hz => ?_⟩
    rw [List.getElem?_map] at hz
    cases hd : (d0 :: D)[j]? with
    | none => rw [hd] at hz; cases hz
    | some d =>
      rw [hd] at hz
      simp only [Option.map_some, Option.some.injEq] at hz
      subst hz
      obtain ⟨hp, g', e, hcell⟩ := hh j d hd
      cases e
      have h0 := hcell 0 _ rfl
      rw [Nat.mul_one, Nat.add_zero] at h0
      exact ⟨d.2.1, d.2.2, h0, hp⟩
/-- Several elements are put behind. -/
theorem Out.pushL {δ : Type} {cs : δ → List Value} {k : Nat} {P : δ → World → Prop} {w w3 : World} {B : Nat} {e : TypeId} {v v' : Value} {D ds : List δ} (h : Out cs k P w B e v D)
    (hd : ∀ d ∈ ds, ∃ lo hi, Span lo hi w (P d) ∧ B ≤ lo ∧ ∀ x, v.ownBlock = some x → x < lo ∨ hi ≤ x)
    (hown : w3.ownsRow B e k v' (D.length + ds.length) (D.flatMap cs ++ ds.flatMap cs))
    (hg : w.grownBy w3 v.ownBlock) (hat : v'.ownBlock = v.ownBlock ∨ ∀ x, v'.ownBlock = some x → w.heap.size ≤ x) : Out cs k P w3 B e v' (D ++ ds) := by
  have key : ∀ (y : δ) (lo hi : Nat), Span lo hi w (P y) → B ≤ lo → (∀ x, v.ownBlock = some x → x < lo ∨ hi ≤ x) → ∃ lo hi, Span lo hi w3 (P y) ∧ B ≤ lo ∧ ∀ x, v'.ownBlock = some x → x < lo ∨ hi ≤ x := by
    intro y lo hi hs hb hx
    refine ⟨lo, hi, hs.off hg hx, hb, fun x e => ?_⟩
    rcases hat with q | q
    · exact hx x (by rw [← q]; exact e)
    · have := q x e
      have := hs.1
      omega
  refine ⟨by rw [List.length_append, List.flatMap_append]; exact hown, fun y hy => ?_⟩
  rw [List.mem_append] at hy
  rcases hy with hy | hy
  · obtain ⟨lo, hi, hs, hb, hx⟩ := h.el y hy
    exact key y lo hi hs hb hx
  · obtain ⟨lo, hi, hs, hb, hx⟩ := hd y hy
    exact key y lo hi hs hb hx

/-- Where the blocks of the translation lie. -/
structure TsB where
  W0 : World
  pc : Nat
  pf : Nat
  pv : Nat
  pl : Nat
  bv : Nat
  bN : Nat
  B : Nat
  n : Nat
  ga : Option Addr
  gc : Nat
  N : List Bool
/-- They lie apart, below the row. -/
structure TsB.Ok (T : TsB) : Prop where
  lo : T.W0.heap.size ≤ T.pc
  o1 : T.pc < T.pf
  o2 : T.pf < T.bv
  o3 : T.bv < T.pv
  o4 : T.pv < T.pl
  o5 : T.pl < T.bN
  o6 : T.bN < T.B
/-- The translation's state. -/
structure TsS (T : TsB) (wr : World) (k : Int) (V : List Int) (v : Value) (D : List Dc) : Prop where
  grow : T.W0.grownBy wr none
  size : T.B ≤ wr.heap.size
  c0 : wr.cell? ⟨T.pc, 0, none⟩ = some (.slice T.ga T.n T.gc)
  f0 : wr.cell? ⟨T.pf, 0, none⟩ = some (.int .i64 k)
  f1 : wr.cell? ⟨T.pf, 1, none⟩ = some v
  ff : ∀ o, wr.frozen? ⟨T.pf, o, none⟩ = false
  v0 : wr.cell? ⟨T.pv, 0, none⟩ = some (.slice (some ⟨T.bv, 0, none⟩) T.n T.n)
  l0 : wr.cell? ⟨T.pl, 0, none⟩ = some (.func (.func 29) #[] #[.pointer (some ⟨T.pv, 0, none⟩)])
  arr : IArr wr T.bv V
  len : V.length = T.n
  nd : BArr wr T.bN T.N
  row : OutC wr T.B v D
theorem TsS.grown {T : TsB} {wr w' : World} {k : Int} {V : List Int} {v : Value} {D : List Dc} (h : TsS T wr k V v D) (hg : wr.grownBy w' none) : TsS T w' k V v D :=
  ⟨World.grownBy.trans h.grow hg, Nat.le_trans h.size hg.size, hg.cell h.c0 (by simp), hg.cell h.f0 (by simp), hg.cell h.f1 (by simp), fun o => (grown_frozen hg (lies_lt h.f0) o).trans (h.ff o), hg.cell h.v0 (by simp), hg.cell h.l0 (by simp), h.arr.grown hg (by simp), h.len, h.nd.grown hg (by simp), h.row.quiet hg (fun x e => by cases e)⟩
theorem some_ne {p q : Nat} (h : p ≠ q) : some p ≠ some q := fun e => h (Option.some.inj e)
theorem TsS.vars {T : TsB} (hT : T.Ok) {wr : World} {k : Int} {V : List Int} {v : Value} {D : List Dc} (h : TsS T wr k V v D) (k' : Int) : TsS T (wr.setCell ⟨T.pf, 0, none⟩ (.int .i64 k')) k' V v D := by
  have hg := grown_set wr T.pf 0 (.int .i64 k')
  have := hT.lo; have := hT.o1; have := hT.o2; have := hT.o3; have := hT.o4; have := hT.o5; have := hT.o6
  have n1 : T.pc ≠ T.pf := by omega
  have n2 : T.pv ≠ T.pf := by omega
  have n3 : T.pl ≠ T.pf := by omega
  have n4 : T.bv ≠ T.pf := by omega
  have n5 : T.bN ≠ T.pf := by omega
  refine ⟨grown_own h.grow hg (fun x e => by cases e; omega), Nat.le_trans h.size hg.size, hg.cell h.c0 (some_ne n1), World.cell?_setCell_same _ _ _ h.f0, ?_, fun o => by rw [World.frozen?_setCell]; exact h.ff o, hg.cell h.v0 (some_ne n2), hg.cell h.l0 (some_ne n3), h.arr.grown hg (some_ne n4), h.len, h.nd.grown hg (some_ne n5), h.row.quiet hg (fun x e => by cases e; omega)⟩
  rw [World.cell?_setCell_other _ _ _ _ (ne_at (by decide))]; exact h.f1
theorem TsS.put {T : TsB} (hT : T.Ok) {wr : World} {k : Int} {V : List Int} {v : Value} {D : List Dc} (h : TsS T wr k V v D) {i : Nat} (hi : i < T.n) (x : Int) : TsS T (wr.setCell ⟨T.bv, i, none⟩ (.int .i64 x)) k (V.set i x) v D := by
  have hg := grown_set wr T.bv i (.int .i64 x)
  have := hT.lo; have := hT.o1; have := hT.o2; have := hT.o3; have := hT.o4; have := hT.o5; have := hT.o6
  obtain ⟨z, hz⟩ : ∃ z, V[i]? = some z := ⟨_, List.getElem?_eq_getElem (by rw [h.len]; exact hi)⟩
  have n1 : T.pc ≠ T.bv := by omega
  have n2 : T.pf ≠ T.bv := by omega
  have n3 : T.pv ≠ T.bv := by omega
  have n4 : T.pl ≠ T.bv := by omega
  have n5 : T.bN ≠ T.bv := by omega
  exact ⟨grown_own h.grow hg (fun y e => by cases e; omega), Nat.le_trans h.size hg.size, hg.cell h.c0 (some_ne n1), hg.cell h.f0 (some_ne n2), hg.cell h.f1 (some_ne n2), fun o => by rw [World.frozen?_setCell]; exact h.ff o, hg.cell h.v0 (some_ne n3), hg.cell h.l0 (some_ne n4), h.arr.set hz x, by rw [List.length_set]; exact h.len, h.nd.grown hg (some_ne n5), h.row.quiet hg (fun y e => by cases e; omega)⟩
/-- Clauses are put behind, and stored. -/
theorem TsS.push {T : TsB} (hT : T.Ok) {wr WA w3 : World} {k : Int} {V : List Int} {v v' : Value} {D ds : List Dc} (h : TsS T wr k V v D) (ha : wr.grownBy WA none)
    (hd : ∀ d ∈ ds, ∃ lo hi, Span lo hi WA (clP d) ∧ wr.heap.size ≤ lo)
    (hown : w3.ownsRow T.B 28 1 v' (D.length + ds.length) (D.flatMap clC ++ ds.flatMap clC))
    (hg : WA.grownBy w3 v.ownBlock) (hat : v'.ownBlock = v.ownBlock ∨ v'.ownBlock = some WA.heap.size) : TsS T (w3.setCell ⟨T.pf, 1, none⟩ v') k V v' (D ++ ds) := by
  have := hT.lo; have := hT.o1; have := hT.o2; have := hT.o3; have := hT.o4; have := hT.o5; have := hT.o6
  have hA := h.grown ha
  have hge : ∀ x, v.ownBlock = some x → T.B ≤ x ∧ x < wr.heap.size := fun x e => h.row.own.lt x e
  have ne : ∀ {x : Nat}, x < T.B → some x ≠ v.ownBlock := fun {x} hx e => by have := (hge x e.symm).1; omega
  have hs := grown_set w3 T.pf 1 v'
  have n1 : T.pc ≠ T.pf := by omega
  have n2 : T.pv ≠ T.pf := by omega
  have n3 : T.pl ≠ T.pf := by omega
  have n4 : T.bv ≠ T.pf := by omega
  have n5 : T.bN ≠ T.pf := by omega
  have frz : ∀ o, w3.frozen? ⟨T.pf, o, none⟩ = false := fun o => (World.frozen?_of_block (a := ⟨T.pf, o, none⟩) (hg.block T.pf (lies_lt hA.f0) (ne (x := T.pf) (by omega)))).trans (hA.ff o)
  have hf1 := hg.cell hA.f1 (ne (by show T.pf < T.B; omega))
  refine ⟨grown_own (grown_own hA.grow hg (fun x e => by have := (hge x e).1; omega)) hs (fun x e => by cases e; omega), Nat.le_trans hA.size (Nat.le_trans hg.size hs.size),
    hs.cell (hg.cell hA.c0 (ne (by show T.pc < T.B; omega))) (some_ne n1), ?_, World.cell?_setCell_same _ _ _ hf1, fun o => by rw [World.frozen?_setCell]; exact frz o,
    hs.cell (hg.cell hA.v0 (ne (by show T.pv < T.B; omega))) (some_ne n2), hs.cell (hg.cell hA.l0 (ne (by show T.pl < T.B; omega))) (some_ne n3), (hA.arr.grown hg (ne (x := T.bv) (by omega))).grown hs (some_ne n4), h.len, (hA.nd.grown hg (ne (x := T.bN) (by omega))).grown hs (some_ne n5), ?_⟩
  · rw [World.cell?_setCell_other _ _ _ _ (ne_at (by decide))]
    exact hg.cell hA.f0 (ne (by show T.pf < T.B; omega))
  · refine Out.quiet (Out.pushL hA.row (fun d hm => ?_) hown hg ?_) hs (fun x e => by cases e; omega)
    · obtain ⟨lo, hi, h1, h2⟩ := hd d hm
      exact ⟨lo, hi, h1, Nat.le_trans h.size h2, fun x e => .inl (by have := (hge x e).2; omega)⟩
    · rcases hat with q | q
      · exact .inl q
      · exact .inr (fun x e => by rw [q] at e; injection e with e; omega)

def vget (V : List Int) (q : Nat) : Int := (V[q]?).getD 0
def litV' (V : List Int) (r : Int) : Int := if r % 2 = 1 then -(vget V (r / 2).toNat) else vget V (r / 2).toNat
set_option maxHeartbeats 1000000 in
theorem literal_calls (V : List Int) (pv bv n : Nat) (r : Int) (w : World) (hp : w.cell? ⟨pv, 0, none⟩ = some (.slice (some ⟨bv, 0, none⟩) n n)) (hv : IArr w bv V) (hl : V.length = n) (hn : n ≤ 1000) (hr : 0 ≤ r ∧ r < 2 * (n : Int)) (hb : ∀ x ∈ V, -1000000 ≤ x ∧ x ≤ 1000000) :
    Calls Tryd.prog 29 #[.int .i64 r, .pointer (some ⟨pv, 0, none⟩)] w fun e w' => e = .returned (.int .i64 (litV' V r)) ∧ w' = w := by
  obtain ⟨q, hq⟩ : ∃ q : Nat, r / 2 = (q : Int) := ⟨(r / 2).toNat, by omega⟩
  have hqn : (q : Int) < (n : Int) := by omega
  have hq0 : (0 : Int) ≤ (q : Int) := by omega
  obtain ⟨z, hz⟩ : ∃ z, V[q]? = some z := ⟨_, List.getElem?_eq_getElem (by rw [hl]; omega)⟩
  have hzb := hb z (List.mem_of_getElem? hz)
  have c0 := hv.cells q z hz
  have HV : Hid (litV' V r = if r % 2 = 1 then -z else z) := Lib.hid (by unfold litV' vget; rw [hq, Int.toNat_natCast, hz]; rfl)
  have hd : Int.tdiv r 2 = (q : Int) := by rw [Int.tdiv_eq_ediv_of_nonneg hr.1, hq]
  have hwq : IntKind.i64.wrap (q : Int) = (q : Int) := IntWalk.i64_in _ (by omega)
  have hm : Int.tmod r 2 = r % 2 := Int.tmod_eq_emod_of_nonneg hr.1
  have hnz : IntKind.i64.wrap (-z) = -z := IntWalk.i64_in _ (by omega)
  rcases Int.emod_two_eq r with e | e
  · have hm2 : Int.tmod r 2 = 0 := by rw [hm, e]
    have HR : Hid (litV' V r = z) := Lib.hid (by rw [HV.out, if_neg (by omega)])
    clear HV hm e hq hz hv
    go_enter Tryd.func29, Tryd.ntmps29
    go_wp2_with fail
    go_ret
    exact ⟨by rw [HR.out]; rfl, rfl⟩
  · have hm2 : Int.tmod r 2 = 1 := by rw [hm, e]
    have HR : Hid (litV' V r = -z) := Lib.hid (by rw [HV.out, if_pos e])
    clear HV hm e hq hz hv
    go_enter Tryd.func29, Tryd.ntmps29
    go_wp2_with fail
    go_ret
    exact ⟨by rw [HR.out]; rfl, rfl⟩
end Go.Proofs.YthkjjiijjedipaaDoor

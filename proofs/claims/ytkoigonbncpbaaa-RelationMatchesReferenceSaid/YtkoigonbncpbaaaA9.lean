/- Ported from stages 7 and 9: UF TP TW. -/
import Derived.Test.YtkoigonbncpbaaaA8
namespace Go.Proofs.Ytkoigonbncpbaaa
open Go.RowKit

theorem own_ne {w : World} {B b : Nat} {e : TypeId} {size n : Nat} {v : Value} {xs : List Value} (h : w.ownsRow B e size v n xs) (hb : b < B) : v.ownBlock = none ∨ v.ownBlock ≠ some b := by
  cases hv : v.ownBlock with
  | none => exact .inl rfl
  | some k => have := (h.lt k hv).1; exact .inr (by simp; omega)

/-- An append of one element, where the order of a region is drawn. -/
theorem ready_append_g {ops : Array Oper} {o : Oper} {a : Act} {Q : Exit → Act → World → Prop} {K' : Act → World → Prop} {w : World} (t e : TypeId) (s x : Operand) (hgd : o.guard = none)
    (ho : o.op = .call { callee := .builtin .append, args := #[s, x], argTypes := #[t, t] }) {i0 : TypeInfo} {z : Value} {k bytes : Nat} (hund : Try.prog.underlying t = some (.slice e)) (hi0 : Try.prog.info? e = some i0) (hz0 : i0.zero = some z) (hz1 : i0.size = k) (hz2 : i0.bytes = bytes) (hzc : z.cells.size = k) (hk : 0 < k) (hb : bytes ≤ 1000000)
    (base : Nat) (v : Value) (n : Nat) (xs : List Value) (hs : a.eval s = v) (hown : w.ownsRow base e k v n xs)
    (ad : Addr) (us : List Value) (hl : us.length = k) (hx : a.eval x = .slice (some ad) 1 1) (hnews : ∀ j u, us[j]? = some u → w.cell? (ad.add j) = some u) (h1 : ∀ u ∈ us, u.oneCell' = true)
    (h63 : n ≤ 1000000) (hbase : base ≤ w.heap.size)
    (h : ∀ v' w', w'.ownsRow base e k v' (n + 1) (xs ++ us) → w.grownBy w' v.ownBlock → (v'.ownBlock = v.ownBlock ∨ v'.ownBlock = some w.heap.size) → K' (a.put o.dst v') w') :
    if Region.wanted o (yielded ops a.tmps) = true then Oper.wp Try.prog o a w K' Q else K' (a.put o.dst undef) w := by
  have hbn : (n + 1) * bytes ≤ 140737488355328 := Nat.le_trans (Nat.mul_le_mul (show n + 1 ≤ 1000001 by omega) hb) (by omega)
  obtain ⟨v', w', hr, h2, h3, h4, h5⟩ := run_append_own_at (P := Try.prog) w base t o.type e i0 z k bytes hund hi0 hz0 hz1 hz2 hzc hk v n xs hown ad 1 1 us (by rw [hl, Nat.one_mul]) hnews h1 (by unfold maxLen; omega) hbn hbase
  have hw : Region.wanted o (yielded ops a.tmps) = true := by simp only [Region.wanted, hgd]
  rw [if_pos hw]
  unfold Oper.wp execOp
  simp only [ho, resolve, invoke, builtin, Sem.run_bind, Sem.run_pure, Result.andThen_ok, List.map_toArray, List.map_cons, List.map_nil, hs, hx, hr]
  exact h v' w' h2 h3 h5

structure RowBox (Bs : Nat) (wr : World) (b : Nat) (k : Int) (v : Value) (s : List Int) : Prop where
  row : wr.cell? ⟨b, 1, none⟩ = some v
  own : wr.ownsRow Bs 3 1 v s.length (intCells s)
  c0 : wr.cell? ⟨b, 0, none⟩ = some (.int .i64 k)
  fr : wr.frozen? ⟨b, 1, none⟩ = false
  low : b < Bs ∧ Bs ≤ wr.heap.size
theorem RowBox.new (w : World) (k : Int) {Bs : Nat} (hB : Bs = w.heap.size + 1) : RowBox Bs (w.alloc (.cells #[.int .i64 k, .slice none 0 0] 27)) w.heap.size k (.slice none 0 0) [] :=
  ⟨by go_simp, World.ownsRow_nil _ _ _ _, by go_simp, by go_simp, by rw [hB]; simp⟩
theorem RowBox.more {Bs Bs' : Nat} {wr : World} {b : Nat} {k : Int} (h : RowBox Bs wr b k (.slice none 0 0) []) (h1 : Bs ≤ Bs') (h2 : Bs' ≤ wr.heap.size) : RowBox Bs' wr b k (.slice none 0 0) [] :=
  ⟨h.row, World.ownsRow_nil _ _ _ _, h.c0, h.fr, by have := h.low; omega, h2⟩
theorem RowBox.grown {Bs : Nat} {wr w' : World} {b : Nat} {k : Int} {v : Value} {s : List Int} (h : RowBox Bs wr b k v s) (g : wr.grownBy w' none) : RowBox Bs w' b k v s :=
  ⟨g.cell h.row (by simp), own_grown h.own g, g.cell h.c0 (by simp), (grown_frozen g (lies_lt h.c0) 1).trans h.fr, h.low.1, Nat.le_trans h.low.2 g.size⟩
/-- Behind the append, before the store. -/
theorem RowBox.at_ {Bs : Nat} {wr WA w3 : World} {b : Nat} {k : Int} {v : Value} {s : List Int} (h : RowBox Bs wr b k v s) (ha : wr.grownBy WA none) (hg : WA.grownBy w3 v.ownBlock) :
    w3.cell? ⟨b, 1, none⟩ = some v ∧ w3.frozen? ⟨b, 1, none⟩ = false := by
  have hne : some b ≠ v.ownBlock := fun e => by have := (h.own.lt b e.symm).1; have := h.low; omega
  have hlt := lies_lt h.row
  have e1 := ha.block b hlt (by simp)
  have e2 := hg.block b (Nat.lt_of_lt_of_le hlt ha.size) hne
  exact ⟨hg.cell (ha.cell h.row (by simp)) hne, (World.frozen?_of_block (a := ⟨b, 1, none⟩) (e2.trans e1)).trans h.fr⟩
theorem RowBox.step {Bs : Nat} {wr WA w3 : World} {b : Nat} {k : Int} {v v' : Value} {s : List Int} {x : Int} (h : RowBox Bs wr b k v s) (ha : wr.grownBy WA none) (hg : WA.grownBy w3 v.ownBlock)
    (hown' : w3.ownsRow Bs 3 1 v' (s.length + 1) (intCells s ++ [.int .i64 x])) : RowBox Bs (w3.setCell ⟨b, 1, none⟩ v') b k v' (s ++ [x]) := by
  have hlow := h.low
  have hne : some b ≠ v.ownBlock := fun e => by have := (h.own.lt b e.symm).1; omega
  obtain ⟨h1, h2⟩ := h.at_ ha hg
  refine ⟨World.cell?_setCell_same' _ _ _ (by rw [h1]; rfl), ?_, ?_, by rw [World.frozen?_setCell]; exact h2, hlow.1, ?_⟩
  · rw [List.length_append, intCells, List.map_append]; exact hown'.kept (grown_set _ _ _ _) (own_ne hown' (by omega))
  · rw [World.cell?_setCell_other _ _ _ _ (by intro e; injection e with _ e1; omega)]; exact hg.cell (ha.cell h.c0 (by simp)) hne
  · have := ha.size; have := hg.size; simp [World.setCell]; omega
/-- What grows: from a world that lies below the boxes. -/
theorem RowBox.grows {Bs : Nat} {w0 wr WA w3 : World} {b : Nat} {k : Int} {v v' : Value} {s : List Int} (h : RowBox Bs wr b k v s) (hw : w0.grownBy wr none) (h0 : w0.heap.size ≤ b) (ha : wr.grownBy WA none) (hg : WA.grownBy w3 v.ownBlock) : w0.grownBy (w3.setCell ⟨b, 1, none⟩ v') none :=
  grown_own (grown_own (hw.trans ha) hg (fun j hj => by have := (h.own.lt j hj).1; have := h.low; omega)) (grown_set _ _ _ _) (fun j hj => by cases hj; exact h0)
theorem RowBox.grows2 {Bs : Nat} {w0 wr WA w3 : World} {b : Nat} {k : Int} {v v' : Value} {s s' : List Int} (h : RowBox Bs wr b k v s) (_hst : RowBox Bs (w3.setCell ⟨b, 1, none⟩ v') b k v' s') (hw : w0.grownBy wr none) (h0 : w0.heap.size ≤ b) (ha : wr.grownBy WA none) (hg : WA.grownBy w3 v.ownBlock) : w0.grownBy (w3.setCell ⟨b, 1, none⟩ v') none :=
  h.grows hw h0 ha hg
theorem RowBox.ints {Bs : Nat} {wr : World} {b : Nat} {k : Int} {v : Value} {s : List Int} (h : RowBox Bs wr b k v s) : ∃ a c, v = .slice a s.length c ∧ Span Bs wr.heap.size wr (fun W => Ints W a c s) := ints_span h.own

end Go.Proofs.Ytkoigonbncpbaaa

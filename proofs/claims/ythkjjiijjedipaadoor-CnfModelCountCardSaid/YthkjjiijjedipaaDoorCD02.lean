/- Texts of the proof: G1 G2 G3 G4. -/
import Derived.Test.YthkjjiijjedipaaDoorCD01
import Derived.Laws.StructEq
namespace Go.Proofs.YthkjjiijjedipaaDoor
open Go.RowKit

theorem not26_calls (r : Int) (w : World) (h2 : r ≤ 9223372036854775807) : Calls Tryd.prog 18 #[.int .i64 r] w fun e w' => e = .returned (.int .i64 (notR r)) ∧ w' = w := by
  by_cases h0 : r < 0
  · have f : decide (r < 0) = true := decide_eq_true h0
    have HN := Lib.hid (show notR r = -1 by unfold notR; rw [if_pos h0])
    clear h0
    go_enter Tryd.func18, Tryd.ntmps18
    go_wp2_with fail
    go_ret
    exact ⟨by rw [HN.out]; rfl, rfl⟩
  · have f : decide (r < 0) = false := decide_eq_false h0
    obtain ⟨x, rfl⟩ : ∃ x : Nat, r = (x : Int) := ⟨r.toNat, by omega⟩
    by_cases h3 : x % 2 = 0
    · have hm : (x : Int).tmod 2 = 0 := by rw [Int.tmod_eq_emod_of_nonneg (by omega)]; omega
      have hw : IntKind.i64.wrap ((x : Int) + 1) = (x : Int) + 1 := IntWalk.i64_in _ (by omega)
      have HN := Lib.hid (notR_even (r := (x : Int)) (by omega) (by omega))
      go_enter Tryd.func18, Tryd.ntmps18
      go_wp2_with fail
      go_ret
      exact ⟨by rw [HN.out]; rfl, rfl⟩
    · have hm : (x : Int).tmod 2 = 1 := by rw [Int.tmod_eq_emod_of_nonneg (by omega)]; omega
      have hw : IntKind.i64.wrap ((x : Int) - 1) = (x : Int) - 1 := IntWalk.i64_in _ (by omega)
      have HN := Lib.hid (notR_odd (r := (x : Int)) (by omega) (by omega))
      go_enter Tryd.func18, Tryd.ntmps18
      go_wp2_with fail
      go_ret
      exact ⟨by rw [HN.out]; rfl, rfl⟩
end Go.Proofs.YthkjjiijjedipaaDoor

namespace Go.Proofs.YthkjjiijjedipaaDoor
open Go.RowKit

theorem eqI3 (d : Nat) (x y : Int) (w : World) : (Op.equalIn (d + 1) 3 (.int .i64 x) (.int .i64 y)).run Tryd.prog w = .ok (x == y) w := by
  rw [Op.equalIn]
  simp [go_sem]
set_option maxHeartbeats 4000000 in
theorem eqd47 (d : Nat) (x0 x1 x2 y0 y1 y2 : Int) (w : World) : (Op.equalIn (d + 1 + 1) 58 (.agg #[.int .i64 x0, .int .i64 x1, .int .i64 x2]) (.agg #[.int .i64 y0, .int .i64 y1, .int .i64 y2])).run Tryd.prog w = .ok (decide ((x0, x1, x2) = (y0, y1, y2))) w := by
  rw [Op.equalIn]
  simp only [Sem.run_bind, run_underlying Tryd.underlying58, Result.andThen_ok]
  have hst : Tryd.prog.stoodInHeld 58 = false := by kernel_rfl
  have hp : ∀ W : World, (program).run Tryd.prog W = .ok Tryd.prog W := fun W => rfl
  simp only [hp, Result.andThen_ok, hst, Bool.false_eq_true, if_false]
  have he := fun (x y : Int) (W : World) => eqI3 d x y W
  by_cases h0 : x0 = y0
  · by_cases h1 : x1 = y1
    · simp [part, go_sem, h0, h1, he]
      by_cases h2 : x2 = y2 <;> simp [h2]
    · simp [part, go_sem, h0, h1, he]
  · simp [part, go_sem, h0, he]
theorem eq47 (g h : Gt) (w : World) : (Op.equalIn 10000 58 (gv g) (gv h)).run Tryd.prog w = .ok (decide (g = h)) w := eqd47 9998 g.1 g.2.1 g.2.2 h.1 h.2.1 h.2.2 w
end Go.Proofs.YthkjjiijjedipaaDoor

namespace Go.Proofs.YthkjjiijjedipaaDoor
open Go.RowKit

def locI (x : Gt) (gs : List Gt) : Int := match locG x gs with | some i => (i : Int) | none => -1
theorem grown_any {w w' : World} (h : w.grownBy w' none) (r : Option Nat) : w.grownBy w' r := ⟨h.os, h.tape, h.output, h.size, fun k hk _ => h.block k hk (by simp)⟩
def GRow (B p : Nat) (w : World) (owned : Bool) (va : Option Addr) (vc : Nat) (gs : List Gt) : Prop :=
  if owned = true then w.ownsRow B 58 3 (.slice va gs.length vc) gs.length (gateCells gs) else Span 0 p w (fun W => GatesW W va vc gs)
/-- A growing circuit in a box. -/
structure Grow (B p : Nat) (w : World) (owned : Bool) (va : Option Addr) (vc : Nat) (gs : List Gt) (vis : Int) : Prop where
  c0 : w.cell? ⟨p, 0, none⟩ = some (.slice va gs.length vc)
  c1 : w.cell? ⟨p, 1, none⟩ = some (.bool owned)
  c2 : w.cell? ⟨p, 2, none⟩ = some (.map none)
  c3 : w.cell? ⟨p, 3, none⟩ = some (.int .i64 vis)
  fr : ∀ o, w.frozen? ⟨p, o, none⟩ = false
  low : p < B ∧ B ≤ w.heap.size
  row : GRow B p w owned va vc gs
theorem GRow.gates {B p : Nat} {w : World} {owned : Bool} {va : Option Addr} {vc : Nat} {gs : List Gt} (h : GRow B p w owned va vc gs) : GatesW w va vc gs := by
  unfold GRow at h
  cases owned with
  | true =>
    obtain ⟨a, c, e, hs⟩ := gates_span (show w.ownsRow B 58 3 (.slice va gs.length vc) gs.length (gateCells gs) from by simpa using h)
    cases e
    exact hs.here
  | false => exact (show Span 0 p w (fun W => GatesW W va vc gs) from by simpa using h).here
theorem GRow.off {B p : Nat} {w w' : World} {owned : Bool} {va : Option Addr} {vc : Nat} {gs : List Gt} {r : Option Nat} (h : GRow B p w owned va vc gs) (hg : w.grownBy w' r) (hr : ∀ x, r = some x → x = p) (hp : p < B) : GRow B p w' owned va vc gs := by
  unfold GRow at h ⊢
  cases owned with
  | true =>
    simp only [if_true] at h ⊢
    refine h.kept hg ?_
    cases hv : (Value.slice va gs.length vc).ownBlock with
    | none => exact .inl rfl
    | some k =>
      have h1 := (h.lt k hv).1
      exact .inr (fun e => by have := hr k e.symm; omega)
  | false =>
    simp only [Bool.false_eq_true, if_false] at h ⊢
    exact h.off hg fun x e => .inr (by have := hr x e; omega)
theorem Grow.grown {B p : Nat} {w w' : World} {owned : Bool} {va : Option Addr} {vc : Nat} {gs : List Gt} {vis : Int} (h : Grow B p w owned va vc gs vis) (hg : w.grownBy w' none) : Grow B p w' owned va vc gs vis :=
  ⟨hg.cell h.c0 (by simp), hg.cell h.c1 (by simp), hg.cell h.c2 (by simp), hg.cell h.c3 (by simp), fun o => (grown_frozen hg (lies_lt h.c0) o).trans (h.fr o), ⟨h.low.1, Nat.le_trans h.low.2 hg.size⟩, h.row.off hg (fun x e => by cases e) h.low.1⟩
theorem ne_at {p i j : Nat} (h : i ≠ j) : (⟨p, i, none⟩ : Addr) ≠ ⟨p, j, none⟩ := fun e => by injection e with _ e; exact h e
theorem gate_cells (w : World) (g : Gt) : GateAt (w.alloc (.cells #[.int .i64 g.1, .int .i64 g.2.1, .int .i64 g.2.2] 58)) w.heap.size 0 g := ⟨by go_simp, by go_simp, by go_simp⟩
theorem locI_none {gs : List Gt} {x : Gt} (h : ∀ i : Nat, gs[i]? ≠ some x) : locI x gs = -1 := by
  unfold locI
  cases hl : locG x gs with
  | none => rfl
  | some j => exact absurd (locG_some hl) (h j)

end Go.Proofs.YthkjjiijjedipaaDoor

namespace Go.Proofs.YthkjjiijjedipaaDoor
open Go.RowKit

theorem gates_news {w : World} {ad : Addr} {c : Nat} {news : List Gt} (hi : GatesW w (some ad) c news) : ∀ j u, (gateCells news)[j]? = some u → w.cell? (ad.add j) = some u := by
  intro j u hj
  have hlt : j < news.length * 3 := by rw [← gateCells_len]; exact (List.getElem?_eq_some_iff.1 hj).1
  obtain ⟨g, hg⟩ : ∃ g, news[j / 3]? = some g := ⟨_, List.getElem?_eq_getElem (by omega)⟩
  obtain ⟨b, o, e, h0, h1, h2⟩ := hi.at hg
  cases e
  have hadd : (⟨b, o, none⟩ : Addr).add j = ⟨b, o + j, none⟩ := by unfold Addr.add; split <;> simp_all
  obtain ⟨e0, e1, e2⟩ := gateCells_at hg
  rw [hadd]
  rcases (show j % 3 = 0 ∨ j % 3 = 1 ∨ j % 3 = 2 by omega) with h | h | h
  · rw [show j / 3 * 3 = j by omega] at e0 h0
    rw [e0] at hj; cases hj; exact h0
  · rw [show j / 3 * 3 + 1 = j by omega] at e1
    rw [e1] at hj; cases hj
    rw [show o + j = o + j / 3 * 3 + 1 by omega]; exact h1
  · rw [show j / 3 * 3 + 2 = j by omega] at e2
    rw [e2] at hj; cases hj
    rw [show o + j = o + j / 3 * 3 + 2 by omega]; exact h2
theorem gates_oneCell {news : List Gt} : ∀ u ∈ gateCells news, u.oneCell' = true := by
  intro u hu
  obtain ⟨g, _, hg⟩ := List.mem_flatMap.1 hu
  simp at hg
  rcases hg with rfl | rfl | rfl <;> rfl
theorem gateCells_app (l m : List Gt) : gateCells (l ++ m) = gateCells l ++ gateCells m := List.flatMap_append
theorem run_append_nilG {w : World} {base n : Nat} {v : Value} {xs : List Value} (hown : w.ownsRow base 58 3 v n xs) (ty : TypeId) (c : Nat) : (Builtin.append_ #[25, 25] ty #[v, .slice none 0 c]).run Tryd.prog w = .ok v w := by
  obtain ⟨i0, hi, hz0, hz1, hz2⟩ := info_parts infoG
  rcases hown.2 with ⟨rfl, rfl⟩ | ⟨g, cap, cur, rfl, _, _, hnc, _⟩
  · simp [Builtin.append_, run_underlying Tryd.underlying25, sizeOf, typeInfo, hi, Builtin.lenOf, Builtin.firstCells]
  · simp [Builtin.append_, run_underlying Tryd.underlying25, sizeOf, typeInfo, hi, Builtin.lenOf, Builtin.firstCells, hnc, storeCells]
theorem run_append_gates (base : Nat) (ty : TypeId) {v : Value} {n : Nat} {l : List Gt} {w : World} (hown : w.ownsRow base 58 3 v n (gateCells l)) {xa : Option Addr} {m c : Nat} {news : List Gt} (hm : news.length = m) (hi : GatesW w xa c news)
    (h63 : n + m ≤ 100000) (hbase : base ≤ w.heap.size) :
    ∃ v' w', (Builtin.append_ #[25, 25] ty #[v, .slice xa m c]).run Tryd.prog w = .ok v' w' ∧ w'.ownsRow base 58 3 v' (n + m) (gateCells (l ++ news)) ∧ w.grownBy w' v.ownBlock ∧ (v'.ownBlock = v.ownBlock ∨ v'.ownBlock = some w.heap.size) := by
  obtain ⟨i0, hi0, hz0, hz1, hz2⟩ := info_parts infoG
  cases xa with
  | none =>
    obtain rfl : news = [] := by
      rcases hi.2 with h0 | ⟨_, _, e, _⟩
      · exact h0
      · cases e
    obtain rfl : 0 = m := hm
    exact ⟨v, w, run_append_nilG hown ty c, by rw [List.append_nil]; exact hown, grown_refl _ _, .inl rfl⟩
  | some ad =>
    obtain ⟨v', w', hr, h2, h3, _, h5⟩ := run_append_own_at (P := Tryd.prog) w base 25 ty 58 i0 (.agg #[.int .i64 0, .int .i64 0, .int .i64 0]) 3 24 Tryd.underlying25 hi0 hz0 hz1 hz2 rfl (by decide) v n (gateCells l) hown ad m c (gateCells news) (by rw [gateCells_len, hm]) (gates_news hi) gates_oneCell (by unfold maxLen; omega) (by omega) hbase
    exact ⟨v', w', hr, by rw [gateCells_app]; exact h2, h3, h5⟩
/-- The append elsewhere. -/
theorem append_gates {ops : Array Oper} {rest : List Oper} {o : Oper} {a : Act} {Q : Exit → Act → World → Prop} {w : World} (hgd : o.guard = none) (s x : Operand)
    (ho : o.op = .call { callee := .builtin .append, args := #[s, x], argTypes := #[25, 25] })
    (base : Nat) (v : Value) (n : Nat) (l : List Gt) (hs : a.eval s = v) (hown : w.ownsRow base 58 3 v n (gateCells l))
    (xa : Option Addr) (m c : Nat) (news : List Gt) (hx : a.eval x = .slice xa m c) (hm : news.length = m) (hi : GatesW w xa c news)
    (h63 : n + m ≤ 100000) (hbase : base ≤ w.heap.size)
    (h : ∀ v' w', w'.ownsRow base 58 3 v' (n + m) (gateCells (l ++ news)) → w.grownBy w' v.ownBlock → wpList Tryd.prog ops Q rest (a.put o.dst v') w') : wpList Tryd.prog ops Q (o :: rest) a w := by
  refine wpList_plain hgd fun K' hK' => ?_
  obtain ⟨v', w', hr, h2, h3, h5⟩ := run_append_gates base o.type hown hm hi h63 hbase
  unfold Oper.wp execOp
  simp only [ho, resolve, invoke, builtin, Sem.run_bind, Sem.run_pure, Result.andThen_ok, List.map_toArray, List.map_cons, List.map_nil, hs, hx, hr]
  exact hK' _ _ (h v' w' h2 h3)

end Go.Proofs.YthkjjiijjedipaaDoor

/- Texts of the proof: G4 GC E1 M1 M2 K0. -/
import Derived.Test.YthkjjiijjedipaaDoorCA00
namespace Go.Proofs.YthkjjiijjedipaaDoor
open Go.RowKit

theorem gates_news {w : World} {ad : Addr} {c : Nat} {news : List Gt} (hi : GatesW w (some ad) c news) : ∀ j u, (gateCells news)[j]? = some u → w.cell? (ad.add j) = some u := by
  intro j u hj
  have hlt : j < news.length * 3 := by rw [← gateCells_len]; exact (List.getElem?_eq_some_iff.1 hj).1
  obtain ⟨g, hg⟩ : ∃ g, news[j / 3]? = some g := ⟨_, List.getElem?_eq_getElem (by omega)⟩
  obtain ⟨b, o, e, h0, h1, h2⟩ := hi.at hg
  cases e
  have hadd : (⟨b, o, none⟩ : Addr).add j = ⟨b, o + j, none⟩ := by unfold Addr.add; split <;> simp_all
  obtain ⟨e0, e1, e2⟩ := gateCells_at hg
  rw [hadd]
  rcases (show j % 3 = 0 ∨ j % 3 = 1 ∨ j % 3 = 2 by omega) with h | h | h
  · rw [show j / 3 * 3 = j by omega] at e0 h0
    rw [e0] at hj; cases hj; exact h0
  · rw [show j / 3 * 3 + 1 = j by omega] at e1
    rw [e1] at hj; cases hj
    rw [show o + j = o + j / 3 * 3 + 1 by omega]; exact h1
  · rw [show j / 3 * 3 + 2 = j by omega] at e2
    rw [e2] at hj; cases hj
    rw [show o + j = o + j / 3 * 3 + 2 by omega]; exact h2
theorem gates_oneCell {news : List Gt} : ∀ u ∈ gateCells news, u.oneCell' = true := by
  intro u hu
  obtain ⟨g, _, hg⟩ := List.mem_flatMap.1 hu
  simp at hg
  rcases hg with rfl | rfl | rfl <;> rfl
theorem gateCells_app (l m : List Gt) : gateCells (l ++ m) = gateCells l ++ gateCells m := List.flatMap_append
theorem run_append_nilG {w : World} {base n : Nat} {v : Value} {xs : List Value} (hown : w.ownsRow base 58 3 v n xs) (ty : TypeId) (c : Nat) : (Builtin.append_ #[25, 25] ty #[v, .slice none 0 c]).run Tryd.prog w = .ok v w := by
  obtain ⟨i0, hi, hz0, hz1, hz2⟩ := info_parts infoG
  rcases hown.2 with ⟨rfl, rfl⟩ | ⟨g, cap, cur, rfl, _, _, hnc, _⟩
  · simp [Builtin.append_, run_underlying Tryd.underlying25, sizeOf, typeInfo, hi, Builtin.lenOf, Builtin.firstCells]
  · simp [Builtin.append_, run_underlying Tryd.underlying25, sizeOf, typeInfo, hi, Builtin.lenOf, Builtin.firstCells, hnc, storeCells]
theorem run_append_gates (base : Nat) (ty : TypeId) {v : Value} {n : Nat} {l : List Gt} {w : World} (hown : w.ownsRow base 58 3 v n (gateCells l)) {xa : Option Addr} {m c : Nat} {news : List Gt} (hm : news.length = m) (hi : GatesW w xa c news)
    (h63 : n + m ≤ 100000) (hbase : base ≤ w.heap.size) :
    ∃ v' w', (Builtin.append_ #[25, 25] ty #[v, .slice xa m c]).run Tryd.prog w = .ok v' w' ∧ w'.ownsRow base 58 3 v' (n + m) (gateCells (l ++ news)) ∧ w.grownBy w' v.ownBlock ∧ (v'.ownBlock = v.ownBlock ∨ v'.ownBlock = some w.heap.size) := by
  obtain ⟨i0, hi0, hz0, hz1, hz2⟩ := info_parts infoG
  cases xa with
  | none =>
    obtain rfl : news = [] := by
      rcases hi.2 with h0 | ⟨_, _, e, _⟩
      · exact h0
      · cases e
    obtain rfl : 0 = m := hm
    exact ⟨v, w, run_append_nilG hown ty c, by rw [List.append_nil]; exact hown, grown_refl _ _, .inl rfl⟩
  | some ad =>
    obtain ⟨v', w', hr, h2, h3, _, h5⟩ := run_append_own_at (P := Tryd.prog) w base 25 ty 58 i0 (.agg #[.int .i64 0, .int .i64 0, .int .i64 0]) 3 24 Tryd.underlying25 hi0 hz0 hz1 hz2 rfl (by decide) v n (gateCells l) hown ad m c (gateCells news) (by rw [gateCells_len, hm]) (gates_news hi) gates_oneCell (by unfold maxLen; omega) (by omega) hbase
    exact ⟨v', w', hr, by rw [gateCells_app]; exact h2, h3, h5⟩
/-- The append elsewhere. -/
theorem append_gates {ops : Array Oper} {rest : List Oper} {o : Oper} {a : Act} {Q : Exit → Act → World → Prop} {w : World} (hgd : o.guard = none) (s x : Operand)
    (ho : o.op = .call { callee := .builtin .append, args := #[s, x], argTypes := #[25, 25] })
    (base : Nat) (v : Value) (n : Nat) (l : List Gt) (hs : a.eval s = v) (hown : w.ownsRow base 58 3 v n (gateCells l))
    (xa : Option Addr) (m c : Nat) (news : List Gt) (hx : a.eval x = .slice xa m c) (hm : news.length = m) (hi : GatesW w xa c news)
    (h63 : n + m ≤ 100000) (hbase : base ≤ w.heap.size)
    (h : ∀ v' w', w'.ownsRow base 58 3 v' (n + m) (gateCells (l ++ news)) → w.grownBy w' v.ownBlock → wpList Tryd.prog ops Q rest (a.put o.dst v') w') : wpList Tryd.prog ops Q (o :: rest) a w := by
  refine wpList_plain hgd fun K' hK' => ?_
  obtain ⟨v', w', hr, h2, h3, h5⟩ := run_append_gates base o.type hown hm hi h63 hbase
  unfold Oper.wp execOp
  simp only [ho, resolve, invoke, builtin, Sem.run_bind, Sem.run_pure, Result.andThen_ok, List.map_toArray, List.map_cons, List.map_nil, hs, hx, hr]
  exact hK' _ _ (h v' w' h2 h3)

end Go.Proofs.YthkjjiijjedipaaDoor

namespace Go.Proofs.YthkjjiijjedipaaDoor
open Go.RowKit

theorem addG_some {gs : List Gt} {x : Gt} {i : Nat} (h : locG x gs = some i) : addG gs x = (gs, 2 * (i : Int)) := by unfold addG; rw [h]
theorem addG_none {gs : List Gt} {x : Gt} (h : locG x gs = none) (hl : gs.length < 20000) : addG gs x = (gs ++ [x], 2 * (gs.length : Int)) := by unfold addG; rw [h]; simp only; rw [if_neg (by omega)]
theorem locI_nat {gs : List Gt} {x : Gt} {i : Nat} (h : locG x gs = some i) : locI x gs = (i : Int) := by unfold locI; rw [h]
theorem locI_neg {gs : List Gt} {x : Gt} (h : locG x gs = none) : locI x gs = -1 := by unfold locI; rw [h]
theorem gate_news {w : World} {b : Nat} {x : Gt} (h : GateAt w b 0 x) (ht : Ty47 w b) : GatesW w (some ⟨b, 0, none⟩) 1 [x] := ⟨Nat.le_refl _, .inr ⟨b, 0, rfl, ht, fun j g hj => by
  cases j with
  | zero => simp at hj; subst hj; exact h
  | succ j => simp at hj⟩⟩
theorem GateAt.moved {w w' : World} {b o : Nat} {g : Gt} {r : Option Nat} (h : GateAt w b o g) (hg : w.grownBy w' r) (hr : some b ≠ r) : GateAt w' b o g := ⟨hg.cell h.1 hr, hg.cell h.2.1 hr, hg.cell h.2.2 hr⟩
theorem beqT {a b : Int} (h : a = b) : (a == b) = true := by simp [h]
theorem beqF {a b : Int} (h : ¬ a = b) : (a == b) = false := by simp [h]
theorem and_le {gs : List Gt} {a b : Int} (ha : a ≤ 9223372036854775807) (hb : b ≤ 9223372036854775807) (hl : gs.length ≤ 10000) : (andC gs a b).2 ≤ 9223372036854775807 := by
  unfold andC
  split
  · simp
  · split
    · simp
    · split
      · exact hb
      · split
        · exact ha
        · unfold addG
          split
          · rename_i i h
            have := (List.getElem?_eq_some_iff.1 (locG_some h)).1
            simp only
            omega
          · split
            · simp
            · simp only; omega
theorem notR_le {r : Int} (h : r ≤ 9223372036854775807) : notR r ≤ 9223372036854775807 := by unfold notR; split <;> (try split) <;> omega
theorem one_cell (w : World) (u : Value) (s : TypeId) : w.heap.size < (w.alloc (.cells #[u] s)).heap.size ∧ (w.alloc (.cells #[u] s)).cell? ⟨w.heap.size, 0, none⟩ = some u ∧ (w.alloc (.cells #[u] s)).frozen? ⟨w.heap.size, 0, none⟩ = false :=
  ⟨by simp, by go_simp, by go_simp⟩
def CirV (w : World) (v : Value) (gs : List Gt) : Prop := ∃ a c, v = .agg #[.slice a gs.length c] ∧ GatesW w a c gs
theorem CirV.grown {w w' : World} {v : Value} {gs : List Gt} (h : CirV w v gs) (hg : w.grownBy w' none) : CirV w' v gs := by
  obtain ⟨a, c, e, h⟩ := h
  exact ⟨a, c, e, h.grown hg⟩
structure GoodTo (gs : List Gt) (k : Nat) : Prop where
  form : ∀ (i : Nat) (g : Gt), i < k → gs[i + 1]? = some g → formG g (i + 1)
  one : ∀ (i j : Nat) (g : Gt), i < k → j < k → gs[i + 1]? = some g → gs[j + 1]? = some g → i = j
theorem GoodTo.start (gs : List Gt) : GoodTo gs 0 := ⟨fun i g h => by omega, fun i j g h => by omega⟩
theorem GoodTo.good {gs : List Gt} (h0 : gs[0]? = some (0, 0, 0)) {k : Nat} (hk : gs.length = k + 1) (h : GoodTo gs k) : Good gs := by
  have hpos : ∀ (i : Nat) (g : Gt), gs[i]? = some g → i < k + 1 := fun i g e => by have := (List.getElem?_eq_some_iff.1 e).1; omega
  have hne : ∀ (i : Nat) (g : Gt), i < k → gs[i + 1]? = some g → gs[0]? = some g → False := fun i g hi e e0 => by
    rw [h0] at e0; cases e0
    rcases h.form i _ hi e with h1 | h1 <;> simp at h1
  refine ⟨h0, fun i g hi e => ?_, fun i j g h1 h2 => ?_⟩
  · obtain ⟨i', rfl⟩ : ∃ i', i = i' + 1 := ⟨i - 1, by omega⟩
    exact h.form i' g (by have := hpos _ _ e; omega) e
  · have b1 := hpos _ _ h1
    have b2 := hpos _ _ h2
    cases i with
    | zero =>
      cases j with
      | zero => rfl
      | succ j => exact (hne j g (by omega) h2 h1).elim
    | succ i =>
      cases j with
      | zero => exact (hne i g (by omega) h1 h2).elim
      | succ j => rw [h.one i j g (by omega) (by omega) h1 h2]
theorem GoodTo.of {gs : List Gt} (h : Good gs) (k : Nat) : GoodTo gs k :=
  ⟨fun i g _ e => h.form (i + 1) g (by omega) e, fun i j g _ _ h1 h2 => by have := h.one _ _ _ h1 h2; omega⟩
theorem GoodTo.step {gs : List Gt} {k : Nat} {g : Gt} (h : GoodTo gs k) (hg : gs[k + 1]? = some g) (hf : formG g (k + 1)) (hn : g ∉ (gs.drop 1).take k) : GoodTo gs (k + 1) := by
  have hin : ∀ j, j < k → gs[j + 1]? = some g → False := fun j hj e => hn (List.mem_of_getElem? (show ((gs.drop 1).take k)[j]? = some g by rw [List.getElem?_take_of_lt hj, List.getElem?_drop, Nat.add_comm 1 j]; exact e))
  refine ⟨fun i g' hi e => ?_, fun i j g' hi hj h1 h2 => ?_⟩
  · by_cases hik : i = k
    · subst hik; rw [hg] at e; cases e; exact hf
    · exact h.form i g' (by omega) e
  · by_cases hik : i = k
    · subst hik
      rw [hg] at h1; cases h1
      by_cases hjk : j = i
      · exact hjk.symm
      · exact (hin j (by omega) h2).elim
    · by_cases hjk : j = k
      · subst hjk
        rw [hg] at h2; cases h2
        exact (hin i (by omega) h1).elim
      · exact h.one i j g' (by omega) (by omega) h1 h2
end Go.Proofs.YthkjjiijjedipaaDoor

namespace Go.Proofs.YthkjjiijjedipaaDoor
open Go.RowKit

abbrev boolCells (l : List Bool) : List Value := l.map Value.bool
/-- A row of truth values that is read: where it is empty, nothing is known of its place. -/
def BoolsW (w : World) (a : Option Addr) (c : Nat) (zs : List Bool) : Prop :=
  zs.length ≤ c ∧ (zs = [] ∨ ∃ b o, a = some ⟨b, o, none⟩ ∧ ∀ (j : Nat) (z : Bool), zs[j]? = some z → w.cell? ⟨b, o + j, none⟩ = some (.bool z))
theorem BoolsW.grown {w w' : World} {a : Option Addr} {c : Nat} {zs : List Bool} (h : BoolsW w a c zs) (hg : w.grownBy w' none) : BoolsW w' a c zs := by
  obtain ⟨hc, h | ⟨b, o, ha, hz⟩⟩ := h
  · exact ⟨hc, .inl h⟩
  · exact ⟨hc, .inr ⟨b, o, ha, fun j z hj => hg.cell (hz j z hj) (by simp)⟩⟩
theorem BoolsW.at {w : World} {a : Option Addr} {c : Nat} {zs : List Bool} (h : BoolsW w a c zs) {i : Nat} {z : Bool} (hz : zs[i]? = some z) : ∃ b o, a = some ⟨b, o, none⟩ ∧ w.cell? ⟨b, o + i, none⟩ = some (.bool z) := by
  obtain ⟨_, h | ⟨b, o, ha, hc⟩⟩ := h
  · rw [h] at hz; simp at hz
  · exact ⟨b, o, ha, hc i z hz⟩
theorem boolsW_nil (w : World) (a : Option Addr) (c : Nat) : BoolsW w a c [] := ⟨Nat.zero_le _, .inl rfl⟩
theorem info4 : (Tryd.prog.info? 4).map (fun i => (i.zero, i.size, i.bytes)) = some (some (.bool false), 1, 1) := by kernel_rfl
theorem bools_span {w : World} {B : Nat} {v : Value} {l : List Bool} (h : w.ownsRow B 4 1 v l.length (boolCells l)) : ∃ a c, v = .slice a l.length c ∧ Span B w.heap.size w (fun W => BoolsW W a c l) := by
  have hc := @World.ownsRow.cells w B 4 1 v l.length _ h
  rcases h.2 with ⟨hv, h0⟩ | ⟨g, cap, cur, rfl, hb, hg, hnc, hcm, _⟩
  · have hl : l = [] := List.eq_nil_of_length_eq_zero h0
    subst hl
    exact ⟨none, 0, hv, Nat.le_refl _, fun W _ => boolsW_nil W _ _⟩
  · have hlt := (Array.getElem?_eq_some_iff.1 hg).1
    refine ⟨_, _, rfl, Nat.le_refl _, fun W hW => ⟨hnc, .inr ⟨g, 0, rfl, fun j z hj => ?_⟩⟩⟩
    have := hc (g := g) rfl j (.bool z) (by rw [boolCells, List.getElem?_map, hj]; rfl)
    rw [add_at] at this
    rw [Nat.zero_add, World.cell?_of_block (hW g hb hlt)]; exact this
/-- An append of one element, where the order of a region is drawn. -/
theorem ready_append_g {ops : Array Oper} {o : Oper} {a : Act} {Q : Exit → Act → World → Prop} {K' : Act → World → Prop} {w : World} (t e : TypeId) (s x : Operand) (hgd : o.guard = none)
    (ho : o.op = .call { callee := .builtin .append, args := #[s, x], argTypes := #[t, t] }) {i0 : TypeInfo} {z : Value} {k bytes : Nat} (hund : Tryd.prog.underlying t = some (.slice e)) (hi0 : Tryd.prog.info? e = some i0) (hz0 : i0.zero = some z) (hz1 : i0.size = k) (hz2 : i0.bytes = bytes) (hzc : z.cells.size = k) (hk : 0 < k) (hb : bytes ≤ 1000000)
    (base : Nat) (v : Value) (n : Nat) (xs : List Value) (hs : a.eval s = v) (hown : w.ownsRow base e k v n xs)
    (ad : Addr) (us : List Value) (hl : us.length = k) (hx : a.eval x = .slice (some ad) 1 1) (hnews : ∀ j u, us[j]? = some u → w.cell? (ad.add j) = some u) (h1 : ∀ u ∈ us, u.oneCell' = true)
    (h63 : n ≤ 1000000) (hbase : base ≤ w.heap.size)
    (h : ∀ v' w', w'.ownsRow base e k v' (n + 1) (xs ++ us) → w.grownBy w' v.ownBlock → (v'.ownBlock = v.ownBlock ∨ v'.ownBlock = some w.heap.size) → K' (a.put o.dst v') w') :
    if Region.wanted o (yielded ops a.tmps) = true then Oper.wp Tryd.prog o a w K' Q else K' (a.put o.dst undef) w := by
  have hbn : (n + 1) * bytes ≤ 140737488355328 := Nat.le_trans (Nat.mul_le_mul (show n + 1 ≤ 1000001 by omega) hb) (by omega)
  obtain ⟨v', w', hr, h2, h3, h4, h5⟩ := run_append_own_at (P := Tryd.prog) w base t o.type e i0 z k bytes hund hi0 hz0 hz1 hz2 hzc hk v n xs hown ad 1 1 us (by rw [hl, Nat.one_mul]) hnews h1 (by unfold maxLen; omega) hbn hbase
  have hw : Region.wanted o (yielded ops a.tmps) = true := by simp only [Region.wanted, hgd]
  rw [if_pos hw]
  unfold Oper.wp execOp
  simp only [ho, resolve, invoke, builtin, Sem.run_bind, Sem.run_pure, Result.andThen_ok, List.map_toArray, List.map_cons, List.map_nil, hs, hx, hr]
  exact h v' w' h2 h3 h5
/-- A box of one cell that holds a row of truth values. -/
structure KnownBox (B p : Nat) (w : World) (va : Option Addr) (vc : Nat) (kn : List Bool) : Prop where
  c0 : w.cell? ⟨p, 0, none⟩ = some (.slice va kn.length vc)
  fr : w.frozen? ⟨p, 0, none⟩ = false
  own : w.ownsRow B 4 1 (.slice va kn.length vc) kn.length (boolCells kn)
  low : B ≤ p ∧ p < w.heap.size
  ne : (Value.slice va kn.length vc).ownBlock ≠ some p
theorem KnownBox.grown {B p : Nat} {w w' : World} {va : Option Addr} {vc : Nat} {kn : List Bool} (h : KnownBox B p w va vc kn) (hg : w.grownBy w' none) : KnownBox B p w' va vc kn :=
  ⟨hg.cell h.c0 (by simp), (grown_frozen hg (lies_lt h.c0) 0).trans h.fr, own_grown h.own hg, ⟨h.low.1, Nat.lt_of_lt_of_le h.low.2 hg.size⟩, h.ne⟩
theorem KnownBox.bools {B p : Nat} {w : World} {va : Option Addr} {vc : Nat} {kn : List Bool} (h : KnownBox B p w va vc kn) : BoolsW w va vc kn := by
  obtain ⟨a, c, e, hs⟩ := bools_span h.own
  cases e
  exact hs.here
/-- Behind the append, before the store. -/
theorem KnownBox.at_ {B p : Nat} {w WA w3 : World} {va : Option Addr} {vc : Nat} {kn : List Bool} (h : KnownBox B p w va vc kn) (ha : w.grownBy WA none) (hg : WA.grownBy w3 (Value.slice va kn.length vc).ownBlock) :
    w3.cell? ⟨p, 0, none⟩ = some (.slice va kn.length vc) ∧ w3.frozen? ⟨p, 0, none⟩ = false := by
  have h2 := h.grown ha
  have hne : some p ≠ (Value.slice va kn.length vc).ownBlock := fun e => h.ne e.symm
  exact ⟨hg.cell h2.c0 hne, (World.frozen?_of_block (a := ⟨p, 0, none⟩) (hg.block p h2.low.2 hne)).trans h2.fr⟩
theorem KnownBox.step {B p : Nat} {w WA w3 : World} {va a : Option Addr} {vc c m : Nat} {kn : List Bool} {x : Bool} (h : KnownBox B p w va vc kn) (ha : w.grownBy WA none) (hg : WA.grownBy w3 (Value.slice va kn.length vc).ownBlock) (hm : kn.length + 1 = m)
    (hown : w3.ownsRow B 4 1 (.slice a m c) m (boolCells kn ++ [.bool x])) (hat : (Value.slice a m c).ownBlock = (Value.slice va kn.length vc).ownBlock ∨ (Value.slice a m c).ownBlock = some WA.heap.size) : KnownBox B p (w3.setCell ⟨p, 0, none⟩ (.slice a m c)) a c (kn ++ [x]) := by
  subst hm
  obtain ⟨h1, h2⟩ := h.at_ ha hg
  have hpA : p < WA.heap.size := Nat.lt_of_lt_of_le h.low.2 ha.size
  have hp3 : p < w3.heap.size := Nat.lt_of_lt_of_le hpA hg.size
  have hne : (Value.slice a (kn.length + 1) c).ownBlock ≠ some p := by
    rcases hat with e | e
    · rw [e]; exact h.ne
    · rw [e]; intro e2; injection e2 with e2; omega
  have hl : (kn ++ [x]).length = kn.length + 1 := by simp
  refine ⟨by rw [hl]; exact World.cell?_setCell_same _ _ _ h1, by rw [World.frozen?_setCell]; exact h2, ?_, ⟨h.low.1, Nat.lt_of_lt_of_le hp3 (grown_set _ _ _ _).size⟩, by rw [hl]; exact hne⟩
  rw [hl, boolCells, List.map_append]
  refine hown.kept (grown_set _ _ _ _) ?_
  cases hv : (Value.slice a (kn.length + 1) c).ownBlock with
  | none => exact .inl rfl
  | some k => exact .inr (fun e => hne (by rw [hv, e]))
/-- What a round of Eval must leave: nothing old has turned, and the gate that is looked at lies in its box. -/
structure Safe (w0 : World) (bg : Nat) (g : Gt) (w : World) : Prop where
  grow : w0.grownBy w none
  gate : GateAt w bg 0 g
theorem Safe.next {w0 w w' : World} {bg : Nat} {g : Gt} (h : Safe w0 bg g w) (hg : w.grownBy w' none) : Safe w0 bg g w' := ⟨World.grownBy.trans h.grow hg, h.gate.grown hg⟩
theorem Safe.own {w0 w w' : World} {bg : Nat} {g : Gt} {r : Option Nat} (h : Safe w0 bg g w) (hg : w.grownBy w' r) (h1 : ∀ k, r = some k → w0.heap.size ≤ k) (h2 : some bg ≠ r) : Safe w0 bg g w' := ⟨grown_own h.grow hg h1, h.gate.moved hg h2⟩

set_option maxHeartbeats 1000000 in
theorem value_calls (r : Int) (B p : Nat) (va : Option Addr) (vc : Nat) (kn : List Bool) (w : World) (h : KnownBox B p w va vc kn) (hl : kn.length ≤ 2000) (hr : r ≤ 9223372036854775807) :
    Calls Tryd.prog 43 #[.int .i64 r, .pointer (some ⟨p, 0, none⟩)] w fun e w' => e = .returned (.bool (litV kn r)) ∧ w' = w := by
  by_cases h0 : 0 ≤ r
  · have f0 : decide (0 ≤ r) = true := decide_eq_true h0
    have hq : Int.tdiv r 2 = r / 2 := Int.tdiv_eq_ediv_of_nonneg (by omega)
    have hm : Int.tmod r 2 = r % 2 := Int.tmod_eq_emod_of_nonneg (by omega)
    have hw : IntKind.i64.wrap (r / 2) = r / 2 := IntWalk.i64_in _ (by omega)
    have hw2 : IntKind.i64.wrap (r % 2) = r % 2 := IntWalk.i64_in _ (by omega)
    obtain ⟨n, hn⟩ : ∃ n, kn.length = n := ⟨_, rfl⟩
    have k0 := h.c0
    rw [hn] at k0
    by_cases h1 : r / 2 < (n : Int)
    · obtain ⟨q, hqq⟩ : ∃ q : Nat, r / 2 = (q : Int) := ⟨(r / 2).toNat, by omega⟩
      obtain ⟨v, hv⟩ : ∃ v, kn[q]? = some v := ⟨_, List.getElem?_eq_getElem (by rw [hn]; omega)⟩
      obtain ⟨ba, oa, rfl, x0⟩ := h.bools.at hv
      have HE := Lib.hid (show litV kn r = (v != decide (r % 2 = 1)) by unfold litV; rw [decide_eq_true h0, hqq, Int.toNat_natCast, hv]; rfl)
      rw [hqq] at hq hw h1
      have f1 : decide ((q : Int) < (n : Int)) = true := decide_eq_true h1
      have hq0 : (0 : Int) ≤ (q : Int) := by omega
      clear hqq hn h h0 hv
      go_enter Tryd.func43, Tryd.ntmps43
      go_wp2_with fail
      go_ret
      exact ⟨by rw [HE.out]; rfl, rfl⟩
    · have f1 : decide (r / 2 < (n : Int)) = false := decide_eq_false h1
      have HE := Lib.hid (show litV kn r = false by unfold litV; rw [List.getElem?_eq_none (by omega)]; simp)
      clear h h1 h0 hn
      go_enter Tryd.func43, Tryd.ntmps43
      go_wp2_with fail
      go_ret
      exact ⟨by rw [HE.out]; rfl, rfl⟩
  · have f0 : decide (0 ≤ r) = false := decide_eq_false h0
    have HE := Lib.hid (show litV kn r = false by unfold litV; rw [f0]; rfl)
    clear h0
    go_enter Tryd.func43, Tryd.ntmps43
    go_wp2_with fail
    go_ret
    exact ⟨by rw [HE.out]; rfl, rfl⟩
end Go.Proofs.YthkjjiijjedipaaDoor

namespace Go.Proofs.YthkjjiijjedipaaDoor
open Go.RowKit

theorem list_ne {α : Type} {xs ys : List α} {i : Nat} {x y : α} (hx : xs[i]? = some x) (hy : ys[i]? = some y) (h : x ≠ y) : xs ≠ ys := by
  rintro rfl; rw [hx] at hy; cases hy; exact h rfl
theorem list_eq {α : Type} {xs ys : List α} {n : Nat} (hx : xs.length = n) (hy : ys.length = n) (h : ∀ j, j < n → xs[j]? = ys[j]?) : xs = ys := by
  apply List.ext_getElem?
  intro j
  by_cases hj : j < n
  · exact h j hj
  · rw [List.getElem?_eq_none (by omega), List.getElem?_eq_none (by omega)]
theorem agree_step {α : Type} {xs ys : List α} {i : Nat} (h : ∀ j, j < i → xs[j]? = ys[j]?) (hi : xs[i]? = ys[i]?) : ∀ j, j < i + 1 → xs[j]? = ys[j]? := by
  intro j hj
  by_cases hji : j < i
  · exact h j hji
  · have : j = i := by omega
    subst this; exact hi
/-- A row of clauses that is read. -/
def ClsW (w : World) (a : Option Addr) (c : Nat) (l : List (List Int)) : Prop :=
  l.length ≤ c ∧ (l = [] ∨ ∃ b o, a = some ⟨b, o, none⟩ ∧ ∀ (j : Nat) (z : List Int), l[j]? = some z → ∃ a' c', w.cell? ⟨b, o + j, none⟩ = some (.slice a' z.length c') ∧ IntsW w a' c' z)
theorem ClsW.grown {w w' : World} {a : Option Addr} {c : Nat} {l : List (List Int)} (h : ClsW w a c l) (hg : w.grownBy w' none) : ClsW w' a c l := by
  obtain ⟨h1, h | ⟨b, o, h2, h3⟩⟩ := h
  · exact ⟨h1, .inl h⟩
  · exact ⟨h1, .inr ⟨b, o, h2, fun j z hz => by obtain ⟨a', c', h4, h5⟩ := h3 j z hz; exact ⟨a', c', hg.cell h4 (by simp), h5.grown hg⟩⟩⟩
theorem ClsW.at {w : World} {a : Option Addr} {c : Nat} {l : List (List Int)} (h : ClsW w a c l) {i : Nat} {z : List Int} (hz : l[i]? = some z) : ∃ b o a' c', a = some ⟨b, o, none⟩ ∧ w.cell? ⟨b, o + i, none⟩ = some (.slice a' z.length c') ∧ IntsW w a' c' z := by
  obtain ⟨h1, h | ⟨b, o, h2, h3⟩⟩ := h
  · subst h; simp at hz
  · obtain ⟨a', c', h4, h5⟩ := h3 i z hz
    exact ⟨b, o, a', c', h2, h4, h5⟩
theorem clsW_nil (w : World) (a : Option Addr) (c : Nat) : ClsW w a c [] := ⟨Nat.zero_le _, .inl rfl⟩
/-- A formula as a value. -/
abbrev cnfV (v : Int) (a : Option Addr) (n c : Nat) : Value := .agg #[.int .i64 v, .slice a n c]

set_option maxHeartbeats 1000000 in
theorem sameInts_calls (xs ys : List Int) (a a' : Option Addr) (c c' : Nat) (w : World) (h : IntsW w a c xs) (h' : IntsW w a' c' ys) (hl : xs.length ≤ 100000) :
    Calls Tryd.prog 19 #[.slice a xs.length c, .slice a' ys.length c'] w fun e w' => e = .returned (.bool (decide (xs = ys))) ∧ ∃ q, w' = w.drewN q := by
  obtain ⟨n, hn⟩ : ∃ n, xs.length = n := ⟨_, rfl⟩
  obtain ⟨m, hm⟩ : ∃ m, ys.length = m := ⟨_, rfl⟩
  rw [hn] at hl ⊢
  rw [hm]
  have HN := Lib.hid (And.intro hn hm)
  have HH := Lib.hid (And.intro h h'); clear h h'
  by_cases hnm : n = m
  · have hB : ((n : Int) != (m : Int)) = false := by simp; omega
    subst hnm
    clear hn hm
    go_enter Tryd.func19, Tryd.ntmps19
    go_wp2
    go_loopg [5] n (fun g s5 wr => ∃ i : Nat, s5 = .int .i64 (i : Int) ∧ g = n - i ∧ i ≤ n ∧ (∀ j, j < i → xs[j]? = ys[j]?) ∧ ∃ q, wr = w.drewN q)
    case atStart => exact ⟨0, rfl, rfl, Nat.zero_le _, fun j hj => absurd hj (Nat.not_lt_zero _), 0, rfl⟩
    case round =>
      obtain ⟨i, rfl, hgi, hi, hok, q, rfl⟩ := hrel
      have HGI := Lib.hid (And.intro hgi hok); clear hgi hok
      by_cases hin : i < n
      · have hinB : decide (i < n) = true := by simpa using hin
        have hinI : (i : Int) < (n : Int) := by omega
        obtain ⟨x, hx⟩ : ∃ x, xs[i]? = some x := ⟨_, List.getElem?_eq_getElem (by rw [HN.out.1]; exact hin)⟩
        obtain ⟨y, hy⟩ : ∃ y, ys[i]? = some y := ⟨_, List.getElem?_eq_getElem (by rw [HN.out.2]; exact hin)⟩
        obtain ⟨b, o, rfl, c0⟩ := HH.out.1.at hx
        obtain ⟨b', o', rfl, d0⟩ := HH.out.2.at hy
        have HX := Lib.hid (And.intro hx hy); clear hx hy
        by_cases hk : x = y
        · have k1 : (x != y) = false := by simpa using hk
          subst hk
          go_wp2
          go_quiet (fail)
          go_wp2
          go_roundg (n - (i + 1))
          case measure => rw [HGI.out.1]; omega
          case rel => exact ⟨i + 1, rfl, rfl, by omega, agree_step HGI.out.2 (by rw [HX.out.1, HX.out.2]), _, rfl⟩
        · have k1 : (x != y) = true := by simpa using hk
          have HR : Hid (decide (xs = ys) = false) := Lib.hid (decide_eq_false (list_ne HX.out.1 HX.out.2 hk))
          clear hk
          go_wp2
          go_quiet (fail)
          go_wp2
          go_ret
          exact ⟨by rw [HR.out]; rfl, _, World.drewN_drewN _ _ _⟩
      · have hie : i = n := by omega
        subst hie
        have hinB : decide (i < i) = false := by simp
        have HR : Hid (decide (xs = ys) = true) := Lib.hid (decide_eq_true (list_eq HN.out.1 HN.out.2 HGI.out.2))
        go_wp2
        go_ret
        exact ⟨by rw [HR.out]; rfl, _, rfl⟩
  · have hB : ((n : Int) != (m : Int)) = true := by simp; omega
    have HR : Hid (decide (xs = ys) = false) := Lib.hid (decide_eq_false (by rintro rfl; omega))
    clear hn hm
    go_enter Tryd.func19, Tryd.ntmps19
    go_wp2
    go_ret
    exact ⟨by rw [HR.out]; rfl, 0, rfl⟩

set_option maxHeartbeats 1000000 in
theorem sameBools_calls (xs ys : List Bool) (a a' : Option Addr) (c c' : Nat) (w : World) (h : BoolsW w a c xs) (h' : BoolsW w a' c' ys) (hl : xs.length ≤ 100000) :
    Calls Tryd.prog 17 #[.slice a xs.length c, .slice a' ys.length c'] w fun e w' => e = .returned (.bool (decide (xs = ys))) ∧ ∃ q, w' = w.drewN q := by
  obtain ⟨n, hn⟩ : ∃ n, xs.length = n := ⟨_, rfl⟩
  obtain ⟨m, hm⟩ : ∃ m, ys.length = m := ⟨_, rfl⟩
  rw [hn] at hl ⊢
  rw [hm]
  have HN := Lib.hid (And.intro hn hm)
  have HH := Lib.hid (And.intro h h'); clear h h'
  by_cases hnm : n = m
  · have hB : ((n : Int) != (m : Int)) = false := by simp; omega
    subst hnm
    clear hn hm
    go_enter Tryd.func17, Tryd.ntmps17
    go_wp2
    go_loopg [5] n (fun g s5 wr => ∃ i : Nat, s5 = .int .i64 (i : Int) ∧ g = n - i ∧ i ≤ n ∧ (∀ j, j < i → xs[j]? = ys[j]?) ∧ ∃ q, wr = w.drewN q)
    case atStart => exact ⟨0, rfl, rfl, Nat.zero_le _, fun j hj => absurd hj (Nat.not_lt_zero _), 0, rfl⟩
    case round =>
      obtain ⟨i, rfl, hgi, hi, hok, q, rfl⟩ := hrel
      have HGI := Lib.hid (And.intro hgi hok); clear hgi hok
      by_cases hin : i < n
      · have hinB : decide (i < n) = true := by simpa using hin
        have hinI : (i : Int) < (n : Int) := by omega
        obtain ⟨x, hx⟩ : ∃ x, xs[i]? = some x := ⟨_, List.getElem?_eq_getElem (by rw [HN.out.1]; exact hin)⟩
        obtain ⟨y, hy⟩ : ∃ y, ys[i]? = some y := ⟨_, List.getElem?_eq_getElem (by rw [HN.out.2]; exact hin)⟩
        obtain ⟨b, o, rfl, c0⟩ := HH.out.1.at hx
        obtain ⟨b', o', rfl, d0⟩ := HH.out.2.at hy
        have HX := Lib.hid (And.intro hx hy); clear hx hy
        by_cases hk : x = y
        · have k1 : (x != y) = false := by simpa using hk
          subst hk
          go_wp2
          go_quiet (fail)
          go_wp2
          go_roundg (n - (i + 1))
          case measure => rw [HGI.out.1]; omega
          case rel => exact ⟨i + 1, rfl, rfl, by omega, agree_step HGI.out.2 (by rw [HX.out.1, HX.out.2]), _, rfl⟩
        · have k1 : (!(x == y)) = true := by simpa using hk
          have HR : Hid (decide (xs = ys) = false) := Lib.hid (decide_eq_false (list_ne HX.out.1 HX.out.2 hk))
          clear hk
          go_wp2
          go_quiet (fail)
          go_wp2
          go_ret
          exact ⟨by rw [HR.out]; rfl, _, World.drewN_drewN _ _ _⟩
      · have hie : i = n := by omega
        subst hie
        have hinB : decide (i < i) = false := by simp
        have HR : Hid (decide (xs = ys) = true) := Lib.hid (decide_eq_true (list_eq HN.out.1 HN.out.2 HGI.out.2))
        go_wp2
        go_ret
        exact ⟨by rw [HR.out]; rfl, _, rfl⟩
  · have hB : ((n : Int) != (m : Int)) = true := by simp; omega
    have HR : Hid (decide (xs = ys) = false) := Lib.hid (decide_eq_false (by rintro rfl; omega))
    clear hn hm
    go_enter Tryd.func17, Tryd.ntmps17
    go_wp2
    go_ret
    exact ⟨by rw [HR.out]; rfl, 0, rfl⟩

theorem inputs_calls (m : Nat) (hm : m < 256) (w : World) : Calls Tryd.prog 11 #[.int .u8 (m : Int)] w fun e w' => e = .returned (.int .i64 ((8 + m % 4 : Nat) : Int)) ∧ w' = w := by
  have h1 : IntKind.i64.wrap (m : Int) = (m : Int) := IntWalk.i64_in _ (by omega)
  have h2 : (m : Int).tmod 4 = ((m % 4 : Nat) : Int) := by rw [Int.tmod_eq_emod_of_nonneg (by omega)]; omega
  have h3 : IntKind.i64.wrap ((m % 4 : Nat) : Int) = ((m % 4 : Nat) : Int) := IntWalk.i64_in _ (by omega)
  have h4 : IntKind.i64.wrap (8 + ((m % 4 : Nat) : Int)) = 8 + ((m % 4 : Nat) : Int) := IntWalk.i64_in _ (by omega)
  obtain ⟨r, hr⟩ : ∃ r, m % 4 = r := ⟨_, rfl⟩
  rw [hr] at h2 h3 h4 ⊢
  go_enter Tryd.func11, Tryd.ntmps11
  go_wp2
  go_ret
  exact ⟨rfl, rfl⟩
end Go.Proofs.YthkjjiijjedipaaDoor

namespace Go.Proofs.YthkjjiijjedipaaDoor
open Go.RowKit

def litOk (v x : Int) : Bool := decide (x ≠ 0) && decide (x ≤ v) && decide (-v ≤ x)
def litsOk (v : Int) (l : List (List Int)) : Bool := l.all fun z => z.all (litOk v)
theorem litOk_zero (v : Int) : litOk v 0 = false := by simp [litOk]
theorem litOk_gt {v x : Int} (h : v < x) : litOk v x = false := by simp [litOk]; omega
theorem litOk_lt {v x : Int} (h : x < -v) : litOk v x = false := by simp [litOk]; omega
theorem litOk_yes {v x : Int} (h0 : ¬ x = 0) (h1 : ¬ v < x) (h2 : ¬ x < -v) : litOk v x = true := by simp [litOk]; omega
theorem all_step {α : Type} {p : α → Bool} {l : List α} {i : Nat} {x : α} (h : ∀ y ∈ l.take i, p y = true) (hx : l[i]? = some x) (hp : p x = true) : ∀ y ∈ l.take (i + 1), p y = true := fun y hy => by
  rw [List.take_add_one, hx, Option.toList_some, List.mem_append] at hy
  rcases hy with hy | hy
  · exact h y hy
  · rw [List.mem_singleton] at hy; subst hy; exact hp
theorem all_end {α : Type} {p : α → Bool} {l : List α} {n : Nat} (hn : l.length = n) (h : ∀ y ∈ l.take n, p y = true) : l.all p = true := by
  rw [List.take_of_length_le (by omega)] at h
  exact List.all_eq_true.2 h
theorem all_not {α : Type} {p : α → Bool} {l : List α} {i : Nat} {x : α} (hx : l[i]? = some x) (hp : p x = false) : l.all p = false :=
  List.all_eq_false.2 ⟨x, List.mem_of_getElem? hx, by rw [hp]; simp⟩

set_option maxRecDepth 100000 in
set_option maxHeartbeats 2000000 in
theorem valid14_calls (v : Int) (l : List (List Int)) (a : Option Addr) (c : Nat) (w : World) (h : ClsW w a c l) (hl : l.length ≤ 60000) (hl2 : ∀ z ∈ l, z.length ≤ 100000) (hv : 0 ≤ v ∧ v ≤ 20000) :
    Calls Tryd.prog 14 #[cnfV v a l.length c] w fun e w' => e = .returned (.bool (litsOk v l)) ∧ w.grownBy w' none := by
  obtain ⟨n, hn⟩ : ∃ n, l.length = n := ⟨_, rfl⟩
  have hg1 := World.grownBy_alloc w (.cells #[.int .i64 v, .slice a n c] 35) none
  have e1 := one_cells w (.int .i64 v) (.slice a n c) 35
  obtain ⟨W1, hW1⟩ : ∃ W, w.alloc (.cells #[.int .i64 v, .slice a n c] 35) = W := ⟨_, rfl⟩
  rw [hW1] at hg1 e1
  have q0 := e1.2.1
  have q1 := e1.2.2.1
  have HH := Lib.hid (h.grown hg1)
  have HG := Lib.hid hg1
  have HN := Lib.hid (And.intro hn hl2)
  rw [hn] at hl ⊢
  clear h hg1 e1 hl2 hn
  obtain ⟨hv1, hv2⟩ := hv
  have d1 : decide (v < 0) = false := decide_eq_false (by omega)
  have d2 : decide (20000 < v) = false := decide_eq_false (by omega)
  have d3 : decide (60000 < n) = false := decide_eq_false (by omega)
  have d4 : decide (60000 < (n : Int)) = false := decide_eq_false (by omega)
  have d5 : IntKind.i64.wrap (-v) = -v := IntWalk.i64_in _ (by omega)
  go_enter Tryd.func14, Tryd.ntmps14
  go_wp2_with fail
  go_loopg [24] n (fun g s wr => ∃ i : Nat, s = .int .i64 (i : Int) ∧ g = n - i ∧ i ≤ n ∧ (∀ z ∈ l.take i, z.all (litOk v) = true) ∧ W1 = wr)
  case atStart => exact ⟨0, rfl, rfl, Nat.zero_le _, fun z hz => (by simp at hz), rfl⟩
  case round =>
    obtain ⟨i, rfl, hgi, hi, hok, rfl⟩ := hrel
    have HGI := Lib.hid (And.intro hgi hok); clear hgi hok
    by_cases hin : i < n
    · have hinB : decide (i < n) = true := by simpa using hin
      have hinI : (i : Int) < (n : Int) := by omega
      obtain ⟨z, hz⟩ : ∃ z, l[i]? = some z := ⟨_, List.getElem?_eq_getElem (by rw [HN.out.1]; exact hin)⟩
      obtain ⟨b, o, a', c', rfl, c0, c1⟩ := HH.out.at hz
      have hp2 := HN.out.2 z (List.mem_of_getElem? hz)
      have HX := Lib.hid hz; clear hz
      obtain ⟨p, hp⟩ : ∃ p, z.length = p := ⟨_, rfl⟩
      rw [hp] at c0 hp2
      have HP := Lib.hid (And.intro hp c1); clear hp c1
      go_wp2_with fail
      go_loopg [30] p (fun g s wr => ∃ j : Nat, s = .int .i64 (j : Int) ∧ g = p - j ∧ j ≤ p ∧ (∀ x ∈ z.take j, litOk v x = true) ∧ W1 = wr)
      case atStart => exact ⟨0, rfl, rfl, Nat.zero_le _, fun x hx => (by simp at hx), rfl⟩
      case round =>
        obtain ⟨j, rfl, hgj, hj, hokj, rfl⟩ := hrel
        have HGJ := Lib.hid (And.intro hgj hokj); clear hgj hokj
        by_cases hjp : j < p
        · have hjB : decide (j < p) = true := by simpa using hjp
          have hjI : (j : Int) < (p : Int) := by omega
          obtain ⟨x, hx⟩ : ∃ x, z[j]? = some x := ⟨_, List.getElem?_eq_getElem (by rw [HP.out.1]; exact hjp)⟩
          obtain ⟨b2, o2, rfl, e0⟩ := HP.out.2.at hx
          have HU := Lib.hid hx; clear hx
          by_cases h0 : x = 0
          · have k1 : (x == 0) = true := by simpa using h0
            have HR : Hid (litsOk v l = false) := Lib.hid (all_not HX.out (all_not HU.out (by rw [h0]; exact litOk_zero v)))
            subst h0
            go_wp2_with fail
            go_ret
            exact ⟨by rw [HR.out]; rfl, HG.out⟩
          · have k1 : (x == 0) = false := by simpa using h0
            by_cases h1 : v < x
            · have k2 : decide (v < x) = true := decide_eq_true h1
              have HR : Hid (litsOk v l = false) := Lib.hid (all_not HX.out (all_not HU.out (litOk_gt h1)))
              clear h0
              go_wp2_with fail
              go_ret
              exact ⟨by rw [HR.out]; rfl, HG.out⟩
            · have k2 : decide (v < x) = false := decide_eq_false h1
              by_cases h2 : x < -v
              · have k3 : decide (x < -v) = true := decide_eq_true h2
                have HR : Hid (litsOk v l = false) := Lib.hid (all_not HX.out (all_not HU.out (litOk_lt h2)))
                clear h0
                go_wp2_with fail
                go_ret
                exact ⟨by rw [HR.out]; rfl, HG.out⟩
              · have k3 : decide (x < -v) = false := decide_eq_false h2
                have HY := Lib.hid (litOk_yes h0 h1 h2)
                clear h0
                go_wp2_with fail
                go_roundg (p - (j + 1))
                case measure => rw [HGJ.out.1]; omega
                case rel => exact ⟨j + 1, rfl, rfl, by omega, all_step HGJ.out.2 HU.out HY.out, rfl⟩
        · have hje : j = p := by omega
          subst hje
          have hjB : decide (j < j) = false := by simp
          have HE := Lib.hid (all_end HP.out.1 HGJ.out.2)
          go_wp2_with fail
          go_roundg (n - (i + 1))
          case measure => rw [HGI.out.1]; omega
          case rel => exact ⟨i + 1, rfl, rfl, by omega, all_step HGI.out.2 HX.out HE.out, rfl⟩
    · have hie : i = n := by omega
      subst hie
      have hinB : decide (i < i) = false := by simp
      have HR : Hid (litsOk v l = true) := Lib.hid (all_end HN.out.1 HGI.out.2)
      go_wp2_with fail
      go_ret
      exact ⟨by rw [HR.out]; rfl, HG.out⟩
end Go.Proofs.YthkjjiijjedipaaDoor

namespace Go.Proofs.YthkjjiijjedipaaDoor
def In8 (gs : List Gt) : Prop := ∀ g ∈ gs, g.1 = 1 → g.2.1 ≤ 8
theorem in8_add {gs : List Gt} (h : In8 gs) {x : Gt} (hx : x.1 = 1 → x.2.1 ≤ 8) : In8 (addG gs x).1 := by
  unfold addG
  split
  · exact h
  · split
    · exact h
    · intro g hg
      rcases List.mem_append.1 hg with hg | hg
      · exact h g hg
      · rw [List.mem_singleton.1 hg]; exact hx
theorem in8_and {gs : List Gt} (h : In8 gs) (a b : Int) : In8 (andC gs a b).1 := by
  unfold andC
  split
  · exact h
  · split
    · exact h
    · split
      · exact h
      · split
        · exact h
        · exact in8_add h (fun e => by simp at e)
theorem val_lit {gs : List Gt} {values : List Bool} {a : Int} (h : Ok gs a) : valC gs values a = (if a % 2 = 0 then valC gs values (2 * (a / 2)) else !valC gs values (2 * (a / 2))) := by
  by_cases h2 : a % 2 = 0
  · rw [if_pos h2, show 2 * (a / 2) = a by omega]
  · rw [if_neg h2]
    have h3 : notR (2 * (a / 2)) = a := by
      have := h.1
      rw [notR_even (by omega) (by omega)]; omega
    rw [← val_not (gs := gs) (r := 2 * (a / 2)) (by have := h.1; have := h.2; exact ⟨by omega, by omega⟩), h3]
end Go.Proofs.YthkjjiijjedipaaDoor

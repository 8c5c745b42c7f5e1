/- Texts of the proof: E1. -/
import Derived.Test.YthkjjiijjedipaaDoorCD03
namespace Go.Proofs.YthkjjiijjedipaaDoor
open Go.RowKit

abbrev boolCells (l : List Bool) : List Value := l.map Value.bool
/-- A row of truth values that is read: where it is empty, nothing is known of its place. -/
def BoolsW (w : World) (a : Option Addr) (c : Nat) (zs : List Bool) : Prop :=
  zs.length ≤ c ∧ (zs = [] ∨ ∃ b o, a = some ⟨b, o, none⟩ ∧ ∀ (j : Nat) (z : Bool), zs[j]? = some z → w.cell? ⟨b, o + j, none⟩ = some (.bool z))
theorem BoolsW.grown {w w' : World} {a : Option Addr} {c : Nat} {zs : List Bool} (h : BoolsW w a c zs) (hg : w.grownBy w' none) : BoolsW w' a c zs := by
  obtain ⟨hc, h | ⟨b, o, ha, hz⟩⟩ := h
  · exact ⟨hc, .inl h⟩
  · exact ⟨hc, .inr ⟨b, o, ha, fun j z hj => hg.cell (hz j z hj) (by simp)⟩⟩
theorem BoolsW.at {w : World} {a : Option Addr} {c : Nat} {zs : List Bool} (h : BoolsW w a c zs) {i : Nat} {z : Bool} (hz : zs[i]? = some z) : ∃ b o, a = some ⟨b, o, none⟩ ∧ w.cell? ⟨b, o + i, none⟩ = some (.bool z) := by
  obtain ⟨_, h | ⟨b, o, ha, hc⟩⟩ := h
  · rw [h] at hz; simp at hz
  · exact ⟨b, o, ha, hc i z hz⟩
theorem boolsW_nil (w : World) (a : Option Addr) (c : Nat) : BoolsW w a c [] := ⟨Nat.zero_le _, .inl rfl⟩
theorem info4 : (Tryd.prog.info? 4).map (fun i => (i.zero, i.size, i.bytes)) = some (some (.bool false), 1, 1) := by kernel_rfl
theorem bools_span {w : World} {B : Nat} {v : Value} {l : List Bool} (h : w.ownsRow B 4 1 v l.length (boolCells l)) : ∃ a c, v = .slice a l.length c ∧ Span B w.heap.size w (fun W => BoolsW W a c l) := by
  have hc := @World.ownsRow.cells w B 4 1 v l.length _ h
  rcases h.2 with ⟨hv, h0⟩ | ⟨g, cap, cur, rfl, hb, hg, hnc, hcm, _⟩
  · have hl : l = [] := List.eq_nil_of_length_eq_zero h0
    subst hl
    exact ⟨none, 0, hv, Nat.le_refl _, fun W _ => boolsW_nil W _ _⟩
  · have hlt := (Array.getElem?_eq_some_iff.1 hg).1
    refine ⟨_, _, rfl, Nat.le_refl _, fun W hW => ⟨hnc, .inr ⟨g, 0, rfl, fun j z hj => ?_⟩⟩⟩
    have := hc (g := g) rfl j (.bool z) (by rw [boolCells, List.getElem?_map, hj]; rfl)
    rw [add_at] at this
    rw [Nat.zero_add, World.cell?_of_block (hW g hb hlt)]; exact this
/-- An append of one element, where the order of a region is drawn. -/
theorem ready_append_g {ops : Array Oper} {o : Oper} {a : Act} {Q : Exit → Act → World → Prop} {K' : Act → World → Prop} {w : World} (t e : TypeId) (s x : Operand) (hgd : o.guard = none)
    (ho : o.op = .call { callee := .builtin .append, args := #[s, x], argTypes := #[t, t] }) {i0 : TypeInfo} {z : Value} {k bytes : Nat} (hund : Tryd.prog.underlying t = some (.slice e)) (hi0 : Tryd.prog.info? e = some i0) (hz0 : i0.zero = some z) (hz1 : i0.size = k) (hz2 : i0.bytes = bytes) (hzc : z.cells.size = k) (hk : 0 < k) (hb : bytes ≤ 1000000)
    (base : Nat) (v : Value) (n : Nat) (xs : List Value) (hs : a.eval s = v) (hown : w.ownsRow base e k v n xs)
    (ad : Addr) (us : List Value) (hl : us.length = k) (hx : a.eval x = .slice (some ad) 1 1) (hnews : ∀ j u, us[j]? = some u → w.cell? (ad.add j) = some u) (h1 : ∀ u ∈ us, u.oneCell' = true)
    (h63 : n ≤ 1000000) (hbase : base ≤ w.heap.size)
    (h : ∀ v' w', w'.ownsRow base e k v' (n + 1) (xs ++ us) → w.grownBy w' v.ownBlock → (v'.ownBlock = v.ownBlock ∨ v'.ownBlock = some w.heap.size) → K' (a.put o.dst v') w') :
    if Region.wanted o (yielded ops a.tmps) = true then Oper.wp Tryd.prog o a w K' Q else K' (a.put o.dst undef) w := by
  have hbn : (n + 1) * bytes ≤ 140737488355328 := Nat.le_trans (Nat.mul_le_mul (show n + 1 ≤ 1000001 by omega) hb) (by omega)
  obtain ⟨v', w', hr, h2, h3, h4, h5⟩ := run_append_own_at (P := Tryd.prog) w base t o.type e i0 z k bytes hund hi0 hz0 hz1 hz2 hzc hk v n xs hown ad 1 1 us (by rw [hl, Nat.one_mul]) hnews h1 (by unfold maxLen; omega) hbn hbase
  have hw : Region.wanted o (yielded ops a.tmps) = true := by simp only [Region.wanted, hgd]
  rw [if_pos hw]
  unfold Oper.wp execOp
  simp only [ho, resolve, invoke, builtin, Sem.run_bind, Sem.run_pure, Result.andThen_ok, List.map_toArray, List.map_cons, List.map_nil, hs, hx, hr]
  exact h v' w' h2 h3 h5
/-- A box of one cell that holds a row of truth values. -/
structure KnownBox (B p : Nat) (w : World) (va : Option Addr) (vc : Nat) (kn : List Bool) : Prop where
  c0 : w.cell? ⟨p, 0, none⟩ = some (.slice va kn.length vc)
  fr : w.frozen? ⟨p, 0, none⟩ = false
  own : w.ownsRow B 4 1 (.slice va kn.length vc) kn.length (boolCells kn)
  low : B ≤ p ∧ p < w.heap.size
  ne : (Value.slice va kn.length vc).ownBlock ≠ some p
theorem KnownBox.grown {B p : Nat} {w w' : World} {va : Option Addr} {vc : Nat} {kn : List Bool} (h : KnownBox B p w va vc kn) (hg : w.grownBy w' none) : KnownBox B p w' va vc kn :=
  ⟨hg.cell h.c0 (by simp), (grown_frozen hg (lies_lt h.c0) 0).trans h.fr, own_grown h.own hg, ⟨h.low.1, Nat.lt_of_lt_of_le h.low.2 hg.size⟩, h.ne⟩
theorem KnownBox.bools {B p : Nat} {w : World} {va : Option Addr} {vc : Nat} {kn : List Bool} (h : KnownBox B p w va vc kn) : BoolsW w va vc kn := by
  obtain ⟨a, c, e, hs⟩ := bools_span h.own
  cases e
  exact hs.here
/-- Behind the append, before the store. -/
theorem KnownBox.at_ {B p : Nat} {w WA w3 : World} {va : Option Addr} {vc : Nat} {kn : List Bool} (h : KnownBox B p w va vc kn) (ha : w.grownBy WA none) (hg : WA.grownBy w3 (Value.slice va kn.length vc).ownBlock) :
    w3.cell? ⟨p, 0, none⟩ = some (.slice va kn.length vc) ∧ w3.frozen? ⟨p, 0, none⟩ = false := by
  have h2 := h.grown ha
  have hne : some p ≠ (Value.slice va kn.length vc).ownBlock := fun e => h.ne e.symm
  exact ⟨hg.cell h2.c0 hne, (World.frozen?_of_block (a := ⟨p, 0, none⟩) (hg.block p h2.low.2 hne)).trans h2.fr⟩
theorem KnownBox.step {B p : Nat} {w WA w3 : World} {va a : Option Addr} {vc c m : Nat} {kn : List Bool} {x : Bool} (h : KnownBox B p w va vc kn) (ha : w.grownBy WA none) (hg : WA.grownBy w3 (Value.slice va kn.length vc).ownBlock) (hm : kn.length + 1 = m)
    (hown : w3.ownsRow B 4 1 (.slice a m c) m (boolCells kn ++ [.bool x])) (hat : (Value.slice a m c).ownBlock = (Value.slice va kn.length vc).ownBlock ∨ (Value.slice a m c).ownBlock = some WA.heap.size) : KnownBox B p (w3.setCell ⟨p, 0, none⟩ (.slice a m c)) a c (kn ++ [x]) := by
  subst hm
  obtain ⟨h1, h2⟩ := h.at_ ha hg
  have hpA : p < WA.heap.size := Nat.lt_of_lt_of_le h.low.2 ha.size
  have hp3 : p < w3.heap.size := Nat.lt_of_lt_of_le hpA hg.size
  have hne : (Value.slice a (kn.length + 1) c).ownBlock ≠ some p := by
    rcases hat with e | e
    · rw [e]; exact h.ne
    · rw [e]; intro e2; injection e2 with e2; omega
  have hl : (kn ++ [x]).length = kn.length + 1 := by simp
  refine ⟨by rw [hl]; exact World.cell?_setCell_same _ _ _ h1, by rw [World.frozen?_setCell]; exact h2, ?_, ⟨h.low.1, Nat.lt_of_lt_of_le hp3 (grown_set _ _ _ _).size⟩, by rw [hl]; exact hne⟩
  rw [hl, boolCells, List.map_append]
  refine hown.kept (grown_set _ _ _ _) ?_
  cases hv : (Value.slice a (kn.length + 1) c).ownBlock with
  | none => exact .inl rfl
  | some k => exact .inr (fun e => hne (by rw [hv, e]))
/-- What a round of Eval must leave: nothing old has turned, and the gate that is looked at lies in its box. -/
structure Safe (w0 : World) (bg : Nat) (g : Gt) (w : World) : Prop where
  grow : w0.grownBy w none
  gate : GateAt w bg 0 g
theorem Safe.next {w0 w w' : World} {bg : Nat} {g : Gt} (h : Safe w0 bg g w) (hg : w.grownBy w' none) : Safe w0 bg g w' := ⟨World.grownBy.trans h.grow hg, h.gate.grown hg⟩
theorem Safe.own {w0 w w' : World} {bg : Nat} {g : Gt} {r : Option Nat} (h : Safe w0 bg g w) (hg : w.grownBy w' r) (h1 : ∀ k, r = some k → w0.heap.size ≤ k) (h2 : some bg ≠ r) : Safe w0 bg g w' := ⟨grown_own h.grow hg h1, h.gate.moved hg h2⟩

set_option maxHeartbeats 1000000 in
theorem value_calls (r : Int) (B p : Nat) (va : Option Addr) (vc : Nat) (kn : List Bool) (w : World) (h : KnownBox B p w va vc kn) (hl : kn.length ≤ 2000) (hr : r ≤ 9223372036854775807) :
    Calls Tryd.prog 43 #[.int .i64 r, .pointer (some ⟨p, 0, none⟩)] w fun e w' => e = .returned (.bool (litV kn r)) ∧ w' = w := by
  by_cases h0 : 0 ≤ r
  · have f0 : decide (0 ≤ r) = true := decide_eq_true h0
    have hq : Int.tdiv r 2 = r / 2 := Int.tdiv_eq_ediv_of_nonneg (by omega)
    have hm : Int.tmod r 2 = r % 2 := Int.tmod_eq_emod_of_nonneg (by omega)
    have hw : IntKind.i64.wrap (r / 2) = r / 2 := IntWalk.i64_in _ (by omega)
    have hw2 : IntKind.i64.wrap (r % 2) = r % 2 := IntWalk.i64_in _ (by omega)
    obtain ⟨n, hn⟩ : ∃ n, kn.length = n := ⟨_, rfl⟩
    have k0 := h.c0
    rw [hn] at k0
    by_cases h1 : r / 2 < (n : Int)
    · obtain ⟨q, hqq⟩ : ∃ q : Nat, r / 2 = (q : Int) := ⟨(r / 2).toNat, by omega⟩
      obtain ⟨v, hv⟩ : ∃ v, kn[q]? = some v := ⟨_, List.getElem?_eq_getElem (by rw [hn]; omega)⟩
      obtain ⟨ba, oa, rfl, x0⟩ := h.bools.at hv
      have HE := Lib.hid (show litV kn r = (v != decide (r % 2 = 1)) by unfold litV; rw [decide_eq_true h0, hqq, Int.toNat_natCast, hv]; rfl)
      rw [hqq] at hq hw h1
      have f1 : decide ((q : Int) < (n : Int)) = true := decide_eq_true h1
      have hq0 : (0 : Int) ≤ (q : Int) := by omega
      clear hqq hn h h0 hv
      go_enter Tryd.func43, Tryd.ntmps43
      go_wp2_with fail
      go_ret
      exact ⟨by rw [HE.out]; rfl, rfl⟩
    · have f1 : decide (r / 2 < (n : Int)) = false := decide_eq_false h1
      have HE := Lib.hid (show litV kn r = false by unfold litV; rw [List.getElem?_eq_none (by omega)]; simp)
      clear h h1 h0 hn
      go_enter Tryd.func43, Tryd.ntmps43
      go_wp2_with fail
      go_ret
      exact ⟨by rw [HE.out]; rfl, rfl⟩
  · have f0 : decide (0 ≤ r) = false := decide_eq_false h0
    have HE := Lib.hid (show litV kn r = false by unfold litV; rw [f0]; rfl)
    clear h0
    go_enter Tryd.func43, Tryd.ntmps43
    go_wp2_with fail
    go_ret
    exact ⟨by rw [HE.out]; rfl, rfl⟩
end Go.Proofs.YthkjjiijjedipaaDoor

/- Texts of the proof: Ab S5 S4 T1 T2. -/
import Derived.Test.YthkjjiijjedipaaDoorRows
import Derived.Test.YthkjjiijjedipaaDoorCards
import Derived.Test.YthkjjiijjedipaaDoorTie
import Derived.Test.YthkjjiijjedipaaDoorCA04
import Derived.Test.YthkjjiijjedipaaDoorCA10
import Derived.Test.YthkjjiijjedipaaDoorCA01
import Derived.Deep.Strs
import Derived.Lib.SmallJoins
import Derived.ProofKit
import Derived.LaidMore
import Derived.OpenShut
import Derived.Stop.Joined
import Derived.SevenTiedAt
import Derived.Lib.LaidTab
import Derived.Deep.Slices
import Derived.Lib.ItoaNum
import Derived.Maps.OwnSet
import Derived.Maps.Views
import Derived.StringKeys
namespace Go.Proofs.YthkjjiijjedipaaDoor
open Go.ChangeShapes Go.WideShapes Go.ChangeAt Go.WideMaps Go.WideElems Go.RowKit Go.Deep
open Go.ChangeMaps (open_string shut_string)

set_option maxRecDepth 100000
theorem own : ownKnob Tryd.prog.godebug = none := by kernel_rfl
set_option maxRecDepth 100000 in
theorem door_met (os : Os) (args : Array Value) : laidMetH Tryd.prog [("math/bits.deBruijn32tab", Rows.laid_math_bits_deBruijn32tab), ("math/bits.deBruijn64tab", Rows.laid_math_bits_deBruijn64tab), ("internal/strconv.uint64pow10", Rows.laid_internal_strconv_uint64pow10)] ((World.doorLaid Tryd.prog 14 os).forCall (fun _ _ => 0) ⟨#[], args, []⟩).memory :=
  laidMetH_of_parts3 (fuel := 200) (laidMet_of_run' 200 (by kernel_rfl) (by kernel_rfl)) (by kernel_rfl) (by kernel_rfl)
theorem below_of {w w' : World} (h : w.grownBy w' none) : Below w.heap.size w w' := ⟨h.os, h.tape, h.output, h.size, fun k hk => h.block k hk (by simp)⟩
theorem laidOut : laidOutB Tryd.prog = true := by kernel_rfl

theorem gPow : Tryd.prog.globalNamed "internal/strconv.uint64pow10" = some 0 := by kernel_rfl
theorem tPow : (Tryd.prog.globals[0]?).map (·.type) = some 119 := by kernel_rfl
theorem dPow : (Rows.laid_internal_strconv_uint64pow10 : DataW Unit) = Lib.tabData .u64 Lib.pow10Tab := by kernel_rfl
theorem tab_of {W : World} (h : laidMetH Tryd.prog [("math/bits.deBruijn32tab", Rows.laid_math_bits_deBruijn32tab), ("math/bits.deBruijn64tab", Rows.laid_math_bits_deBruijn64tab), ("internal/strconv.uint64pow10", Rows.laid_internal_strconv_uint64pow10)] W) : Tab W := by
  rw [MakeChecks.laidMetH_plain _ _ _ (by kernel_rfl)] at h
  obtain ⟨ps, ⟨g0, t0, cs0, f0, p0, q0, _, _, _, _, ⟨g1, t1, cs1, f1, p1, q1, _, _, _, _, ⟨g2, t2, cs2, f2, p2, q2, hg2, ht2, hv2, hd2, _, _⟩, _⟩, _⟩, _⟩ := h
  obtain rfl := Option.some.inj (gPow.symm.trans hg2)
  obtain rfl := Option.some.inj (tPow.symm.trans ht2)
  unfold Tab Lib.TabIs
  rw [dPow] at hd2
  rw [hv2, ← Lib.cells_of_tab Tryd.underlying119 Tryd.underlying107 (by kernel_rfl) (by kernel_rfl) hd2]

/-- Arguments of these types read on as they read, where nothing that lay has turned. -/
theorem trodAll_below' {H : Type} {enc : TypeId × Value → H} {P : Program} (hl : laidOutB P = true) {W W' : World} (hb : Below W.heap.size W W') : ∀ {ts : List TypeId} {vs : List Value} {ds : List (DataW H)} {ps : List MemPlace},
    (ts.all fun t => P.readableRec t && decide (t < P.types.size)) = true → DataW.TrodAll enc P W 0 (fun _ => true) true ts vs ds ps → (∀ x ∈ ps, x.block < W.heap.size) →
    DataW.TrodAll enc P W' 0 (fun b => decide (b < W.heap.size)) true ts vs ds ps
  | [], _, _, _, _, h, _ => by
    obtain ⟨rfl, rfl, rfl⟩ := trodAll_nil h
    exact trodAll_mk0
  | t :: ts, vs, ds, ps, ht, h, hlt => by
    obtain ⟨v, vs', d, ds', p, q, rfl, rfl, rfl, hd, hrest⟩ := trodAll_cons h
    simp only [List.all_cons, Bool.and_eq_true, decide_eq_true_eq] at ht
    exact ⟨p, q, Below.trod hl ht.1.1 ht.1.2 hd hb (fun x hx => hlt x (by simp [hx])), trodAll_below' hl hb (by simpa using ht.2) hrest (fun x hx => hlt x (by simp [hx])), rfl⟩
theorem trodAll_below {H : Type} {enc : TypeId × Value → H} {W W' : World} (hb : Below W.heap.size W W') {ts : List TypeId} {vs : List Value} {ds : List (DataW H)} {ps : List MemPlace}
    (ht : (ts.all fun t => Tryd.prog.readableRec t && decide (t < Tryd.prog.types.size)) = true) (h : DataW.TrodAll enc Tryd.prog W 0 (fun _ => true) true ts vs ds ps) (hlt : ∀ x ∈ ps, x.block < W.heap.size) :
    DataW.TrodAll enc Tryd.prog W' 0 (fun b => decide (b < W.heap.size)) true ts vs ds ps := trodAll_below' laidOut hb ht h hlt
theorem open_u8 {H : Type} {enc : TypeId × Value → H} {W : World} {v : Value} {d : DataW H} {ps : List MemPlace} {base : Nat} (hv : Value.okWide Tryd.prog W .any base 5 v) (h : DataW.Trod enc Tryd.prog W 0 (fun _ => true) true 5 v d ps) :
    ∃ y : Nat, v = .int .u8 (y : Int) ∧ y < 256 := by
  obtain ⟨x, rfl, _, _, wx⟩ := open_int Tryd.underlying5 hv h
  have hw : 0 ≤ x ∧ x < 256 := by
    simp [Lit.wf, IntKind.min, IntKind.max, IntKind.bits, IntKind.signed] at wx
    omega
  exact ⟨x.toNat, by rw [Int.toNat_of_nonneg hw.1], by omega⟩
section
variable {H : Type} {enc : TypeId × Value → H} {W : World}
theorem add_off (b o j : Nat) : (⟨b, o, none⟩ : Addr).add j = ⟨b, o + j, none⟩ := by unfold Addr.add; split <;> simp_all
/-- A cell that reads as a slice, whose elements are opened by each. -/
theorem slice_open {t e k : Nat} {α : Type} [Inhabited α] (P : α → Nat → Nat → Prop) (ht : Tryd.prog.underlying t = some (.slice e)) (hk : Tryd.prog.cellsOf e = k)
    (each : ∀ (n : Nat) (a : Addr) (cs : List Value) (x : DataW H × List MemPlace), W.cells? 0 a k = some cs → DataW.trod enc Tryd.prog W 0 (fun _ => true) true n e cs = some x → ∃ (y : α) (b o : Nat), a = ⟨b, o, none⟩ ∧ P y b o)
    {n : Nat} {v : Value} {x : DataW H × List MemPlace} (h : DataW.trod enc Tryd.prog W 0 (fun _ => true) true n t [v] = some x) :
    ∃ (l : List α) (a : Option Addr) (c : Nat), v = .slice a l.length c ∧ l.length ≤ c ∧ (l.length : Int) ≤ 9223372036854775807 ∧ ∀ (j : Nat) (y : α), l[j]? = some y → ∃ b o, a = some ⟨b, o, none⟩ ∧ P y b (o + j * k) := by
  rcases open_slice ht h with ⟨hcs, _⟩ | ⟨a, len, cap, m, n', D, Pl, hcs, _, hl, hm, hmm, _, hx⟩
  · injection hcs with hcs _
    subst hcs
    exact ⟨[], none, 0, rfl, Nat.le_refl _, by simp, fun j y hj => by simp at hj⟩
  · injection hcs with hcs _
    subst hcs
    simp only [if_true] at hmm
    subst hmm
    have h1 : ∀ i, i < len → ∃ y : α, ∃ b o, a.add (i * k) = ⟨b, o, none⟩ ∧ P y b o := by
      intro i hi
      obtain ⟨cs', hc, ht'⟩ := hx i (by omega)
      rw [hk] at hc
      exact each _ _ _ _ hc ht'
    obtain ⟨f, hf⟩ := choose_lt h1
    have hlen : ((List.range len).map f).length = len := by simp
    refine ⟨(List.range len).map f, some a, m, by rw [hlen], by rw [hlen]; exact hl, by rw [hlen]; unfold maxLen at hm; omega, fun j y hj => ?_⟩
    have hjl : j < len := by have := (List.getElem?_eq_some_iff.1 hj).1; rwa [hlen] at this
    rw [List.getElem?_map, List.getElem?_range hjl] at hj
    simp only [Option.map_some, Option.some.injEq] at hj
    subst hj
    obtain ⟨b0, o0, e0, _⟩ := hf 0 (by omega)
    rw [Nat.zero_mul, show a.add 0 = a from rfl] at e0
    subst e0
    obtain ⟨b, o, e, hp⟩ := hf j hjl
    rw [add_off] at e
    simp only [Addr.mk.injEq, and_true] at e
    obtain ⟨rfl, rfl⟩ := e
    exact ⟨b0, o0, rfl, hp⟩
theorem trod_u8 {n : Nat} {v : Value} {y : DataW H × List MemPlace} (h : DataW.trod enc Tryd.prog W 0 (fun _ => true) true n 5 [v] = some y) : ∃ z : Nat, v = .int .u8 (z : Int) ∧ z < 256 := by
  obtain ⟨z, e0, _, wx⟩ := DataW.trod_int Tryd.underlying5 h
  injection e0 with e0 _
  subst e0
  have hw : 0 ≤ z ∧ z < 256 := by
    simp [Lit.wf, IntKind.min, IntKind.max, IntKind.bits, IntKind.signed] at wx
    omega
  exact ⟨z.toNat, by rw [Int.toNat_of_nonneg hw.1], by omega⟩
theorem addr_plain {a : Addr} {w : World} {v : Value} {j : Nat} (h : w.cell? (a.add j) = some v) (hj : j = 0) : ∃ b o, a = ⟨b, o, none⟩ := by
  subst hj
  obtain ⟨b, o, spot⟩ := a
  have hspot : spot = none := by simpa [Addr.add] using World.cell?_spot h
  subst hspot
  exact ⟨b, o, rfl⟩
/-- Three cells that read as a structure of three fields of one cell. -/
theorem three_at {t0 t1 t2 : TypeId} {n : Nat} {a : Addr} {cs : List Value} {k : TypeId} {f0 f1 f2 : Field} {x : DataW H × List MemPlace} (hu : Tryd.prog.underlying k = some (.struct #[f0, f1, f2])) (o0 : f0.offset = 0 ∧ f0.type = t0) (o1 : f1.offset = 1 ∧ f1.type = t1) (o2 : f2.offset = 2 ∧ f2.type = t2)
    (k0 : Tryd.prog.cellsOf t0 = 1) (k1 : Tryd.prog.cellsOf t1 = 1) (k2 : Tryd.prog.cellsOf t2 = 1) (hc : W.cells? 0 a 3 = some cs) (h : DataW.trod enc Tryd.prog W 0 (fun _ => true) true n k cs = some x) :
    ∃ (b o : Nat) (v0 v1 v2 : Value) (m : Nat) (y0 y1 y2 : DataW H × List MemPlace), a = ⟨b, o, none⟩ ∧ W.cell? ⟨b, o, none⟩ = some v0 ∧ W.cell? ⟨b, o + 1, none⟩ = some v1 ∧ W.cell? ⟨b, o + 2, none⟩ = some v2 ∧
      DataW.trod enc Tryd.prog W 0 (fun _ => true) true m t0 [v0] = some y0 ∧ DataW.trod enc Tryd.prog W 0 (fun _ => true) true m t1 [v1] = some y1 ∧ DataW.trod enc Tryd.prog W 0 (fun _ => true) true m t2 [v2] = some y2 := by
  obtain ⟨_, hlen, hat⟩ := World.cells?_some hc
  match cs, hlen with
  | [c0, c1, c2], _ =>
    have a0 := hat 0 (by omega)
    obtain ⟨b, o, rfl⟩ := addr_plain a0 rfl
    have a1 := hat 1 (by omega)
    have a2 := hat 2 (by omega)
    obtain ⟨xs, m, _, _, _, hl, hf⟩ := DataW.trod_struct hu h
    match xs, hl, hf with
    | [y0, y1, y2], _, hf =>
      have f0 := hf 0 _ rfl
      have f1 := hf 1 _ rfl
      have f2 := hf 2 _ rfl
      exact ⟨b, o, c0, c1, c2, m, y0, y1, y2, rfl, by simpa [Addr.add] using a0, by simpa [Addr.add] using a1, by simpa [Addr.add] using a2, by simpa [o0.1, o0.2, k0] using f0, by simpa [o1.1, o1.2, k1] using f1, by simpa [o2.1, o2.2, k2] using f2⟩
theorem c5 : Tryd.prog.cellsOf 5 = 1 := by kernel_rfl
theorem c3 : Tryd.prog.cellsOf 3 = 1 := by kernel_rfl
theorem stps_open {n : Nat} {v : Value} {x : DataW H × List MemPlace} (h : DataW.trod enc Tryd.prog W 0 (fun _ => true) true n 22 [v] = some x) :
    ∃ (l : List Stp) (a : Option Addr) (c : Nat), v = .slice a l.length c ∧ StpsW W a c l ∧ (∀ s ∈ l, StpOk s) ∧ (l.length : Int) ≤ 9223372036854775807 := by
  obtain ⟨l, a, c, e, hc, hm, hl⟩ := slice_open (α := Stp) (k := 3) (fun s b o => StpOk s ∧ StpAt W b o s) Tryd.underlying22 (by kernel_rfl) (fun n a cs x hc h => by
    obtain ⟨b, o, v0, v1, v2, m, y0, y1, y2, rfl, q0, q1, q2, h0, h1, h2⟩ := three_at (t0 := 5) (t1 := 5) (t2 := 5) Tryd.underlying56 ⟨rfl, rfl⟩ ⟨rfl, rfl⟩ ⟨rfl, rfl⟩ c5 c5 c5 hc h
    obtain ⟨z0, rfl, w0⟩ := trod_u8 h0
    obtain ⟨z1, rfl, w1⟩ := trod_u8 h1
    obtain ⟨z2, rfl, w2⟩ := trod_u8 h2
    exact ⟨(z0, z1, z2), b, o, rfl, ⟨w0, w1, w2⟩, ⟨q0, q1, q2⟩⟩) h
  refine ⟨l, a, c, e, ⟨hc, ?_⟩, fun s hs => ?_, hm⟩
  · cases l with
    | nil => exact .inl rfl
    | cons z l =>
      obtain ⟨b, o, rfl, _⟩ := hl 0 z rfl
      refine .inr ⟨b, o, rfl, fun j y hj => ?_⟩
      obtain ⟨b', o', e', _, hc'⟩ := hl j y hj
      cases e'
      exact hc'
  · obtain ⟨j, hj⟩ := List.mem_iff_getElem?.1 hs
    obtain ⟨_, _, _, h1, _⟩ := hl j s hj
    exact h1
theorem bools_open {n : Nat} {v : Value} {x : DataW H × List MemPlace} (h : DataW.trod enc Tryd.prog W 0 (fun _ => true) true n 23 [v] = some x) :
    ∃ (l : List Bool) (a : Option Addr) (c : Nat), v = .slice a l.length c ∧ BoolsW W a c l ∧ (l.length : Int) ≤ 9223372036854775807 := by
  obtain ⟨l, a, c, e, hc, hm, hl⟩ := slice_open (α := Bool) (k := 1) (fun z b o => W.cell? ⟨b, o, none⟩ = some (.bool z)) Tryd.underlying23 (by kernel_rfl) (fun n a cs x hc h => by
    obtain ⟨_, hlen, hat⟩ := World.cells?_some hc
    match cs, hlen with
    | [c0], _ =>
      obtain ⟨z, e0, _⟩ := DataW.trod_bool Tryd.underlying4 h
      injection e0 with e0 _
      subst e0
      have a0 := hat 0 (by omega)
      obtain ⟨b, o, rfl⟩ := addr_plain a0 rfl
      exact ⟨z, b, o, rfl, by simpa [Addr.add] using a0⟩) h
  refine ⟨l, a, c, e, ⟨hc, ?_⟩, hm⟩
  cases l with
  | nil => exact .inl rfl
  | cons z l =>
    obtain ⟨b, o, rfl, _⟩ := hl 0 z rfl
    refine .inr ⟨b, o, rfl, fun j y hj => ?_⟩
    obtain ⟨b', o', e', hc'⟩ := hl j y hj
    cases e'
    rw [Nat.mul_one] at hc'
    exact hc'
theorem open_stps {v : Value} {d : DataW H} {ps : List MemPlace} {base : Nat} (hv : Value.okWide Tryd.prog W .any base 22 v) (h : DataW.Trod enc Tryd.prog W 0 (fun _ => true) true 22 v d ps) :
    ∃ (l : List Stp) (a : Option Addr) (c : Nat), v = .slice a l.length c ∧ StpsW W a c l ∧ (∀ s ∈ l, StpOk s) ∧ (l.length : Int) ≤ 9223372036854775807 := by
  obtain ⟨ra, rn, rc, rfl⟩ := okWide_slice Tryd.underlying22 hv
  obtain ⟨fuel, hf⟩ := h
  exact stps_open hf
theorem open_bools {v : Value} {d : DataW H} {ps : List MemPlace} {base : Nat} (hv : Value.okWide Tryd.prog W .any base 23 v) (h : DataW.Trod enc Tryd.prog W 0 (fun _ => true) true 23 v d ps) :
    ∃ (l : List Bool) (a : Option Addr) (c : Nat), v = .slice a l.length c ∧ BoolsW W a c l ∧ (l.length : Int) ≤ 9223372036854775807 := by
  obtain ⟨ra, rn, rc, rfl⟩ := okWide_slice Tryd.underlying23 hv
  obtain ⟨fuel, hf⟩ := h
  exact bools_open hf
end
end Go.Proofs.YthkjjiijjedipaaDoor

namespace Go.Proofs.YthkjjiijjedipaaDoor
open Go.Lib

/-- A step: its kind, its literals, its symmetry. -/
abbrev StT := Int × List Int × Int

def letB (k : Int) : UInt8 := if k = 1 then 108 else if k = 2 then 100 else if k = 3 then 101 else if k = 4 then 115 else 0
def numB (x : Int) : List UInt8 := 32 :: itoa x
def numsB (l : List Int) : List UInt8 := l.flatMap numB
def encS (x : StT) : List UInt8 := letB x.1 :: ((if x.1 = 4 then numB x.2.2 else []) ++ (numsB x.2.1 ++ [32, 48, 10]))
def enc (l : List StT) : List UInt8 := l.flatMap encS

theorem decDigits_length_le {u : Nat} (h : u < 1000000000) : (decDigits u).length ≤ 9 := by
  rw [decDigits_length]
  by_cases h9 : nDigits u ≤ 9
  · exact h9
  · exfalso
    have h1 : ∀ k, ∀ u, k + 1 ≤ nDigits u → 0 < k → 10 ^ k ≤ u := by
      intro k
      induction k with
      | zero => intro u _ h; omega
      | succ k ih =>
        intro u hu _
        by_cases hs : u < 10
        · rw [nDigits_small hs] at hu; omega
        · rw [nDigits_big hs] at hu
          by_cases hk : k = 0
          · subst hk; simp; omega
          · have := ih (u / 10) (by omega) (by omega)
            rw [Nat.pow_succ]; omega
    have := h1 9 u (by omega) (by omega)
    omega

end Go.Proofs.YthkjjiijjedipaaDoor

namespace Go.Proofs.YthkjjiijjedipaaDoor
set_option maxRecDepth 100000
open Go.RowKit Go.Sort

def Nine (x : Int) : Prop := -1000000000 < x ∧ x < 1000000000
def textP (l : List Int) : List UInt8 := l.flatMap fun x => Lib.itoa x ++ [32]
def keyP (zs : List Int) : List UInt8 := textP (msort zs)
theorem itoa_len {x : Int} (h : Nine x) : (Lib.itoa x).length ≤ 10 := by
  obtain ⟨h1, h2⟩ := h
  unfold Lib.itoa
  split
  · have := decDigits_length_le (u := x.natAbs) (by omega)
    simp only [List.length_cons]; omega
  · have := decDigits_length_le (u := x.toNat) (by omega)
    omega
theorem text_snoc (l : List Int) (x : Int) : textP (l ++ [x]) = textP l ++ (Lib.itoa x ++ [32]) := by simp [textP]
theorem text_len : ∀ l : List Int, (∀ x ∈ l, Nine x) → (textP l).length ≤ 11 * l.length
  | [], _ => by simp [textP]
  | x :: l, h => by
    have ih := text_len l (fun y hy => h y (List.mem_cons_of_mem _ hy))
    have h1 := itoa_len (h x (List.mem_cons_self ..))
    have e : textP (x :: l) = (Lib.itoa x ++ [32]) ++ textP l := by simp [textP]
    rw [e]
    simp only [List.length_append, List.length_cons, List.length_nil]
    omega
theorem mem_msort {zs : List Int} {x : Int} : x ∈ msort zs ↔ x ∈ zs := (List.mergeSort_perm zs _).mem_iff
theorem own_kept75 {w w' : World} {B n : Nat} {v : Value} {xs : List Value} (h : w.ownsRow B 3 1 v n xs) (hk : Kept75 w w') : w'.ownsRow B 3 1 v n xs := by
  refine ⟨h.1, ?_⟩
  rcases h.2 with h | ⟨g, cap, cur, rfl, hb, hg, rest⟩
  · exact .inl h
  · exact .inr ⟨g, cap, cur, rfl, hb, hk g cur 3 (0, 0) hg (by decide) (by decide), rest⟩
theorem itoa_blank (x : Int) : ((⟨(Lib.itoa x).toArray⟩ : ByteArray) ++ ⟨#[32]⟩).data.toList = Lib.itoa x ++ [32] := by
  rw [ByteArray.data_append]; simp
theorem itoa_blank_size (x : Int) : ((⟨(Lib.itoa x).toArray⟩ : ByteArray) ++ ⟨#[32]⟩).size = (Lib.itoa x).length + 1 := by
  have h2 : (Lib.itoa x ++ [32]).length = (Lib.itoa x).length + 1 := by simp
  rw [← h2, ← itoa_blank x]
  simp [ByteArray.size]

set_option maxHeartbeats 8000000 in
theorem key_calls (zs : List Int) (a : Option Addr) (c : Nat) (w : World) (h : IntsW w a c zs) (hl : zs.length ≤ 100000) (hb : ∀ x ∈ zs, Nine x) (htab : Tab w) :
    Calls Tryd.prog 39 #[.slice a zs.length c] w fun e w' => e = .returned (.string ⟨(keyP zs).toArray⟩) ∧ w.grownBy w' none := by
  obtain ⟨n, hn⟩ : ∃ n, zs.length = n := ⟨_, rfl⟩
  rw [hn] at hl ⊢
  have hfresh := Lib.fresh_isBuilder 75 5 w
  obtain ⟨b, hbs⟩ : ∃ b, w.heap.size = b := ⟨_, rfl⟩
  have hg0 := World.grownBy_alloc w (.cells #[.pointer none, .slice none 0 0] 75) none
  have hs0 : (w.alloc (.cells #[.pointer none, .slice none 0 0] 75)).heap.size = w.heap.size + 1 := by simp
  obtain ⟨W0, hW0⟩ : ∃ W0, w.alloc (.cells #[.pointer none, .slice none 0 0] 75) = W0 := ⟨_, rfl⟩
  rw [hW0] at hfresh hg0 hs0
  rw [hbs] at hfresh hs0
  have HN := Lib.hid hn
  have hg1 := World.grownBy_alloc W0 (.cells #[.slice a n c] 28) none
  have e1 := one_cell W0 (.slice a n c) 28
  obtain ⟨W1, hW1⟩ : ∃ z, W0.alloc (.cells #[.slice a n c] 28) = z := ⟨_, rfl⟩
  rw [hW1] at hg1 e1
  have HBU := Lib.hid (builder_grown hfresh hg1)
  have HG1 := Lib.hid (World.grownBy.trans hg0 hg1)
  have HSO := Lib.hid (sorted_calls zs a c W0.heap.size W1 (by rw [hn]; exact e1.2.1) (h.grown (World.grownBy.trans hg0 hg1)) (by rw [hn]; exact hl))
  rw [hn] at HSO
  have HT := Lib.hid htab
  have HB := Lib.hid (And.intro hbs hs0)
  have HZ : Hid (∀ x ∈ msort zs, Nine x) := Lib.hid (fun x hx => hb x (mem_msort.1 hx))
  have HML : Hid ((msort zs).length = n) := Lib.hid (by rw [msort_len, hn])
  clear hfresh hg0 hs0 hbs hn h hb htab hg1 e1
  go_enter Tryd.func39, Tryd.ntmps39
  go_wp2_with fail
  refine (values_calls a n c W0).mono ?_
  rintro e w' ⟨rfl, hw'⟩
  rw [hW1] at hw'
  rw [hw']
  clear hw' w' hW0 hW1
  go_wp2_with fail
  refine HSO.out.mono ?_
  rintro e w2 ⟨v, rfl, hrow, hg2⟩
  obtain ⟨sa, sc, rfl⟩ := own_shape hrow
  have HR2 := Lib.hid hrow
  have HG2 := Lib.hid (And.intro hg2 (World.grownBy.trans HG1.out hg2))
  have HB2 := Lib.hid (builder_grown HBU.out hg2)
  clear hrow hg2
  obtain ⟨Bx, hBx⟩ : ∃ z, W1.heap.size + 1 = z := ⟨_, rfl⟩
  rw [hBx] at HR2
  clear hBx
  go_wp2_with fail
  rw [HB.out.1]
  go_loopg [10] n (fun gk s10 wr => ∃ i : Nat, s10 = .int .i64 (i : Int) ∧ gk = n - i ∧ i ≤ n ∧ Lib.IsBuilder 75 5 b b (Lib.byteCells (textP ((msort zs).take i))) wr ∧ wr.ownsRow Bx 3 1 (.slice sa n sc) n (intCells (msort zs)) ∧ w.grownBy wr none)
  case atStart => exact ⟨0, rfl, rfl, Nat.zero_le _, HB2.out, HR2.out, HG2.out.2⟩
  case round =>
    obtain ⟨i, rfl, hgi, hi, hbd, hrw, hgr⟩ := hrel
    obtain ⟨wo, hwo⟩ : ∃ z, z = wr := ⟨_, rfl⟩
    rw [← hwo] at hbd hrw hgr ⊢
    clear hwo
    have HI := Lib.hid (And.intro hgi (And.intro hbd (And.intro hrw hgr))); clear hgi hbd hgr
    by_cases hin : i < n
    · have hinB : decide (i < n) = true := by simpa using hin
      have hinI : (i : Int) < (n : Int) := by omega
      obtain ⟨x, hx⟩ : ∃ x, (msort zs)[i]? = some x := ⟨_, List.getElem?_eq_getElem (by rw [HML.out]; exact hin)⟩
      obtain ⟨a9, c9, e9, hs9⟩ := ints_span (l := msort zs) (by rw [HML.out]; exact hrw)
      rw [HML.out] at e9
      cases e9
      obtain ⟨rb, ro, rfl, c0⟩ := hs9.here.weak.at hx
      have hnx := HZ.out x (List.mem_of_getElem? hx)
      have HNX := Lib.hid hnx
      unfold Nine at hnx
      obtain ⟨hn1, hn2⟩ := hnx
      have HTK : Hid ((msort zs).take (i + 1) = (msort zs).take i ++ [x]) := Lib.hid (by rw [List.take_add_one, hx]; rfl)
      have HIT := Lib.hid (Tryd.strconv_Itoa x (by omega) (by omega) wo (HT.out.grown HI.out.2.2.2))
      clear hx hs9 hrw
      go_wp2_with fail
      refine HIT.out.mono ?_
      rintro e w3 ⟨rfl, k3, os3, hw3⟩
      have HG3 : Hid (wo.grownBy w3 none) := Lib.hid (by rw [hw3]; exact grown_grow wo k3 os3)
      clear hw3 HIT c0
      have hlen := itoa_blank_size x
      have hil := itoa_len HNX.out
      have hsa : ∀ W : World, (Op.stringOp .add ⟨(Lib.itoa x).toArray⟩ ⟨#[32]⟩).run Tryd.prog W = .ok (.string (⟨(Lib.itoa x).toArray⟩ ++ ⟨#[32]⟩)) W := fun W => run_string_add_sum _ _ _ (by have := hlen; rw [ByteArray.size_append] at this; omega)
      go_wp2_with fail
      obtain ⟨S, hS⟩ : ∃ S : ByteArray, (⟨(Lib.itoa x).toArray⟩ : ByteArray) ++ ⟨#[32]⟩ = S := ⟨_, rfl⟩
      have HSD : Hid (S.data.toList = Lib.itoa x ++ [32]) := Lib.hid (by rw [← hS]; exact itoa_blank x)
      have hSs : S.size ≤ 11 := by rw [← hS, hlen]; omega
      rw [hS]
      clear hS hsa hlen hil
      have htl := text_len ((msort zs).take i) (fun y hy => HZ.out y (List.mem_of_mem_take hy))
      have htl2 : ((msort zs).take i).length ≤ i := by rw [List.length_take]; exact Nat.min_le_left _ _
      have HWS := Lib.hid (writeString_calls b b (Lib.byteCells (textP ((msort zs).take i))) S w3 (builder_grown HI.out.2.1 HG3.out) (by rw [Lib.byteCells_length]; omega) (by have := HG3.out.size; have := HI.out.2.2.2.size; have := HB.out.1; omega))
      refine HWS.out.mono ?_
      rintro e w4 ⟨rfl, hbd4, hbl4, hk4⟩
      have H4 : Hid (Lib.IsBuilder 75 5 b b (Lib.byteCells (textP ((msort zs).take (i + 1)))) w4 ∧ w4.ownsRow Bx 3 1 (.slice (some ⟨rb, ro, none⟩) n sc) n (intCells (msort zs)) ∧ w.grownBy w4 none) := Lib.hid ⟨by
        rw [HTK.out, text_snoc, Lib.byteCells_append, ← strCells_of _ _ HSD.out]; exact .inr hbd4, own_kept75 (own_grown HI.out.2.2.1 HG3.out) hk4, grown_below (World.grownBy.trans HI.out.2.2.2 HG3.out) hbl4 (Nat.le_of_eq HB.out.1)⟩
      clear hbd4 hbl4 hk4 htl htl2
      go_wp2_with fail
      go_roundg (n - (i + 1))
      case measure => rw [HI.out.1]; omega
      case rel => exact ⟨i + 1, rfl, rfl, by omega, H4.out.1, H4.out.2.1, H4.out.2.2⟩
    · have hie : i = n := by omega
      subst hie
      have hinB : decide (i < i) = false := by simp
      have HE : Hid ((msort zs).take i = msort zs) := Lib.hid (List.take_of_length_le (by rw [HML.out]; exact Nat.le_refl _))
      have HST := Lib.hid (Tryd.Builder_String_any b b (keyP zs) wo (by have := HI.out.2.1; rw [HE.out] at this; exact this) (by have := HI.out.2.2.2.size; have := HB.out.1; omega))
      clear hrw
      go_wp2_with fail
      refine HST.out.mono ?_
      rintro e w5 ⟨rfl, hb5⟩
      have HG5 := Lib.hid (grown_below HI.out.2.2.2 hb5 (Nat.le_of_eq HB.out.1))
      clear hb5
      go_wp2_with fail
      go_ret
      exact ⟨rfl, HG5.out⟩
end Go.Proofs.YthkjjiijjedipaaDoor

namespace Go.Proofs.YthkjjiijjedipaaDoor
open Go.RowKit Go.Maps
set_option maxRecDepth 100000

/-- The first place of a key. -/
def ixOf {α : Type} [DecidableEq α] : List α → α → Option Nat
  | [], _ => none
  | k :: ks, l => if k = l then some 0 else (ixOf ks l).map (· + 1)
theorem ix_snoc {α : Type} [DecidableEq α] (k l : α) : ∀ ks : List α, ixOf (ks ++ [k]) l = match ixOf ks l with | some i => some i | none => (if k = l then some ks.length else none : Option Nat)
  | [] => by simp [ixOf]
  | q :: ks => by
    have ih := ix_snoc k l ks
    show (if q = l then some 0 else (ixOf (ks ++ [k]) l).map (· + 1)) = match (if q = l then some 0 else (ixOf ks l).map (· + 1) : Option Nat) with | some i => some i | none => _
    by_cases e : q = l
    · rw [if_pos e, if_pos e]
    · rw [if_neg e, if_neg e, ih]
      cases ixOf ks l with
      | some i => rfl
      | none => by_cases e2 : k = l <;> simp [e2]
theorem ix_some {α : Type} [DecidableEq α] {l : α} : ∀ {ks : List α} {i : Nat}, ixOf ks l = some i ↔ ks[i]? = some l ∧ ∀ j, j < i → ks[j]? ≠ some l
  | [], i => by simp [ixOf]
  | q :: ks, i => by
    unfold ixOf
    by_cases e : q = l
    · rw [if_pos e]
      constructor
      · intro h; cases h; exact ⟨by simp [e], fun j hj => absurd hj (Nat.not_lt_zero j)⟩
      · rintro ⟨h1, h2⟩
        cases i with
        | zero => rfl
        | succ i => exact absurd (by simp [e]) (h2 0 (Nat.zero_lt_succ i))
    · rw [if_neg e]
      cases i with
      | zero => simp [e]
      | succ i =>
        have ih := ix_some (l := l) (ks := ks) (i := i)
        rw [List.getElem?_cons_succ]
        constructor
        · intro h
          rw [Option.map_eq_some_iff] at h
          obtain ⟨j, hj, hj2⟩ := h
          obtain rfl : j = i := by omega
          obtain ⟨h1, h2⟩ := ih.1 hj
          refine ⟨h1, fun j hj => ?_⟩
          cases j with
          | zero => simpa using e
          | succ j => rw [List.getElem?_cons_succ]; exact h2 j (by omega)
        · rintro ⟨h1, h2⟩
          rw [ih.2 ⟨h1, fun j hj => by have := h2 (j + 1) (by omega); rwa [List.getElem?_cons_succ] at this⟩]
          rfl
theorem ix_none {α : Type} [DecidableEq α] {l : α} : ∀ {ks : List α}, ixOf ks l = none ↔ l ∉ ks
  | [] => by simp [ixOf]
  | q :: ks => by
    have ih := ix_none (l := l) (ks := ks)
    unfold ixOf
    by_cases e : q = l
    · rw [if_pos e]; simp [e]
    · rw [if_neg e, Option.map_eq_none_iff, ih, List.mem_cons, not_or]
      exact ⟨fun h => ⟨fun h2 => e h2.symm, h⟩, fun h => h.2⟩

def litI (x : Int) : Lit := .int .i64 x
theorem litI_inj {x y : Int} (h : litI x = litI y) : x = y := by unfold litI at h; injection h
theorem zero3' (w : World) : (zeroValue 3).run Tryd.prog w = .ok (.int .i64 0) w := by kernel_rfl
theorem nat_wf {n : Nat} (h : n ≤ 1000000) : (Lit.int .i64 (n : Int)).wf = true := WalkArith.wf_i64 (by omega)
section
variable {α : Type} {kt mt : TypeId} {lit : α → Lit} {w : World} {b n : Nat} {F : α → Option Nat}
/-- Block b is a map of at most n entries that gives the keys what F says. -/
def MapF (kt : TypeId) (lit : α → Lit) (w : World) (b n : Nat) (F : α → Option Nat) : Prop :=
  ∃ D : DataW Unit, w.ownsMap Tryd.prog kt (plainElem Tryd.prog 3) b n D ∧ ∀ a, Maps.has D (lit a) = (F a).isSome ∧ ∀ i, F a = some i → ∀ z, D.atKey (lit a) z = .lit (.int .i64 (i : Int))
theorem MapF.made (kt : TypeId) (lit : α → Lit) (w : World) : MapF kt lit (w.alloc (.map #[] 0)) w.heap.size 0 (fun _ => none) :=
  ⟨.map [], World.ownsMap_made w _ _ _, fun a => ⟨by simp [Maps.has], fun i h => by cases h⟩⟩
theorem MapF.kept {w' : World} {r : Option Nat} (h : MapF kt lit w b n F) (hg : w.grownBy w' r) (hr : some b ≠ r) : MapF kt lit w' b n F := by
  obtain ⟨D, hD, hk⟩ := h
  exact ⟨D, hD.kept hg hr, hk⟩
theorem MapF.grown {w' : World} (h : MapF kt lit w b n F) (hg : w.grownBy w' none) : MapF kt lit w' b n F := h.kept hg (by simp)
theorem MapF.lt (h : MapF kt lit w b n F) : b < w.heap.size := by
  obtain ⟨D, ⟨es, clock, hb, _⟩, _⟩ := h
  exact (Array.getElem?_eq_some_iff.1 hb).1
theorem MapF.look (h : MapF kt lit w b n F) (K : Keyed Tryd.prog kt) (ht : Tryd.prog.underlying mt = some (.map kt 3)) {v : Value} {a : α} (hk : keyOf Tryd.prog kt v = some (lit a)) :
    ∃ c : Int, (Instr.lookup mt (.map (some b)) v true).run Tryd.prog w = .ok (.tuple #[.int .i64 c, .bool (F a).isSome]) w ∧ ∀ i : Nat, F a = some i → c = (i : Int) := by
  obtain ⟨D, hD, ha⟩ := h
  obtain ⟨u, ps, hr, hv⟩ := hD.look_ok K ht (zero3' w) (plainElem_int Tryd.underlying3 (by decide)) hk
  obtain ⟨c, rfl, hc, _⟩ := plainElem_int_inv Tryd.underlying3 hv
  refine ⟨c, by rw [hr, (ha a).1], fun i hi => ?_⟩
  have h1 := (ha a).2 i hi (.lit (.int .i64 0))
  have h2 := congrArg Prod.fst hc
  simp only at h2
  rw [h1] at h2
  injection h2 with h2
  injection h2 with _ h2
  exact h2.symm
theorem MapF.look1 (h : MapF kt lit w b n F) (K : Keyed Tryd.prog kt) (ht : Tryd.prog.underlying mt = some (.map kt 3)) {v : Value} {a : α} (hk : keyOf Tryd.prog kt v = some (lit a)) {i : Nat} (hi : F a = some i) :
    (Instr.lookup mt (.map (some b)) v false).run Tryd.prog w = .ok (.int .i64 (i : Int)) w := by
  obtain ⟨D, hD, ha⟩ := h
  obtain ⟨c, hr, hc, _⟩ := hD.lookup_int K ht Tryd.underlying3 (zero3' w) hk
  have h1 := (ha a).2 i hi (.lit (.int .i64 0))
  rw [h1] at hc
  injection hc with hc
  injection hc with _ hc
  rw [hr, ← hc]
theorem MapF.store (h : MapF kt lit w b n F) (K : Keyed Tryd.prog kt) (ht : Tryd.prog.underlying mt = some (.map kt 3)) (hl : n ≤ 1000000) {v : Value} {a : α} (hk : keyOf Tryd.prog kt v = some (lit a)) {i : Nat} (hi : i ≤ 1000000)
    (hinj : ∀ x y, lit x = lit y → x = y) {G : α → Option Nat} (hG1 : G a = some i) (hG2 : ∀ x, x ≠ a → G x = F x) :
    ∃ w', (Instr.mapUpdate mt (.map (some b)) v (.int .i64 (i : Int))).run Tryd.prog w = .ok () w' ∧ MapF kt lit w' b (n + 1) G ∧ w.grownBy w' (some b) := by
  obtain ⟨D, hD, ha⟩ := h
  obtain ⟨w', hr, ho, hm⟩ := hD.store K ht (by unfold maxLen; omega) hk (plainElem_int Tryd.underlying3 (nat_wf hi))
  refine ⟨w', hr, ⟨_, ho, fun x => ?_⟩, hm.grown⟩
  by_cases e : lit x = lit a
  · have hx := hinj x a e
    subst hx
    refine ⟨by rw [Maps.has_put_same hD.isMap (K.key hk), hG1]; rfl, fun j hj z => ?_⟩
    rw [Maps.atKey_put_same hD.isMap (K.key hk)]
    rw [hG1] at hj
    cases hj
    rfl
  · have hx : x ≠ a := fun h => e (by rw [h])
    have h1 := ha x
    refine ⟨by rw [Maps.has_put_other e, h1.1, hG2 x hx], fun j hj z => ?_⟩
    rw [Maps.atKey_put_other e]
    exact h1.2 j (by rw [← hG2 x hx]; exact hj) z
end
end Go.Proofs.YthkjjiijjedipaaDoor

namespace Go.Proofs.YthkjjiijjedipaaDoor
open Go.RowKit Go.Maps
set_option maxRecDepth 100000

theorem ids_calls (x : Int) (w : World) : Calls Tryd.prog 37 #[.int .i64 x] w fun e w' => e = .returned (.int .i64 x) ∧ w' = w := by
  go_enter Tryd.func37, Tryd.ntmps37
  go_wp2
  go_ret
  exact ⟨rfl, rfl⟩
theorem ix_take_yes {α : Type} [DecidableEq α] {ks : List α} {i : Nat} {x : α} (hx : ks[i]? = some x) (hs : (ixOf (ks.take i) x).isSome = true) : ixOf (ks.take (i + 1)) = ixOf (ks.take i) := by
  funext l
  rw [List.take_add_one, hx, Option.toList_some, ix_snoc]
  cases h : ixOf (ks.take i) l with
  | some j => rfl
  | none =>
    by_cases e : x = l
    · subst e; rw [h] at hs; cases hs
    · simp [e]
theorem ix_take_no {α : Type} [DecidableEq α] {ks : List α} {i : Nat} {x : α} (hx : ks[i]? = some x) (hs : (ixOf (ks.take i) x).isSome = false) : ixOf (ks.take (i + 1)) x = some i ∧ ∀ l, l ≠ x → ixOf (ks.take (i + 1)) l = ixOf (ks.take i) l := by
  have hil := (List.getElem?_eq_some_iff.1 hx).1
  have hn : ixOf (ks.take i) x = none := by cases h : ixOf (ks.take i) x with | none => rfl | some j => rw [h] at hs; cases hs
  constructor
  · rw [List.take_add_one, hx, Option.toList_some, ix_snoc, hn]
    simp [List.length_take]
    omega
  · intro l hl
    rw [List.take_add_one, hx, Option.toList_some, ix_snoc]
    cases h : ixOf (ks.take i) l with
    | some j => rfl
    | none => exact if_neg (fun e => hl e.symm)

set_option maxHeartbeats 4000000 in
theorem firstsI_calls (zs : List Int) (a : Option Addr) (c : Nat) (w : World) (h : IntsW w a c zs) (hl : zs.length ≤ 100000) (hb : ∀ x ∈ zs, -9223372036854775808 ≤ x ∧ x ≤ 9223372036854775807) :
    Calls Tryd.prog 36 #[.slice a zs.length c, .func (.func 37) #[] #[]] w fun e w' => ∃ b m, e = .returned (.map (some b)) ∧ MapF 3 litI w' b m (ixOf zs) ∧ m ≤ zs.length ∧ w.heap.size ≤ b ∧ w.grownBy w' none := by
  obtain ⟨n, hn⟩ : ∃ n, zs.length = n := ⟨_, rfl⟩
  rw [hn] at hl ⊢
  have hgm := World.grownBy_alloc w (.map #[] 0) none
  have hmt := MapF.made 3 litI w
  have hmm := @run_makeMap Tryd.prog
  obtain ⟨W1, hW1⟩ : ∃ z, w.alloc (.map #[] 0) = z := ⟨_, rfl⟩
  rw [hW1] at hgm hmt
  obtain ⟨b, hbm⟩ : ∃ z, w.heap.size = z := ⟨_, rfl⟩
  have hmk : (Instr.makeMap 64 none).run Tryd.prog w = .ok (.map (some b)) W1 := by rw [← hW1, ← hbm]; rfl
  rw [hbm] at hmt
  have HN := Lib.hid (And.intro hn (And.intro h hb))
  have HG := Lib.hid (And.intro hgm (And.intro hmt hbm))
  clear hgm hmt hmm hW1 hbm hn h hb
  go_enter Tryd.func36, Tryd.ntmps36
  go_wp2_with fail
  clear hmk
  go_loopg [13] n (fun g s wr => ∃ (i m : Nat), s = .int .i64 (i : Int) ∧ g = n - i ∧ i ≤ n ∧ MapF 3 litI wr b m (ixOf (zs.take i)) ∧ m ≤ i ∧ w.grownBy wr none)
  case atStart => exact ⟨0, 0, rfl, rfl, Nat.zero_le _, by rw [List.take_zero]; exact HG.out.2.1, Nat.le_refl _, HG.out.1⟩
  case round =>
    obtain ⟨i, m, rfl, hgi, hi, hM, hmi, hgr⟩ := hrel
    obtain ⟨wo, hwo⟩ : ∃ z, z = wr := ⟨_, rfl⟩
    rw [← hwo] at hM hgr ⊢
    clear hwo
    have HI := Lib.hid (And.intro hgi (And.intro hM (And.intro hmi hgr))); clear hgi hmi
    by_cases hin : i < n
    · have hinB : decide (i < n) = true := by simpa using hin
      have hinI : (i : Int) < (n : Int) := by omega
      obtain ⟨x, hx⟩ : ∃ x, zs[i]? = some x := ⟨_, List.getElem?_eq_getElem (by rw [HN.out.1]; exact hin)⟩
      obtain ⟨rb, ro, rfl, c0⟩ := (HN.out.2.1.grown hgr).at hx
      have hxb := HN.out.2.2 x (List.mem_of_getElem? hx)
      have hkey : keyOf Tryd.prog 3 (.int .i64 x) = some (litI x) := keyOf_int_mk Tryd.underlying3 (WalkArith.wf_i64 hxb)
      have HKEY := Lib.hid hkey
      obtain ⟨cv, hlk, _⟩ := hM.look (int_keyed Tryd.underlying3) Tryd.underlying64 hkey
      have HX := Lib.hid hx
      clear hx hM hgr hkey hxb
      obtain ⟨B, hB⟩ : ∃ B, (ixOf (zs.take i) x).isSome = B := ⟨_, rfl⟩
      rw [hB] at hlk
      have HB := Lib.hid hB; clear hB
      cases B with
      | true =>
        have HT := Lib.hid (ix_take_yes HX.out HB.out)
        go_wp2_with (go_at_call 37; refine (ids_calls _ _).mono ?_; rintro e w' ⟨rfl, hw'⟩; rw [hw']; clear hw' w')
        go_roundg (n - (i + 1))
        case measure => rw [HI.out.1]; omega
        case rel => exact ⟨i + 1, m, rfl, rfl, by omega, by rw [HT.out]; exact HI.out.2.1, by have := HI.out.2.2.1; omega, HI.out.2.2.2⟩
      | false =>
        obtain ⟨hG1, hG2⟩ := ix_take_no HX.out HB.out
        obtain ⟨w7, hst, hM7, hg7⟩ := HI.out.2.1.store (int_keyed Tryd.underlying3) Tryd.underlying64 (by have := HI.out.2.2.1; omega) HKEY.out (i := i) (by omega) (fun _ _ => litI_inj) hG1 hG2
        have H7 : Hid (MapF 3 litI w7 b (m + 1) (ixOf (zs.take (i + 1))) ∧ w.grownBy w7 none) := Lib.hid ⟨hM7, grown_own HI.out.2.2.2 hg7 (fun k e => by cases e; exact Nat.le_of_eq HG.out.2.2)⟩
        clear hM7 hg7 hG1 hG2
        go_wp2_with (go_at_call 37; refine (ids_calls _ _).mono ?_; rintro e w' ⟨rfl, hw'⟩; rw [hw']; clear hw' w')
        go_roundg (n - (i + 1))
        case measure => rw [HI.out.1]; omega
        case rel => exact ⟨i + 1, m + 1, rfl, rfl, by omega, H7.out.1, by have := HI.out.2.2.1; omega, H7.out.2⟩
    · have hie : i = n := by omega
      subst hie
      have hinB : decide (i < i) = false := by simp
      have HE : Hid (zs.take i = zs) := Lib.hid (List.take_of_length_le (by rw [HN.out.1]; exact Nat.le_refl _))
      clear hM hgr
      go_wp2_with fail
      go_ret
      exact ⟨b, m, rfl, by have := HI.out.2.1; rw [HE.out] at this; exact this, HI.out.2.2.1, Nat.le_of_eq HG.out.2.2, HI.out.2.2.2⟩
end Go.Proofs.YthkjjiijjedipaaDoor

/- Texts of the proof: RS UL0 UL1 UM UO RZ. -/
import Derived.Test.YthdhmflodiincaaCC15
import Derived.Maps.OwnSet
import Derived.Maps.OwnIn
import Derived.Shelf.SlIterI.Nil
import Derived.Shelf.SortM.Plain
import Derived.Shelf.SortM.SortNone
import Derived.Ground.GgzProg
import Derived.Ground.SlgmProg
import Derived.Test.YthdhmflodiincaaCC20
import Derived.Test.YthdhmflodiincaaCC13
import Derived.Test.YthdhmflodiincaaCC05
import Derived.Test.YthdhmflodiincaaCC10
import Derived.Test.YthdhmflodiincaaCC00
import Derived.Test.YthdhmflodiincaaCC12
import Derived.Deep.DeepCutAuto
import Derived.Test.YthdhmflodiincaaCC16
import Derived.Test.YthdhmflodiincaaCC02
import Derived.Test.YthdhmflodiincaaCC04
set_option maxRecDepth 100000
set_option maxHeartbeats 8000000
namespace Go.Proofs.Ythdhmflodiincaa
set_option maxRecDepth 100000
open Go.RowKit

def putIf (k : Bool) (x : Int) (l : List Int) : List Int := if k then x :: l else l
def mergeL (kp : Bool → Bool → Bool) : List Int → List Int → List Int
  | [], [] => []
  | x :: a, [] => putIf (kp true false) x (mergeL kp a [])
  | [], y :: b => putIf (kp false true) y (mergeL kp [] b)
  | x :: a, y :: b => if x < y then putIf (kp true false) x (mergeL kp a (y :: b)) else if y < x then putIf (kp false true) y (mergeL kp (x :: a) b) else putIf (kp true true) x (mergeL kp a b)
termination_by a b => a.length + b.length
abbrev Up (l : List Int) : Prop := l.Pairwise (· < ·)
theorem up_ext : ∀ {l m : List Int}, Up l → Up m → (∀ x, x ∈ l ↔ x ∈ m) → l = m
  | [], [], _, _, _ => rfl
  | [], y :: m, _, _, h => by have := (h y).2 (by simp); cases this
  | x :: l, [], _, _, h => by have := (h x).1 (by simp); cases this
  | x :: l, y :: m, hl, hm, h => by
    obtain ⟨hx, hl'⟩ := List.pairwise_cons.1 hl
    obtain ⟨hy, hm'⟩ := List.pairwise_cons.1 hm
    have hxy : x = y := by
      rcases List.mem_cons.1 ((h x).1 (by simp)) with e | e
      · exact e
      · rcases List.mem_cons.1 ((h y).2 (by simp)) with e' | e'
        · exact e'.symm
        · have := hx y e'; have := hy x e; omega
    subst hxy
    congr 1
    refine up_ext hl' hm' fun z => ?_
    constructor
    · intro hz
      rcases List.mem_cons.1 ((h z).1 (List.mem_cons_of_mem _ hz)) with e | e
      · subst e; have := hx z hz; omega
      · exact e
    · intro hz
      rcases List.mem_cons.1 ((h z).2 (List.mem_cons_of_mem _ hz)) with e | e
      · subst e; have := hy z hz; omega
      · exact e
theorem mem_putIf {k : Bool} {x z : Int} {l : List Int} : z ∈ putIf k x l ↔ (k = true ∧ z = x) ∨ z ∈ l := by
  unfold putIf
  cases k <;> simp
theorem merge_mem (kp : Bool → Bool → Bool) (h0 : kp false false = false) (z : Int) : ∀ (xs ys : List Int), Up xs → Up ys →
    (z ∈ mergeL kp xs ys ↔ kp (decide (z ∈ xs)) (decide (z ∈ ys)) = true) := by
  intro xs ys
  fun_induction mergeL kp xs ys with
  | case1 => intro _ _; simp [h0]
  | case2 x a ih =>
    intro hx hy
    obtain ⟨hxa, ha⟩ := List.pairwise_cons.1 hx
    rw [mem_putIf, ih ha hy]
    by_cases hz : z = x
    · subst hz
      have : z ∉ a := fun h => by have := hxa z h; omega
      simp [this, h0]
    · simp [hz]
  | case3 y b ih =>
    intro hx hy
    obtain ⟨hyb, hb⟩ := List.pairwise_cons.1 hy
    rw [mem_putIf, ih hx hb]
    by_cases hz : z = y
    · subst hz
      have : z ∉ b := fun h => by have := hyb z h; omega
      simp [this, h0]
    · simp [hz]
  | case4 x a y b h ih =>
    intro hx hy
    obtain ⟨hxa, ha⟩ := List.pairwise_cons.1 hx
    obtain ⟨hyb, hb⟩ := List.pairwise_cons.1 hy
    rw [mem_putIf, ih ha hy]
    by_cases hz : z = x
    · subst hz
      have h1 : z ∉ a := fun h => by have := hxa z h; omega
      have h2 : z ∉ y :: b := fun h' => by
        rcases List.mem_cons.1 h' with e | e
        · omega
        · have := hyb z e; omega
      simp [h1, h2, h0]
    · simp [hz]
  | case5 x a y b h h' ih =>
    intro hx hy
    obtain ⟨hxa, ha⟩ := List.pairwise_cons.1 hx
    obtain ⟨hyb, hb⟩ := List.pairwise_cons.1 hy
    rw [mem_putIf, ih hx hb]
    by_cases hz : z = y
    · subst hz
      have h1 : z ∉ b := fun h => by have := hyb z h; omega
      have h2 : z ∉ x :: a := fun h' => by
        rcases List.mem_cons.1 h' with e | e
        · omega
        · have := hxa z e; omega
      simp [h1, h2, h0]
    · simp [hz]
  | case6 x a y b h h' ih =>
    intro hx hy
    obtain ⟨hxa, ha⟩ := List.pairwise_cons.1 hx
    obtain ⟨hyb, hb⟩ := List.pairwise_cons.1 hy
    have hxy : x = y := by omega
    subst hxy
    rw [mem_putIf, ih ha hb]
    by_cases hz : z = x
    · subst hz
      have h1 : z ∉ b := fun h => by have := hyb z h; omega
      have h2 : z ∉ a := fun h => by have := hxa z h; omega
      simp [h1, h2, h0]
    · simp [hz]
theorem merge_sub (kp : Bool → Bool → Bool) (z : Int) : ∀ (xs ys : List Int), z ∈ mergeL kp xs ys → z ∈ xs ∨ z ∈ ys := by
  intro xs ys
  fun_induction mergeL kp xs ys with
  | case1 => intro h; simp at h
  | case2 x a ih => rw [mem_putIf]; rintro (⟨_, rfl⟩ | h)
                    · simp
                    · have := ih h; simp at this; simp [this]
  | case3 y b ih => rw [mem_putIf]; rintro (⟨_, rfl⟩ | h)
                    · simp
                    · have := ih h; simp at this; simp [this]
  | case4 x a y b h ih => rw [mem_putIf]; rintro (⟨_, rfl⟩ | h)
                          · simp
                          · rcases ih h with h | h
                            · simp [h]
                            · exact .inr h
  | case5 x a y b h h' ih => rw [mem_putIf]; rintro (⟨_, rfl⟩ | h)
                             · simp
                             · rcases ih h with h | h
                               · exact .inl h
                               · simp [h]
  | case6 x a y b h h' ih => rw [mem_putIf]; rintro (⟨_, rfl⟩ | h)
                             · simp
                             · rcases ih h with h | h
                               · simp [h]
                               · simp [h]
theorem merge_up (kp : Bool → Bool → Bool) : ∀ (xs ys : List Int), Up xs → Up ys → Up (mergeL kp xs ys) := by
  intro xs ys
  have put : ∀ (k : Bool) (x : Int) (l : List Int), (∀ z ∈ l, x < z) → Up l → Up (putIf k x l) := by
    intro k x l h hl
    cases k
    · exact hl
    · exact List.pairwise_cons.2 ⟨h, hl⟩
  fun_induction mergeL kp xs ys with
  | case1 => intro _ _; exact List.Pairwise.nil
  | case2 x a ih =>
    intro hx hy
    obtain ⟨hxa, ha⟩ := List.pairwise_cons.1 hx
    refine put _ _ _ (fun z hz => ?_) (ih ha hy)
    rcases merge_sub kp z _ _ hz with h | h
    · exact hxa z h
    · cases h
  | case3 y b ih =>
    intro hx hy
    obtain ⟨hyb, hb⟩ := List.pairwise_cons.1 hy
    refine put _ _ _ (fun z hz => ?_) (ih hx hb)
    rcases merge_sub kp z _ _ hz with h | h
    · cases h
    · exact hyb z h
  | case4 x a y b h ih =>
    intro hx hy
    obtain ⟨hxa, ha⟩ := List.pairwise_cons.1 hx
    obtain ⟨hyb, hb⟩ := List.pairwise_cons.1 hy
    refine put _ _ _ (fun z hz => ?_) (ih ha hy)
    rcases merge_sub kp z _ _ hz with h | h
    · exact hxa z h
    · rcases List.mem_cons.1 h with e | e
      · omega
      · have := hyb z e; omega
  | case5 x a y b h h' ih =>
    intro hx hy
    obtain ⟨hxa, ha⟩ := List.pairwise_cons.1 hx
    obtain ⟨hyb, hb⟩ := List.pairwise_cons.1 hy
    refine put _ _ _ (fun z hz => ?_) (ih hx hb)
    rcases merge_sub kp z _ _ hz with h | h
    · rcases List.mem_cons.1 h with e | e
      · omega
      · have := hxa z e; omega
    · exact hyb z h
  | case6 x a y b h h' ih =>
    intro hx hy
    obtain ⟨hxa, ha⟩ := List.pairwise_cons.1 hx
    obtain ⟨hyb, hb⟩ := List.pairwise_cons.1 hy
    refine put _ _ _ (fun z hz => ?_) (ih ha hb)
    rcases merge_sub kp z _ _ hz with h | h
    · exact hxa z h
    · have := hyb z h; omega
theorem merge_len (kp : Bool → Bool → Bool) : ∀ (xs ys : List Int), (mergeL kp xs ys).length ≤ xs.length + ys.length := by
  intro xs ys
  have put : ∀ (k : Bool) (x : Int) (l : List Int), (putIf k x l).length ≤ l.length + 1 := by intro k x l; cases k <;> simp [putIf]
  fun_induction mergeL kp xs ys with
  | case1 => simp
  | case2 x a ih => have := put (kp true false) x (mergeL kp a []); simp at ih ⊢; omega
  | case3 y b ih => have := put (kp false true) y (mergeL kp [] b); simp at ih ⊢; omega
  | case4 x a y b h ih => have := put (kp true false) x (mergeL kp a (y :: b)); simp at ih ⊢; omega
  | case5 x a y b h h' ih => have := put (kp false true) y (mergeL kp (x :: a) b); simp at ih ⊢; omega
  | case6 x a y b h h' ih => have := put (kp true true) x (mergeL kp a b); simp at ih ⊢; omega
abbrev unionL (xs ys : List Int) : List Int := mergeL (fun x y => x || y) xs ys
theorem mem_union {xs ys : List Int} (hx : Up xs) (hy : Up ys) {z : Int} : z ∈ unionL xs ys ↔ z ∈ xs ∨ z ∈ ys := by
  rw [unionL, merge_mem _ rfl z xs ys hx hy]; simp
end Go.Proofs.Ythdhmflodiincaa

namespace Go.Proofs.Ythdhmflodiincaa
open Go.RowKit Go.Maps

def addL (l : List Int) (z : Int) : List Int := unionL l [z]
theorem addL_up {l : List Int} {z : Int} (h : Up l) : Up (addL l z) := merge_up _ _ _ h (List.pairwise_singleton _ _)
theorem mem_addL {l : List Int} {z x : Int} (h : Up l) : x ∈ addL l z ↔ x ∈ l ∨ x = z := by
  rw [addL, mem_union h (List.pairwise_singleton _ _), List.mem_singleton]
theorem addL_len (l : List Int) (z : Int) : (addL l z).length ≤ l.length + 1 := merge_len (fun x y => x || y) l [z]
def ofTo (rs : List Int) : Nat → List Int
  | 0 => []
  | i + 1 => match rs[i]? with | some z => addL (ofTo rs i) z | none => ofTo rs i
theorem ofTo_next {rs : List Int} {i : Nat} {z : Int} (h : rs[i]? = some z) : ofTo rs (i + 1) = addL (ofTo rs i) z := by rw [ofTo, h]
theorem ofTo_up {rs : List Int} : ∀ {i : Nat}, Up (ofTo rs i)
  | 0 => List.Pairwise.nil
  | i + 1 => by
    rw [ofTo]
    split
    · exact addL_up ofTo_up
    · exact ofTo_up
theorem ofTo_len {rs : List Int} : ∀ {i : Nat}, (ofTo rs i).length ≤ i
  | 0 => Nat.le_refl _
  | i + 1 => by
    have ih := ofTo_len (rs := rs) (i := i)
    rw [ofTo]
    split
    · exact Nat.le_trans (addL_len _ _) (by omega)
    · omega
theorem mem_ofTo {rs : List Int} {x : Int} : ∀ {i : Nat}, x ∈ ofTo rs i ↔ ∃ j, j < i ∧ rs[j]? = some x
  | 0 => by simp [ofTo]
  | i + 1 => by
    cases h : rs[i]? with
    | none =>
      rw [ofTo, h]
      simp only []
      rw [mem_ofTo]
      exact ⟨fun ⟨j, h1, h2⟩ => ⟨j, by omega, h2⟩, fun ⟨j, h1, h2⟩ => ⟨j, by
        by_cases hj : j = i
        · subst hj; rw [h] at h2; cases h2
        · omega, h2⟩⟩
    | some z =>
      rw [ofTo_next h, mem_addL ofTo_up, mem_ofTo]
      constructor
      · rintro (⟨j, h1, h2⟩ | rfl)
        · exact ⟨j, by omega, h2⟩
        · exact ⟨i, by omega, h⟩
      · rintro ⟨j, h1, h2⟩
        by_cases hj : j = i
        · subst hj; rw [h] at h2; cases h2; exact .inr rfl
        · exact .inl ⟨j, by omega, h2⟩

def SetM (w : World) (b : Nat) (S : List Int) : Prop :=
  w.ownsMap (H := Unit) Try.prog 3 (plainElem Try.prog 4) b S.length (Maps.setOf (.lit (.bool true)) (S.map (Lit.int .i64))) ∧ ∀ x ∈ S, (Lit.int .i64 x).wf = true

theorem SetM.grown {w w' : World} {b : Nat} {S : List Int} {r : Option Nat} (h : SetM w b S) (hg : w.grownBy w' r) (hr : some b ≠ r) : SetM w' b S := ⟨h.1.kept hg hr, h.2⟩
theorem SetM.lt {w : World} {b : Nat} {S : List Int} (h : SetM w b S) : b < w.heap.size := h.1.lt
theorem SetM.new (w : World) : SetM (w.alloc (.map #[] 0)) w.heap.size [] := ⟨World.ownsMap_made w _ _ _, fun x hx => by cases hx⟩
theorem isKey_ints (S : List Int) : ∀ x ∈ S.map (Lit.int .i64), Go.WideAt.IsKeyLit x := fun x hx => by
  obtain ⟨y, _, rfl⟩ := List.mem_map.1 hx
  trivial

theorem atKey_setOf (u z : DataW Unit) (k : Int) : ∀ S : List Int, (Maps.setOf u (S.map (Lit.int .i64))).atKey (.int .i64 k) z = if k ∈ S then u else z := by
  intro S
  rw [← List.reverse_reverse S]
  generalize S.reverse = R
  induction R with
  | nil => simp [Maps.setOf, DataW.atKey]
  | cons x R ih =>
    rw [List.reverse_cons, List.map_append, List.map_singleton, Maps.setOf_snoc]
    by_cases hx : k = x
    · subst hx
      rw [Maps.atKey_put_same ((Maps.tidy_setOf u _ (isKey_ints _)).isMap) (by trivial : Go.WideAt.IsKeyLit (.int .i64 k))]
      simp
    · rw [Maps.atKey_put_other (by simpa using hx), ih]
      simp [hx]

theorem mem_keys (S : List Int) (x : Int) : Maps.has (Maps.setOf (.lit (.bool true) : DataW Unit) (S.map (Lit.int .i64))) (.int .i64 x) = true ↔ x ∈ S := by
  rw [Maps.has_setOf _ _ _ (isKey_ints S), List.any_eq_true]
  constructor
  · rintro ⟨y, hy, hs⟩
    obtain ⟨z, hz, rfl⟩ := List.mem_map.1 hy
    have : z = x := by simpa [Lit.sameKey] using hs
    rw [← this]; exact hz
  · intro hx
    exact ⟨_, List.mem_map.2 ⟨x, hx, rfl⟩, by simp [Lit.sameKey]⟩

theorem size_keys (S : List Int) : Maps.size (Maps.setOf (.lit (.bool true) : DataW Unit) (S.map (Lit.int .i64))) ≤ S.length := by
  rw [← List.reverse_reverse S]
  generalize S.reverse = R
  induction R with
  | nil => simp [Maps.setOf, Maps.size]
  | cons x R ih =>
    rw [List.reverse_cons, List.map_append, List.map_singleton, Maps.setOf_snoc, Maps.size_put (Maps.tidy_setOf _ _ (isKey_ints _))]
    simp only [List.length_append, List.length_singleton]
    split <;> omega

abbrev uniq (S : List Int) : List Int := ofTo S S.length
theorem mem_uniq {S : List Int} {x : Int} : x ∈ uniq S ↔ x ∈ S := by
  rw [mem_ofTo]
  constructor
  · rintro ⟨j, _, e⟩
    exact List.mem_of_getElem? e
  · intro hx
    obtain ⟨j, hj, e⟩ := List.getElem_of_mem hx
    exact ⟨j, hj, by rw [List.getElem?_eq_getElem hj, e]⟩
theorem uniq_up (S : List Int) : Up (uniq S) := ofTo_up


theorem wf64 {k : Int} (h0 : -9223372036854775808 ≤ k) (h1 : k ≤ 9223372036854775807) : (Lit.int .i64 k).wf = true := WalkArith.wf_i64 (by omega)

theorem plainElem_bool_inv {v : Value} {z : DataW Unit × List MemPlace} (h : plainElem Try.prog 4 v = some z) : ∃ b, v = .bool b ∧ z = (.lit (.bool b), []) := by
  unfold plainElem at h
  rw [Try.underlying4] at h
  cases v <;> simp at h
  exact ⟨_, rfl, h.symm⟩

theorem zero4 (w : World) : (zeroValue 4).run Try.prog w = .ok (.bool false) w := by kernel_rfl

theorem SetM.look {w : World} {b : Nat} {S : List Int} (h : SetM w b S) {k : Int} (hk : (Lit.int .i64 k).wf = true) : (Instr.lookup 107 (.map (some b)) (.int .i64 k) false).run Try.prog w = .ok (.bool (decide (k ∈ S))) w := by
  obtain ⟨v, ps, hr, hv⟩ := h.1.lookup (Maps.int_keyed Try.underlying3) Try.underlying107 (zero4 w) (plainElem_bool Try.underlying4 false) (Maps.keyOf_int_mk Try.underlying3 hk)
  rw [atKey_setOf] at hv
  obtain ⟨x, rfl, hx⟩ := plainElem_bool_inv hv
  rw [hr]
  by_cases hm : k ∈ S
  · rw [if_pos hm] at hx
    simp at hx
    simp [hm, hx.1]
  · rw [if_neg hm] at hx
    simp at hx
    simp [hm, hx.1]

theorem SetM.store {w : World} {b : Nat} {S : List Int} (h : SetM w b S) (hl : S.length ≤ 1000000) {k : Int} (hk : (Lit.int .i64 k).wf = true) :
    ∃ w', (Instr.mapUpdate 107 (.map (some b)) (.int .i64 k) (.bool true)).run Try.prog w = .ok () w' ∧ SetM w' b (S ++ [k]) ∧ w.grownBy w' (some b) := by
  obtain ⟨w', hr, ho, ht⟩ := h.1.store (Maps.int_keyed Try.underlying3) Try.underlying107 (by unfold maxLen; omega) (Maps.keyOf_int_mk Try.underlying3 hk) (plainElem_bool Try.underlying4 true)
  refine ⟨w', hr, ⟨?_, ?_⟩, ht.grown⟩
  · rw [List.map_append, List.map_singleton, Maps.setOf_snoc, List.length_append]
    exact ho
  · intro x hx
    rcases List.mem_append.1 hx with hx | hx
    · exact h.2 x hx
    · rw [List.mem_singleton.1 hx]; exact hk

theorem ready_setM {ops : Array Oper} {o : Oper} {a : Act} {Q : Exit → Act → World → Prop} {K' : Act → World → Prop} {w : World} (m x : Operand) (hgd : o.guard = none)
    (ho : o.op = .mapUpdate 107 m x (.const (.bool true))) (b : Nat) (S : List Int) (hm : a.eval m = .map (some b)) (hown : SetM w b S) (hl : S.length ≤ 1000000) (k : Int) (hx : a.eval x = .int .i64 k) (hk : (Lit.int .i64 k).wf = true)
    (h : ∀ w', SetM w' b (S ++ [k]) → w.grownBy w' (some b) → K' (a.put o.dst undef) w') :
    if Region.wanted o (yielded ops a.tmps) = true then Oper.wp Try.prog o a w K' Q else K' (a.put o.dst undef) w := by
  obtain ⟨w', hr, h2, h3⟩ := hown.store hl hk
  have hw : Region.wanted o (yielded ops a.tmps) = true := by simp only [Region.wanted, hgd]
  rw [if_pos hw]
  unfold Oper.wp
  have hv : a.eval (.const (.bool true)) = .bool true := rfl
  simp [execOp, ho, hm, hx, hv, hr, Result.andThen]
  exact h w' h2 h3

theorem ret_rel {w w3 : World} {B p : Nat} {a : Option Addr} {c : Nat} {k : Int} {L : List Int} (hs : Span (B + 1) w3.heap.size w3 (fun V => IntsW V a c L)) (hB : w.heap.size ≤ B) (hg : w.grownBy w3 none) :
    Span w.heap.size ((w3.setCell ⟨B, 0, none⟩ (.int .i64 k)).setCell ⟨B, 1, none⟩ (.slice a p c)).heap.size ((w3.setCell ⟨B, 0, none⟩ (.int .i64 k)).setCell ⟨B, 1, none⟩ (.slice a p c)) (fun V => IntsW V a c L) ∧
      w.grownBy ((w3.setCell ⟨B, 0, none⟩ (.int .i64 k)).setCell ⟨B, 1, none⟩ (.slice a p c)) none := by
  constructor
  · have h1 := (hs.off (grown_set _ B 0 (.int .i64 k)) (fun x e => by cases e; exact .inl (by omega))).off (grown_set _ B 1 (.slice a p c)) (fun x e => by cases e; exact .inl (by omega))
    exact h1.wide (by omega) (by simp [World.setCell]) (Nat.le_refl _)
  · exact grown_own (grown_own hg (grown_set _ B 0 _) (fun k hk => by cases hk; omega)) (grown_set _ B 1 _) (fun k hk => by cases hk; omega)

end Go.Proofs.Ythdhmflodiincaa

namespace Go.Proofs.Ythdhmflodiincaa
open Go.RowKit Go.Maps Go.Sort Go.Shelf

def Try.keysA_ren : Go.Shelf.Ren := ⟨fun | 7 => 127 | 10 => 134 | n => n, fun | 23 => 107 | 26 => 3 | 3 => 4 | 28 => 131 | 0 => 0 | 27 => 130 | 33 => 110 | 4 => 4 | n => n, fun | n => n⟩
theorem Try.keysA : Go.Proofs.SlLaysZI.n7 Try.prog Try.keysA_ren where
  mixed := by kernel_rfl
  f7 := ⟨Try.f127.name, of_decide_eq_true (by kernel_rfl), Try.func127.trans (congrArg some (by kernel_rfl))⟩
  f10 := ⟨Try.f134.name, of_decide_eq_true (by kernel_rfl), Try.func134.trans (congrArg some (by kernel_rfl))⟩
  t0 := Try.underlying0
  a0 := Try.isAgg0
  z0 := Try.sizeOf0
  v0 := Try.zeroValue0
  t4 := Try.underlying4
  a4 := Try.isAgg4
  z4 := Try.sizeOf4
  v4 := Try.zeroValue4
  t23 := Try.underlying107
  a23 := Try.isAgg107
  z23 := Try.sizeOf107
  v23 := Try.zeroValue107
  t26 := Try.underlying3
  a26 := Try.isAgg3
  z26 := Try.sizeOf3
  v26 := Try.zeroValue3
  t27 := Try.underlying130
  a27 := Try.isAgg130
  z27 := Try.sizeOf130
  v27 := Try.zeroValue130
  t28 := Try.underlying131
  a28 := Try.isAgg131
  z28 := Try.sizeOf131
  v28 := Try.zeroValue131
  t33 := Try.underlying110
  a33 := Try.isAgg110
  z33 := Try.sizeOf110
  v33 := Try.zeroValue110
def Try.sortedA_ren : Go.Shelf.Ren := ⟨fun | 6 => 126 | 8 => 132 | 9 => 133 | 11 => 145 | 13 => 130 | 12 => 146 | 23 => 143 | 24 => 144 | 14 => 152 | 15 => 153 | 16 => 154 | 17 => 155 | 18 => 156 | 19 => 157 | 20 => 158 | 21 => 159 | 22 => 160 | 25 => 162 | 26 => 148 | 27 => 149 | 28 => 163 | 29 => 164 | 30 => 131 | 31 => 165 | n => n, fun | 26 => 3 | 28 => 131 | 24 => 31 | 0 => 0 | 3 => 3 | 37 => 135 | 48 => 145 | 50 => 147 | 4 => 4 | 40 => 139 | 39 => 138 | 45 => 103 | 5 => 5 | 9 => 9 | 51 => 150 | 55 => 154 | 57 => 162 | 58 => 163 | 33 => 110 | n => n, fun | n => n⟩
theorem Try.sortedA : Go.Proofs.SlLaysZI.n6 Try.prog Try.sortedA_ren where
  mixed := by kernel_rfl
  f6 := ⟨Try.f126.name, of_decide_eq_true (by kernel_rfl), Try.func126.trans (congrArg some (by kernel_rfl))⟩
  f8 := ⟨Try.f132.name, of_decide_eq_true (by kernel_rfl), Try.func132.trans (congrArg some (by kernel_rfl))⟩
  f11 := ⟨Try.f145.name, of_decide_eq_true (by kernel_rfl), Try.func145.trans (congrArg some (by kernel_rfl))⟩
  t0 := Try.underlying0
  a0 := Try.isAgg0
  z0 := Try.sizeOf0
  v0 := Try.zeroValue0
  t24 := Try.underlying31
  a24 := Try.isAgg31
  z24 := Try.sizeOf31
  v24 := Try.zeroValue31
  t26 := Try.underlying3
  a26 := Try.isAgg3
  z26 := Try.sizeOf3
  v26 := Try.zeroValue3
  t28 := Try.underlying131
  a28 := Try.isAgg131
  z28 := Try.sizeOf131
  v28 := Try.zeroValue131
  i26 := by kernel_rfl
def Try.sortA_ren : Go.Shelf.Ren := ⟨fun | 5 => 133 | 8 => 130 | 7 => 146 | 19 => 143 | 20 => 144 | 10 => 152 | 11 => 153 | 12 => 154 | 13 => 155 | 14 => 156 | 15 => 157 | 16 => 158 | 17 => 159 | 18 => 160 | 30 => 162 | 31 => 148 | 32 => 149 | 33 => 163 | 34 => 164 | 35 => 131 | 40 => 165 | n => n, fun | 23 => 31 | 25 => 3 | 3 => 3 | 32 => 135 | 22 => 31 | 0 => 0 | 44 => 145 | 46 => 147 | 4 => 4 | 36 => 139 | 35 => 138 | 41 => 103 | 5 => 5 | 9 => 9 | 53 => 150 | 57 => 154 | 63 => 162 | 64 => 163 | n => n, fun | n => n⟩
theorem Try.sortA : Go.Proofs.SlLaysM.n5 Try.prog Try.sortA_ren where
  mixed := by kernel_rfl
  f5 := ⟨Try.f133.name, of_decide_eq_true (by kernel_rfl), Try.func133.trans (congrArg some (by kernel_rfl))⟩
  f7 := ⟨Try.f146.name, of_decide_eq_true (by kernel_rfl), Try.func146.trans (congrArg some (by kernel_rfl))⟩
  f8 := Try.func130.trans (congrArg some (by kernel_rfl))
  f10 := ⟨Try.f152.name, of_decide_eq_true (by kernel_rfl), Try.func152.trans (congrArg some (by kernel_rfl))⟩
  f11 := ⟨Try.f153.name, of_decide_eq_true (by kernel_rfl), Try.func153.trans (congrArg some (by kernel_rfl))⟩
  f12 := ⟨Try.f154.name, of_decide_eq_true (by kernel_rfl), Try.func154.trans (congrArg some (by kernel_rfl))⟩
  f13 := ⟨Try.f155.name, of_decide_eq_true (by kernel_rfl), Try.func155.trans (congrArg some (by kernel_rfl))⟩
  f14 := ⟨Try.f156.name, of_decide_eq_true (by kernel_rfl), Try.func156.trans (congrArg some (by kernel_rfl))⟩
  f15 := ⟨Try.f157.name, of_decide_eq_true (by kernel_rfl), Try.func157.trans (congrArg some (by kernel_rfl))⟩
  f16 := ⟨Try.f158.name, of_decide_eq_true (by kernel_rfl), Try.func158.trans (congrArg some (by kernel_rfl))⟩
  f17 := ⟨Try.f159.name, of_decide_eq_true (by kernel_rfl), Try.func159.trans (congrArg some (by kernel_rfl))⟩
  f18 := ⟨Try.f160.name, of_decide_eq_true (by kernel_rfl), Try.func160.trans (congrArg some (by kernel_rfl))⟩
  f19 := Try.func143.trans (congrArg some (by kernel_rfl))
  f20 := Try.func144.trans (congrArg some (by kernel_rfl))
  f30 := ⟨Try.f162.name, of_decide_eq_true (by kernel_rfl), Try.func162.trans (congrArg some (by kernel_rfl))⟩
  f31 := Try.func148.trans (congrArg some (by kernel_rfl))
  f32 := Try.func149.trans (congrArg some (by kernel_rfl))
  f33 := ⟨Try.f163.name, of_decide_eq_true (by kernel_rfl), Try.func163.trans (congrArg some (by kernel_rfl))⟩
  f34 := ⟨Try.f164.name, of_decide_eq_true (by kernel_rfl), Try.func164.trans (congrArg some (by kernel_rfl))⟩
  f35 := ⟨Try.f131.name, of_decide_eq_true (by kernel_rfl), Try.func131.trans (congrArg some (by kernel_rfl))⟩
  f40 := ⟨Try.f165.name, of_decide_eq_true (by kernel_rfl), Try.func165.trans (congrArg some (by kernel_rfl))⟩
  t0 := Try.underlying0
  a0 := Try.isAgg0
  z0 := Try.sizeOf0
  v0 := Try.zeroValue0
  t3 := Try.underlying3
  a3 := Try.isAgg3
  z3 := Try.sizeOf3
  v3 := Try.zeroValue3
  t4 := Try.underlying4
  a4 := Try.isAgg4
  z4 := Try.sizeOf4
  v4 := Try.zeroValue4
  t5 := Try.underlying5
  a5 := Try.isAgg5
  z5 := Try.sizeOf5
  v5 := Try.zeroValue5
  t9 := Try.underlying9
  a9 := Try.isAgg9
  z9 := Try.sizeOf9
  v9 := Try.zeroValue9
  t22 := Try.underlying31
  a22 := Try.isAgg31
  z22 := Try.sizeOf31
  v22 := Try.zeroValue31
  t23 := Try.underlying31
  a23 := Try.isAgg31
  z23 := Try.sizeOf31
  v23 := Try.zeroValue31
  t25 := Try.underlying3
  a25 := Try.isAgg3
  z25 := Try.sizeOf3
  v25 := Try.zeroValue3
  t32 := Try.underlying135
  a32 := Try.isAgg135
  z32 := Try.sizeOf135
  v32 := Try.zeroValue135
  t35 := Try.underlying138
  a35 := Try.isAgg138
  z35 := Try.sizeOf138
  v35 := Try.zeroValue138
  t36 := Try.underlying139
  a36 := Try.isAgg139
  z36 := Try.sizeOf139
  v36 := Try.zeroValue139
  t41 := Try.underlying103
  a41 := Try.isAgg103
  z41 := Try.sizeOf103
  v41 := Try.zeroValue103
  t44 := Try.underlying145
  a44 := Try.isAgg145
  z44 := Try.sizeOf145
  v44 := Try.zeroValue145
  t46 := Try.underlying147
  a46 := Try.isAgg147
  z46 := Try.sizeOf147
  v46 := Try.zeroValue147
  t53 := Try.underlying150
  a53 := Try.isAgg150
  z53 := Try.sizeOf150
  v53 := Try.zeroValue150
  t57 := Try.underlying154
  a57 := Try.isAgg154
  z57 := Try.sizeOf154
  v57 := Try.zeroValue154
  t63 := Try.underlying162
  a63 := Try.isAgg162
  z63 := Try.sizeOf162
  v63 := Try.zeroValue162
  t64 := Try.underlying163
  a64 := Try.isAgg163
  z64 := Try.sizeOf163
  v64 := Try.zeroValue163
theorem sortsA (m : Nat) : AnyZI.SortsIn Try.prog Try.sortedA_ren Fence.wide m :=
  ⟨fun blk off cap ss W hH hblk hsz => callsIn_wide.2 (AnyM.slices_Sort_int Try.sortA blk off cap ss W hH hblk hsz),
   fun p cap W => callsIn_wide.2 (AnyM.slices_Sort_int_none Try.sortA p cap W)⟩

theorem sorted_keys {w : World} {b : Nat} {S ss : List Int} (h : SetM w b S) (hp : ss.Perm (intKeys (Maps.setOf (.lit (.bool true) : DataW Unit) (S.map (Lit.int .i64))))) :
    (ss.mergeSort fun x y => decide (x ≤ y)) = ofTo S S.length := by
  obtain ⟨es, hes, hpw⟩ := h.1.tidy (Maps.int_keyed Try.underlying3)
  have hm := mem_keys S
  rw [hes] at hp hm
  have hko : ∀ p ∈ es, ∃ x, p.1 = .int .i64 x := by
    obtain ⟨es0, clock, _, F, _, hD⟩ := h.1
    rw [hes] at hD
    injection hD with hD
    intro p hp
    rw [hD] at hp
    obtain ⟨x, hx, rfl⟩ := List.mem_map.1 (mem_sorted.1 hp)
    obtain ⟨y, hy⟩ := F.reads x hx
    rw [Go.WideElems.rg_of hy]
    have hv := Go.WideElems.rd_key hy
    obtain ⟨z, _, hz, _⟩ := Maps.keyOf_i64 Try.underlying3 hv
    exact ⟨z, hz⟩
  have hmem : ∀ x, x ∈ ss ↔ x ∈ S := fun x => by
    rw [hp.mem_iff, ← hm x, Maps.has_eq, List.any_eq_true]
    show x ∈ es.map (fun p => Go.intOf p.1) ↔ _
    rw [List.mem_map]
    constructor
    · rintro ⟨p, hp', rfl⟩
      obtain ⟨a, ha⟩ := hko p hp'
      exact ⟨p, hp', by rw [ha]; simp [Lit.sameKey, Go.intOf]⟩
    · rintro ⟨p, hp', hs⟩
      obtain ⟨a, ha⟩ := hko p hp'
      rw [ha] at hs
      exact ⟨p, hp', by rw [ha]; simpa [Lit.sameKey, Go.intOf] using hs⟩
  have hnd : ss.Nodup := by
    refine hp.symm.nodup ?_
    show (es.map fun p => Go.intOf p.1).Nodup
    refine List.pairwise_map.2 (hpw.imp_of_mem fun {p q} hp' hq' hne e => hne ?_)
    obtain ⟨a, ha⟩ := hko p hp'
    obtain ⟨b, hb⟩ := hko q hq'
    rw [ha, hb] at e ⊢
    exact congrArg _ e
  have hps := List.mergeSort_perm ss (fun x y => decide (x ≤ y))
  have hnd2 : (ss.mergeSort fun x y => decide (x ≤ y)).Nodup := hps.symm.nodup hnd
  have hle : (ss.mergeSort fun x y => decide (x ≤ y)).Pairwise (fun a b => decide (a ≤ b) = true) :=
    List.pairwise_mergeSort (fun a b c h1 h2 => by simp only [decide_eq_true_eq] at *; omega) (fun a b => by simp only [Bool.or_eq_true, decide_eq_true_eq]; omega) ss
  refine up_ext ?_ ofTo_up fun x => ?_
  · refine (hle.and hnd2).imp fun {a b} h => ?_
    have h1 := of_decide_eq_true h.1
    have h2 := h.2
    omega
  · rw [hps.mem_iff, hmem x, mem_ofTo]
    constructor
    · intro hx
      obtain ⟨j, hj, e⟩ := List.getElem_of_mem hx
      exact ⟨j, hj, by rw [List.getElem?_eq_getElem hj, e]⟩
    · rintro ⟨j, _, e⟩
      exact List.mem_of_getElem? e

theorem grown_of_below {w w' : World} (h : Below w.heap.size w w') : w.grownBy w' none := ⟨h.os, h.tape, h.output, h.size, fun k hk _ => h.block k hk⟩
theorem span_own {w w' : World} {v : Value} {n : Nat} {l : List Int} (hn : l.length = n) (h : w'.ownsRow w.heap.size 3 1 v n (intCells l)) : ∃ a c, v = .slice a n c ∧ Span w.heap.size w'.heap.size w' (fun W => IntsW W a c l) := by
  subst hn
  obtain ⟨a, c, e, hs⟩ := ints_span h
  exact ⟨a, c, e, hs.map fun W hW => hW.weak⟩

theorem keys_calls (mb : Option Nat) (W : World) : Calls Try.prog 127 #[.map mb] W fun e w' => e = .returned (.func (.func 134) #[] #[.pointer (some ⟨W.heap.size, 0, none⟩)]) ∧ w' = W.alloc (.cells #[.map mb] 107) :=
  (callsIn_wide (n := 5)).1 (AnyZI.keys_in Try.keysA Fence.wide 5 trivial rfl mb W)

theorem sorted_calls (Bm b : Nat) (S : List Int) (w : World) (h : SetM w b S) (hm : w.cell? ⟨Bm, 0, none⟩ = some (.map (some b))) (hl : S.length ≤ 100000) :
    Calls Try.prog 126 #[.func (.func 134) #[] #[.pointer (some ⟨Bm, 0, none⟩)]] w fun e w' => ∃ a c, e = .returned (.slice a (uniq S).length c) ∧ Span w.heap.size w'.heap.size w' (fun W => IntsW W a c (uniq S)) ∧ w.grownBy w' none := by
  have hsz := size_keys S
  have hseq : SeqGives Fence.wide 2 Try.prog 134 #[.pointer (some ⟨Bm, 0, none⟩)] encZ (fun ss => ss.Perm (intKeys (Maps.setOf (.lit (.bool true) : DataW Unit) (S.map (Lit.int .i64))))) (Maps.size (Maps.setOf (.lit (.bool true) : DataW Unit) (S.map (Lit.int .i64)))) w :=
    AnyZI.keys_gives (ρ := Try.keysA_ren) { Try.keysA with } Fence.wide _ trivial rfl (by omega) Bm b _ _ _ (lies_lt hm) hm h.1
  have cS := AnyZI.sorted_in Try.sortedA Fence.wide 5 trivial trivial trivial trivial rfl (by omega) (sortsA _) (enters_of Try.func133 (by kernel_rfl) rfl) 134 #[.pointer (some ⟨Bm, 0, none⟩)] trivial (enters_of Try.func134 (by kernel_rfl) rfl) _ _ (by unfold maxLen; omega) (by omega) _ hseq
  change CallsIn _ _ Try.prog 126 _ _ _ at cS
  refine ((callsIn_wide (n := 5)).1 cS).mono ?_
  rintro e w' ⟨v, ss, rfl, hp, hrow, _, hb⟩
  have hk := sorted_keys h hp
  have hn : ss.length = (uniq S).length := by
    have := (List.mergeSort_perm ss (fun x y => decide (x ≤ y))).length_eq
    rw [hk] at this
    exact this.symm
  rw [hk, hn] at hrow
  obtain ⟨a, c, rfl, hs⟩ := span_own rfl hrow
  exact ⟨a, c, rfl, hs, grown_of_below hb⟩

theorem relres110 (tmps : Array Value) (w : World) (b : Nat) (a : Option Addr) (n c : Nat) (x : Int) (ht : tmps.getD 4 undef = .pointer (some ⟨b, 0, none⟩)) (h0 : w.cell? ⟨b, 0, none⟩ = some (.int .i64 x)) (h1 : w.cell? ⟨b, 1, none⟩ = some (.slice a n c)) :
    (results Try.f110 tmps).run Try.prog w = .ok (.agg #[.int .i64 x, .slice a n c]) w := by
  have ht' : tmps[4]?.getD undef = .pointer (some ⟨b, 0, none⟩) := by simpa using ht
  simp [results, ht', go_sem, h0, h1, Result.andThen]

theorem fromSet_calls (k : Int) (b : Nat) (S : List Int) (w : World) (h : SetM w b S) (hl : S.length ≤ 100000) :
    Calls Try.prog 110 #[.int .i64 k, .map (some b)] w fun e w' => ∃ a c, e = .returned (.agg #[.int .i64 k, .slice a (uniq S).length c]) ∧ Span w.heap.size w'.heap.size w' (fun W => IntsW W a c (uniq S)) ∧ w.grownBy w' none := by
  obtain ⟨p, hp⟩ : ∃ p, (uniq S).length = p := ⟨_, rfl⟩
  have hg := World.grownBy_alloc w (.cells #[.int .i64 0, .slice none 0 0] 47) none
  have e0 : (w.alloc (.cells #[.int .i64 0, .slice none 0 0] 47)).cell? ⟨w.heap.size, 0, none⟩ = some (.int .i64 0) := by go_simp
  have e1 : (w.alloc (.cells #[.int .i64 0, .slice none 0 0] 47)).cell? ⟨w.heap.size, 1, none⟩ = some (.slice none 0 0) := by go_simp
  have ef0 : (w.alloc (.cells #[.int .i64 0, .slice none 0 0] 47)).frozen? ⟨w.heap.size, 0, none⟩ = false := by go_simp
  have ef1 : (w.alloc (.cells #[.int .i64 0, .slice none 0 0] 47)).frozen? ⟨w.heap.size, 1, none⟩ = false := by go_simp
  obtain ⟨W, hW⟩ : ∃ W, w.alloc (.cells #[.int .i64 0, .slice none 0 0] 47) = W := ⟨_, rfl⟩
  have hsz : W.heap.size = w.heap.size + 1 := by rw [← hW]; simp
  rw [hW] at hg e0 e1 ef0 ef1
  have hga := World.grownBy_alloc W (.cells #[.map (some b)] 107) none
  have hm : (W.alloc (.cells #[.map (some b)] 107)).cell? ⟨W.heap.size, 0, none⟩ = some (.map (some b)) := by go_simp
  have hS := (h.grown hg (by simp)).grown hga (by simp)
  have HC := Lib.hid (sorted_calls W.heap.size b S _ hS hm hl)
  rw [hp] at HC ⊢
  obtain ⟨W2, hW2⟩ : ∃ W2, W.alloc (.cells #[.map (some b)] 107) = W2 := ⟨_, rfl⟩
  rw [hW2] at HC hga
  have HG := Lib.hid (And.intro hg (And.intro hga hsz))
  have HE := Lib.hid (And.intro e0 (And.intro e1 (And.intro ef0 ef1)))
  clear hg hga hsz hm hS h e0 e1 ef0 ef1
  go_enter Try.func110, Try.ntmps110
  go_wp2_with (go_at_call 127; refine (keys_calls _ _).mono ?_; rintro e w' ⟨rfl, rfl⟩)
  clear hW
  refine HC.out.mono ?_
  rintro e w3 ⟨a', c', rfl, hi, g3⟩
  have HI := Lib.hid hi; clear hi
  have g := HG.out.2.1.trans g3
  have m0 := g.cell HE.out.1 (by simp)
  have m1 := g.cell HE.out.2.1 (by simp)
  have f0 := (grown_frozen g (show w.heap.size < W.heap.size by have := HG.out.2.2; omega) 0).trans HE.out.2.2.1
  have f1 := (grown_frozen g (show w.heap.size < W.heap.size by have := HG.out.2.2; omega) 1).trans HE.out.2.2.2
  have HG3 := Lib.hid (And.intro g g3); clear g g3
  go_wp2_with fail
  refine bodyPost_ret (relres110 _ _ w.heap.size a' p c' k rfl (by rw [World.cell?_setCell_other _ _ _ _ (by intro e; injection e with _ e; cases e)]; exact World.cell?_setCell_same _ _ _ m0) (World.cell?_setCell_same _ _ _ (by rw [World.cell?_setCell_other _ _ _ _ (by intro e; injection e with _ e; cases e)]; exact m1))) rfl ⟨a', c', rfl, ?_, ?_⟩
  · have h1 := (HI.out.off (grown_set _ w.heap.size 0 (.int .i64 k)) (fun x e => by cases e; have := HG.out.2.2; have := HG.out.2.1.size; exact .inl (by omega))).off (grown_set _ w.heap.size 1 (.slice a' p c')) (fun x e => by cases e; have := HG.out.2.2; have := HG.out.2.1.size; exact .inl (by omega))
    exact h1.wide (by have := HG.out.2.2; have := HG.out.2.1.size; omega) (by simp [World.setCell]) (Nat.le_refl _)
  · exact grown_own (grown_own (HG.out.1.trans HG3.out.1) (grown_set _ w.heap.size 0 _) (fun k hk => by cases hk; omega)) (grown_set _ w.heap.size 1 _) (fun k hk => by cases hk; omega)
end Go.Proofs.Ythdhmflodiincaa

namespace Go.Proofs.Ythdhmflodiincaa
open Go.RowKit Go.Maps Go.Sort Go.Shelf


def stepC (n m f t : Nat) (S : List Int) : List Int := if ((f * n + m : Nat) : Int) ∈ S ∧ ((m * n + t : Nat) : Int) ∈ S then S ++ [((f * n + t : Nat) : Int)] else S
def runT (n m f : Nat) : Nat → List Int → List Int
  | 0, S => S
  | t + 1, S => stepC n m f t (runT n m f t S)
def runF (n m : Nat) : Nat → List Int → List Int
  | 0, S => S
  | f + 1, S => runT n m f n (runF n m f S)
def runM (n : Nat) : Nat → List Int → List Int
  | 0, S => S
  | m + 1, S => runF n m n (runM n m S)
abbrev closS (n : Nat) (xs : List Int) : List Int := runM n n xs
theorem stepC_len (n m f t : Nat) (S : List Int) : (stepC n m f t S).length ≤ S.length + 1 := by unfold stepC; split <;> simp
theorem runT_len (n m f : Nat) : ∀ (t : Nat) (S : List Int), (runT n m f t S).length ≤ S.length + t
  | 0, S => Nat.le_refl _
  | t + 1, S => by have h1 := stepC_len n m f t (runT n m f t S); have h2 := runT_len n m f t S; simp only [runT]; omega
theorem runF_len (n m : Nat) : ∀ (f : Nat) (S : List Int), (runF n m f S).length ≤ S.length + f * n
  | 0, S => by simp [runF]
  | f + 1, S => by have h1 := runT_len n m f n (runF n m f S); have h2 := runF_len n m f S; simp only [runF]; rw [Nat.succ_mul]; omega
theorem runM_len (n : Nat) : ∀ (m : Nat) (S : List Int), (runM n m S).length ≤ S.length + m * (n * n)
  | 0, S => by simp [runM]
  | m + 1, S => by have h1 := runF_len n m n (runM n m S); have h2 := runM_len n m S; simp only [runM]; rw [Nat.succ_mul]; omega

end Go.Proofs.Ythdhmflodiincaa

namespace Go.Proofs.Ythdhmflodiincaa

theorem mem_stepC {n m f t : Nat} {S : List Int} {z : Int} : z ∈ stepC n m f t S ↔ z ∈ S ∨ (z = ((f * n + t : Nat) : Int) ∧ ((f * n + m : Nat) : Int) ∈ S ∧ ((m * n + t : Nat) : Int) ∈ S) := by
  unfold stepC
  by_cases h : ((f * n + m : Nat) : Int) ∈ S ∧ ((m * n + t : Nat) : Int) ∈ S
  · rw [if_pos h, List.mem_append, List.mem_singleton]
    exact ⟨fun h' => h'.elim .inl fun e => .inr ⟨e, h⟩, fun h' => h'.elim .inl fun e => .inr e.1⟩
  · rw [if_neg h]
    exact ⟨.inl, fun h' => h'.elim id fun e => absurd e.2 h⟩
theorem runT_all {P : Int → Prop} {n m f : Nat} : ∀ (t : Nat) (S : List Int), (∀ z ∈ S, P z) → (∀ t', t' < t → ∀ S' : List Int, (∀ z ∈ S', P z) → ((f * n + m : Nat) : Int) ∈ S' → ((m * n + t' : Nat) : Int) ∈ S' → P ((f * n + t' : Nat) : Int)) → ∀ z ∈ runT n m f t S, P z
  | 0, S, h, _, z, hz => h z hz
  | t + 1, S, h, hs, z, hz => by
    have ih := runT_all t S h (fun t' ht => hs t' (by omega))
    rcases mem_stepC.1 hz with h1 | ⟨rfl, h1, h2⟩
    · exact ih z h1
    · exact hs t (by omega) _ ih h1 h2
theorem runF_all {P : Int → Prop} {n m : Nat} : ∀ (f : Nat) (S : List Int), (∀ z ∈ S, P z) → (∀ f' t', f' < f → t' < n → ∀ S' : List Int, (∀ z ∈ S', P z) → ((f' * n + m : Nat) : Int) ∈ S' → ((m * n + t' : Nat) : Int) ∈ S' → P ((f' * n + t' : Nat) : Int)) → ∀ z ∈ runF n m f S, P z
  | 0, S, h, _, z, hz => h z hz
  | f + 1, S, h, hs, z, hz => runT_all n _ (runF_all f S h (fun f' t' hf ht => hs f' t' (by omega) ht)) (fun t' ht => hs f t' (by omega) ht) z hz
theorem runM_all {P : Int → Prop} {n : Nat} : ∀ (m : Nat) (S : List Int), (∀ z ∈ S, P z) → (∀ m' f' t', m' < m → f' < n → t' < n → ∀ S' : List Int, (∀ z ∈ S', P z) → ((f' * n + m' : Nat) : Int) ∈ S' → ((m' * n + t' : Nat) : Int) ∈ S' → P ((f' * n + t' : Nat) : Int)) → ∀ z ∈ runM n m S, P z
  | 0, S, h, _, z, hz => h z hz
  | m + 1, S, h, hs, z, hz => runF_all n _ (runM_all m S h (fun m' f' t' hm hf ht => hs m' f' t' (by omega) hf ht)) (fun f' t' hf ht => hs m f' t' (by omega) hf ht) z hz
abbrev Hs (L : List Int) (z : Nat) : Prop := ((z : Nat) : Int) ∈ L
theorem pair_of {q z p : Nat} (hq : 0 < q) (h : z < p * q) : ∃ u v, u < p ∧ v < q ∧ z = u * q + v :=
  ⟨z / q, z % q, Nat.div_lt_of_lt_mul (by rw [Nat.mul_comm]; exact h), Nat.mod_lt _ hq, by rw [Nat.mul_comm]; exact (Nat.div_add_mod z q).symm⟩
theorem pair_div {q u v : Nat} (hv : v < q) : (u * q + v) / q = u := by rw [Nat.mul_comm, Nat.mul_add_div (by omega), Nat.div_eq_of_lt hv, Nat.add_zero]
theorem pair_mod {q u v : Nat} (hv : v < q) : (u * q + v) % q = v := by rw [Nat.mul_comm, Nat.mul_add_mod, Nat.mod_eq_of_lt hv]
theorem pair_inj {q u v u' v' : Nat} (hv : v < q) (hv' : v' < q) (h : u * q + v = u' * q + v') : u = u' ∧ v = v' := by
  have h1 := congrArg (· / q) h
  have h2 := congrArg (· % q) h
  simp only [pair_div hv, pair_div hv', pair_mod hv, pair_mod hv'] at h1 h2
  exact ⟨h1, h2⟩
theorem runT_mono {n m f : Nat} {z : Int} : ∀ (t : Nat) (S : List Int), z ∈ S → z ∈ runT n m f t S
  | 0, _, h => h
  | t + 1, S, h => mem_stepC.2 (.inl (runT_mono t S h))
theorem runF_mono {n m : Nat} {z : Int} : ∀ (f : Nat) (S : List Int), z ∈ S → z ∈ runF n m f S
  | 0, _, h => h
  | f + 1, S, h => runT_mono n _ (runF_mono f S h)
theorem runM_mono {n : Nat} {z : Int} : ∀ (m : Nat) (S : List Int), z ∈ S → z ∈ runM n m S
  | 0, _, h => h
  | m + 1, S, h => runF_mono n _ (runM_mono m S h)
theorem runT_has {n m f t' : Nat} : ∀ (t : Nat) (S : List Int), t' < t → Hs S (f * n + m) → Hs S (m * n + t') → Hs (runT n m f t S) (f * n + t')
  | 0, _, h, _, _ => by omega
  | t + 1, S, h, h1, h2 => by
    rcases Nat.lt_or_ge t' t with h' | h'
    · exact mem_stepC.2 (.inl (runT_has t S h' h1 h2))
    · obtain rfl : t' = t := by omega
      exact mem_stepC.2 (.inr ⟨rfl, runT_mono _ _ h1, runT_mono _ _ h2⟩)
theorem runF_has {n m f' t' : Nat} (ht : t' < n) : ∀ (f : Nat) (S : List Int), f' < f → Hs S (f' * n + m) → Hs S (m * n + t') → Hs (runF n m f S) (f' * n + t')
  | 0, _, h, _, _ => by omega
  | f + 1, S, h, h1, h2 => by
    rcases Nat.lt_or_ge f' f with h' | h'
    · exact runT_mono _ _ (runF_has ht f S h' h1 h2)
    · obtain rfl : f' = f := by omega
      exact runT_has n _ ht (runF_mono _ _ h1) (runF_mono _ _ h2)
theorem runF_iff {n m x y : Nat} {S : List Int} (hm : m < n) (hx : x < n) (hy : y < n) (_hS : ∀ z ∈ S, ∃ u v, u < n ∧ v < n ∧ z = ((u * n + v : Nat) : Int)) :
    Hs (runF n m n S) (x * n + y) ↔ Hs S (x * n + y) ∨ (Hs S (x * n + m) ∧ Hs S (m * n + y)) := by
  constructor
  · intro h
    have key := runF_all (P := fun z => ∀ u v, u < n → v < n → z = ((u * n + v : Nat) : Int) → Hs S (u * n + v) ∨ (Hs S (u * n + m) ∧ Hs S (m * n + v))) (n := n) (m := m) n S
      (fun z hz u v hu hv e => .inl (by rw [Hs, ← e]; exact hz))
      (fun f' t' hf ht S' hS' h1 h2 u v hu hv e => by
        obtain ⟨rfl, rfl⟩ := pair_inj hv ht (by omega : u * n + v = f' * n + t')
        refine .inr ⟨?_, ?_⟩
        · exact (hS' _ h1 u m hu hm rfl).elim id And.left
        · exact (hS' _ h2 m v hm hv rfl).elim id And.right)
    exact key _ h x y hx hy rfl
  · rintro (h | ⟨h1, h2⟩)
    · exact runF_mono _ _ h
    · exact runF_has hy n S hx h1 h2
theorem runM_pairs {n : Nat} (m : Nat) (_hmn : m ≤ n) {S : List Int} (hS : ∀ z ∈ S, ∃ u v, u < n ∧ v < n ∧ z = ((u * n + v : Nat) : Int)) : ∀ z ∈ runM n m S, ∃ u v, u < n ∧ v < n ∧ z = ((u * n + v : Nat) : Int) :=
  runM_all (P := fun z => ∃ u v, u < n ∧ v < n ∧ z = ((u * n + v : Nat) : Int)) m S hS (fun _ f' t' _ hf ht _ _ _ _ => ⟨f', t', hf, ht, rfl⟩)
theorem runM_closed {n : Nat} : ∀ (M : Nat), M ≤ n → ∀ {S : List Int}, (∀ z ∈ S, ∃ u v, u < n ∧ v < n ∧ z = ((u * n + v : Nat) : Int)) →
    ∀ m x y, m < M → x < n → y < n → Hs (runM n M S) (x * n + m) → Hs (runM n M S) (m * n + y) → Hs (runM n M S) (x * n + y)
  | 0, _, _, _, m, _, _, hm, _, _, _, _ => by omega
  | M + 1, hM, S, hS, m, x, y, hm, hx, hy, h1, h2 => by
    have ih := runM_closed M (by omega) hS
    have hp := runM_pairs M (by omega) hS
    have it := fun {x y : Nat} (hx : x < n) (hy : y < n) => runF_iff (m := M) (S := runM n M S) (by omega) hx hy hp
    change Hs (runF n M n (runM n M S)) _ at h1 h2
    change Hs (runF n M n (runM n M S)) _
    rcases Nat.lt_or_ge m M with hmM | hmM
    · rw [it hx (by omega)] at h1
      rw [it (by omega) hy] at h2
      rw [it hx hy]
      rcases h1 with h1 | ⟨h1, h1'⟩ <;> rcases h2 with h2 | ⟨h2, h2'⟩
      · exact .inl (ih m x y hmM hx hy h1 h2)
      · exact .inr ⟨ih m x M hmM hx (by omega) h1 h2, h2'⟩
      · exact .inr ⟨h1, ih m M y hmM (by omega) hy h1' h2⟩
      · exact .inr ⟨h1, h2'⟩
    · obtain rfl : m = M := by omega
      rw [it hx (by omega)] at h1
      rw [it (by omega) hy] at h2
      rw [it hx hy]
      exact .inr ⟨h1.elim id And.left, h2.elim id And.right⟩

theorem clos_way {n : Nat} {A : List Int} (hA : ∀ z ∈ A, ∃ u v, u < n ∧ v < n ∧ z = ((u * n + v : Nat) : Int)) {x y : Nat} (hx : x < n) (hy : y < n) : Hs (uniq (closS n A)) (x * n + y) ↔ Way (fun x y => Hs A (x * n + y)) n n x y := by
  constructor
  · intro h
    have key := runM_all (P := fun z => ∀ u v, u < n → v < n → z = ((u * n + v : Nat) : Int) → Way (fun x y => Hs A (x * n + y)) n n u v) (n := n) n A
      (fun z hz u v hu hv e => ((way_one hu hv).2 (by rw [Hs, ← e]; exact hz)).wide (by omega))
      (fun m' f' t' hm hf ht S' hS' h1 h2 u v hu hv e => by
        obtain ⟨rfl, rfl⟩ := pair_inj hv ht (by omega : u * n + v = f' * n + t')
        exact ((hS' _ h1 u m' hu hm rfl).join (hS' _ h2 m' v hm hv rfl)).short)
    exact key _ (mem_uniq.1 h) x y hx hy rfl
  · rintro ⟨m, v, h1, _, rfl, rfl, hv, hr⟩
    rw [Hs, mem_uniq]
    have hb : ∀ i, i < m → Hs (closS n A) (v 0 * n + v (i + 1)) := by
      intro i
      induction i with
      | zero => exact fun h => runM_mono _ _ (hr 0 h)
      | succ i ih => exact fun h => runM_closed n (Nat.le_refl _) hA (v (i + 1)) (v 0) (v (i + 2)) (hv _ (by omega)) (hv _ (by omega)) (hv _ (by omega)) (ih (by omega)) (runM_mono _ _ (hr (i + 1) h))
    have := hb (m - 1) (by omega)
    rwa [Nat.sub_add_cancel h1] at this
theorem val_pairs {n : Nat} {g : List Gt} {m : List Cl} (hs : Sq n g m) (v : List Bool) : ∀ z ∈ valL g v m, ∃ x y, x < n ∧ y < n ∧ z = ((x * n + y : Nat) : Int) := fun z hz => by
  unfold valL at hz
  obtain ⟨c, hc, rfl⟩ := List.mem_map.1 hz
  obtain ⟨h0, h1⟩ := hs.2 c (List.mem_filter.1 hc).1
  obtain ⟨k, hk⟩ : ∃ k : Nat, c.1 = (k : Int) := ⟨c.1.toNat, by omega⟩
  have hk2 : k < n * n := by rw [hk] at h1; exact_mod_cast h1
  obtain ⟨x, y, hx, hy, e⟩ := pair_of (by rcases Nat.eq_zero_or_pos n with rfl | h; omega; exact h) hk2
  exact ⟨x, y, hx, hy, by rw [hk, e]⟩
theorem val_rel {n : Nat} {g : List Gt} {m : List Cl} (hG : Good g) (hs : Sq n g m) (v : List Bool) (x y : Nat) : Hs (valL g v m) (x * n + y) ↔ relM g v n m x y := by
  rw [Hs, mem_valL hG hs.1.1 v]
  unfold relM
  rw [show ((x * n + y : Nat) : Int) = (x : Int) * n + y by simp]
theorem val_clos {n : Nat} {gs g : List Gt} {a m : List Cl} (hG : Good gs) (ha : Sq n gs a) (hg : Good g) (hm : Sq n g m) (v : List Bool) (h : ∀ x y, x < n → y < n → (relM g v n m x y ↔ Way (relM gs v n a) n n x y)) : valL g v m = uniq (closS n (valL gs v a)) := by
  have hA := val_pairs ha v
  have hw : ∀ x y, x < n → y < n → (Hs (valL g v m) (x * n + y) ↔ Hs (uniq (closS n (valL gs v a))) (x * n + y)) := fun x y hx hy => by
    rw [val_rel hg hm, h x y hx hy, clos_way hA hx hy]
    have e : (fun x y => Hs (valL gs v a) (x * n + y)) = relM gs v n a := by
      funext x y
      exact propext (val_rel hG ha v x y)
    rw [e]
  refine up_ext (val_up hm.1.1 v) (uniq_up _) fun z => ?_
  constructor
  · intro hz
    obtain ⟨x, y, hx, hy, rfl⟩ := val_pairs hm v z hz
    exact (hw x y hx hy).1 hz
  · intro hz
    obtain ⟨x, y, hx, hy, rfl⟩ := runM_pairs n (Nat.le_refl _) hA z (mem_uniq.1 hz)
    exact (hw x y hx hy).2 hz
theorem smP_val {n : Nat} {gs : List Gt} {a : List Cl} (hG : Good gs) (ha : Sq n gs a) (hn1 : 1 ≤ n) (hn : n ≤ 4) (hl : gs.length ≤ 1000) (v : List Bool) : valL (smP n gs a).1 v (smP n gs a).2 = uniq (closS n (valL gs v a)) := by
  obtain ⟨q1, q2, q3, q4, q5⟩ := smP_ok hG ha hn1 hn hl
  exact val_clos hG ha q1 q4 v fun x y hx hy => q5 v x y hx hy
end Go.Proofs.Ythdhmflodiincaa

namespace Go.Proofs.Ythdhmflodiincaa

theorem valE_valL {g : List Gt} {v : List Bool} {m : List Cl} (h : ∀ c ∈ m, Ok g c.2) : valE g v m = valL g v m := by
  unfold valE valL
  rw [List.filter_congr (fun c hc => eval_val (h c hc))]
theorem madeC_next (refs : List Int) (raw : List Nat) (k : Nat) : madeC refs raw (k + 1) = madeC refs raw k ++ (if (raw.getD k 0) % 2 = 1 ∧ pickL refs (raw.getD k 0 / 2) ≠ 1 then [((k : Int), pickL refs (raw.getD k 0 / 2))] else []) := by
  unfold madeC
  rw [List.range_succ, List.filterMap_append, List.filterMap_cons, List.filterMap_nil]
  by_cases hc : (raw.getD k 0) % 2 = 1 ∧ pickL refs (raw.getD k 0 / 2) ≠ 1
  · rw [if_pos hc, if_pos hc]
  · rw [if_neg hc, if_neg hc]
theorem madeC_all (refs : List Int) (raw : List Nat) : ∀ k, UpM (madeC refs raw k) ∧ ∀ c ∈ madeC refs raw k, 0 ≤ c.1 ∧ c.1 < (k : Int) ∧ c.2 ≠ 1 ∧ ∃ n, c.2 = pickL refs n
  | 0 => ⟨by unfold UpM madeC; simp, fun c hc => by simp [madeC] at hc⟩
  | k + 1 => by
    obtain ⟨h1, h2⟩ := madeC_all refs raw k
    rw [madeC_next]
    by_cases hc : (raw.getD k 0) % 2 = 1 ∧ pickL refs (raw.getD k 0 / 2) ≠ 1
    · rw [if_pos hc]
      refine ⟨?_, fun c hm => ?_⟩
      · unfold UpM at h1 ⊢
        rw [List.map_append, List.pairwise_append]
        refine ⟨h1, by simp, fun x hx y hy => ?_⟩
        obtain ⟨c, hc', rfl⟩ := List.mem_map.1 hx
        simp at hy
        subst hy
        exact (h2 c hc').2.1
      · rcases List.mem_append.1 hm with hm | hm
        · have := h2 c hm
          exact ⟨this.1, by have := this.2.1; omega, this.2.2⟩
        · rw [List.mem_singleton.1 hm]
          exact ⟨by show (0 : Int) ≤ (k : Int); omega, by show (k : Int) < ((k + 1 : Nat) : Int); omega, hc.2, _, rfl⟩
    · rw [if_neg hc, List.append_nil]
      exact ⟨h1, fun c hm => by have := h2 c hm; exact ⟨this.1, by have := this.2.1; omega, this.2.2⟩⟩
theorem made_mat {g : List Gt} {refs : List Int} (hp : 1 ≤ g.length) (h : ∀ r ∈ refs, Ok g r) (raw : List Nat) (k : Nat) : Mat g (madeC refs raw k) :=
  ⟨(madeC_all refs raw k).1, fun c hc => by
    obtain ⟨_, _, h3, n, h4⟩ := (madeC_all refs raw k).2 c hc
    exact ⟨by rw [h4]; exact pick_ok hp h n, h3⟩⟩
open Go.RowKit in
theorem value_at {g : List Gt} {vs : List Bool} {m : List Cl} {na : Nat} {xa ma va : Option Addr} {xc mc vc : Nat} {w : World} (ar : Int) (hna : m.length = na) (hv8 : vs.length = 8) (hG : Good g) (hl : g.length ≤ 1000) (hok : ∀ c ∈ m, Ok g c.2) (hn : na ≤ 1000) (h : GatesW w xa xc g) (hm : CellsW w ma mc m) (hv : BoolsW w va vc vs) :
    Calls Try.prog 34 #[.agg #[.slice xa g.length xc], .agg #[.int .i64 ar, .slice ma na mc], .slice va 8 vc] w fun e w' => ∃ b nv d, e = .returned (.agg #[.int .i64 ar, .slice b nv d]) ∧ (valL g vs m).length = nv ∧ IntsW w' b d (valL g vs m) ∧ w.grownBy w' none := by
  subst hna
  have h1 := mvalue_calls g m vs ar xa xc ma mc va vc w h hm hv hl hn (by omega) (good_bounds hG (by omega)) (fun x hx => by have := hok x hx; unfold Ok at this; omega)
  rw [hv8, valE_valL hok] at h1
  refine h1.mono fun e w' he => ?_
  obtain ⟨b, d, rfl, hi, hg⟩ := he
  exact ⟨b, _, d, rfl, rfl, hi.weak, hg⟩
end Go.Proofs.Ythdhmflodiincaa

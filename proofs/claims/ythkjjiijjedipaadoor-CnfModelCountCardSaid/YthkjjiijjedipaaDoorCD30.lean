/- Texts of the proof: T1 T2. -/
import Derived.Test.YthkjjiijjedipaaDoorCD29
import Derived.Maps.OwnSet
import Derived.Maps.Views
import Derived.StringKeys
import Derived.Test.YthkjjiijjedipaaDoorCD05
namespace Go.Proofs.YthkjjiijjedipaaDoor
open Go.RowKit Go.Maps
set_option maxRecDepth 100000

/-- The first place of a key. -/
def ixOf {α : Type} [DecidableEq α] : List α → α → Option Nat
  | [], _ => none
  | k :: ks, l => if k = l then some 0 else (ixOf ks l).map (· + 1)
theorem ix_snoc {α : Type} [DecidableEq α] (k l : α) : ∀ ks : List α, ixOf (ks ++ [k]) l = match ixOf ks l with | some i => some i | none => (if k = l then some ks.length else none : Option Nat)
  | [] => by simp [ixOf]
  | q :: ks => by
    have ih := ix_snoc k l ks
    show (if q = l then some 0 else (ixOf (ks ++ [k]) l).map (· + 1)) = match (if q = l then some 0 else (ixOf ks l).map (· + 1) : Option Nat) with | some i => some i | none => _
    by_cases e : q = l
    · rw [if_pos e, if_pos e]
    · rw [if_neg e, if_neg e, ih]
      cases ixOf ks l with
      | some i => rfl
      | none => by_cases e2 : k = l <;> simp [e2]
theorem ix_some {α : Type} [DecidableEq α] {l : α} : ∀ {ks : List α} {i : Nat}, ixOf ks l = some i ↔ ks[i]? = some l ∧ ∀ j, j < i → ks[j]? ≠ some l
  | [], i => by simp [ixOf]
  | q :: ks, i => by
    unfold ixOf
    by_cases e : q = l
    · rw [if_pos e]
      constructor
      · intro h; cases h; exact ⟨by simp [e], fun j hj => absurd hj (Nat.not_lt_zero j)⟩
      · rintro ⟨h1, h2⟩
        cases i with
        | zero => rfl
        | succ i => exact absurd (by simp [e]) (h2 0 (Nat.zero_lt_succ i))
    · rw [if_neg e]
      cases i with
      | zero => simp [e]
      | succ i =>
        have ih := ix_some (l := l) (ks := ks) (i := i)
        rw [List.getElem?_cons_succ]
        constructor
        · intro h
          rw [Option.map_eq_some_iff] at h
          obtain ⟨j, hj, hj2⟩ := h
          obtain rfl : j = i := by omega
          obtain ⟨h1, h2⟩ := ih.1 hj
          refine ⟨h1, fun j hj => ?_⟩
          cases j with
          | zero => simpa using e
          | succ j => rw [List.getElem?_cons_succ]; exact h2 j (by omega)
        · rintro ⟨h1, h2⟩
          rw [ih.2 ⟨h1, fun j hj => by have := h2 (j + 1) (by omega); rwa [List.getElem?_cons_succ] at this⟩]
          rfl
theorem ix_none {α : Type} [DecidableEq α] {l : α} : ∀ {ks : List α}, ixOf ks l = none ↔ l ∉ ks
  | [] => by simp [ixOf]
  | q :: ks => by
    have ih := ix_none (l := l) (ks := ks)
    unfold ixOf
    by_cases e : q = l
    · rw [if_pos e]; simp [e]
    · rw [if_neg e, Option.map_eq_none_iff, ih, List.mem_cons, not_or]
      exact ⟨fun h => ⟨fun h2 => e h2.symm, h⟩, fun h => h.2⟩

def litI (x : Int) : Lit := .int .i64 x
theorem litI_inj {x y : Int} (h : litI x = litI y) : x = y := by unfold litI at h; injection h
theorem zero3' (w : World) : (zeroValue 3).run Tryd.prog w = .ok (.int .i64 0) w := by kernel_rfl
theorem nat_wf {n : Nat} (h : n ≤ 1000000) : (Lit.int .i64 (n : Int)).wf = true := WalkArith.wf_i64 (by omega)
section
variable {α : Type} {kt mt : TypeId} {lit : α → Lit} {w : World} {b n : Nat} {F : α → Option Nat}
/-- Block b is a map of at most n entries that gives the keys what F says. -/
def MapF (kt : TypeId) (lit : α → Lit) (w : World) (b n : Nat) (F : α → Option Nat) : Prop :=
  ∃ D : DataW Unit, w.ownsMap Tryd.prog kt (plainElem Tryd.prog 3) b n D ∧ ∀ a, Maps.has D (lit a) = (F a).isSome ∧ ∀ i, F a = some i → ∀ z, D.atKey (lit a) z = .lit (.int .i64 (i : Int))
theorem MapF.made (kt : TypeId) (lit : α → Lit) (w : World) : MapF kt lit (w.alloc (.map #[] 0)) w.heap.size 0 (fun _ => none) :=
  ⟨.map [], World.ownsMap_made w _ _ _, fun a => ⟨by simp [Maps.has], fun i h => by cases h⟩⟩
theorem MapF.kept {w' : World} {r : Option Nat} (h : MapF kt lit w b n F) (hg : w.grownBy w' r) (hr : some b ≠ r) : MapF kt lit w' b n F := by
  obtain ⟨D, hD, hk⟩ := h
  exact ⟨D, hD.kept hg hr, hk⟩
theorem MapF.grown {w' : World} (h : MapF kt lit w b n F) (hg : w.grownBy w' none) : MapF kt lit w' b n F := h.kept hg (by simp)
theorem MapF.lt (h : MapF kt lit w b n F) : b < w.heap.size := by
  obtain ⟨D, ⟨es, clock, hb, _⟩, _⟩ := h
  exact (Array.getElem?_eq_some_iff.1 hb).1
theorem MapF.look (h : MapF kt lit w b n F) (K : Keyed Tryd.prog kt) (ht : Tryd.prog.underlying mt = some (.map kt 3)) {v : Value} {a : α} (hk : keyOf Tryd.prog kt v = some (lit a)) :
    ∃ c : Int, (Instr.lookup mt (.map (some b)) v true).run Tryd.prog w = .ok (.tuple #[.int .i64 c, .bool (F a).isSome]) w ∧ ∀ i : Nat, F a = some i → c = (i : Int) := by
  obtain ⟨D, hD, ha⟩ := h
  obtain ⟨u, ps, hr, hv⟩ := hD.look_ok K ht (zero3' w) (plainElem_int Tryd.underlying3 (by decide)) hk
  obtain ⟨c, rfl, hc, _⟩ := plainElem_int_inv Tryd.underlying3 hv
  refine ⟨c, by rw [hr, (ha a).1], fun i hi => ?_⟩
  have h1 := (ha a).2 i hi (.lit (.int .i64 0))
  have h2 := congrArg Prod.fst hc
  simp only at h2
  rw [h1] at h2
  injection h2 with h2
  injection h2 with _ h2
  exact h2.symm
theorem MapF.look1 (h : MapF kt lit w b n F) (K : Keyed Tryd.prog kt) (ht : Tryd.prog.underlying mt = some (.map kt 3)) {v : Value} {a : α} (hk : keyOf Tryd.prog kt v = some (lit a)) {i : Nat} (hi : F a = some i) :
    (Instr.lookup mt (.map (some b)) v false).run Tryd.prog w = .ok (.int .i64 (i : Int)) w := by
  obtain ⟨D, hD, ha⟩ := h
  obtain ⟨c, hr, hc, _⟩ := hD.lookup_int K ht Tryd.underlying3 (zero3' w) hk
  have h1 := (ha a).2 i hi (.lit (.int .i64 0))
  rw [h1] at hc
  injection hc with hc
  injection hc with _ hc
  rw [hr, ← hc]
theorem MapF.store (h : MapF kt lit w b n F) (K : Keyed Tryd.prog kt) (ht : Tryd.prog.underlying mt = some (.map kt 3)) (hl : n ≤ 1000000) {v : Value} {a : α} (hk : keyOf Tryd.prog kt v = some (lit a)) {i : Nat} (hi : i ≤ 1000000)
    (hinj : ∀ x y, lit x = lit y → x = y) {G : α → Option Nat} (hG1 : G a = some i) (hG2 : ∀ x, x ≠ a → G x = F x) :
    ∃ w', (Instr.mapUpdate mt (.map (some b)) v (.int .i64 (i : Int))).run Tryd.prog w = .ok () w' ∧ MapF kt lit w' b (n + 1) G ∧ w.grownBy w' (some b) := by
  obtain ⟨D, hD, ha⟩ := h
  obtain ⟨w', hr, ho, hm⟩ := hD.store K ht (by unfold maxLen; omega) hk (plainElem_int Tryd.underlying3 (nat_wf hi))
  refine ⟨w', hr, ⟨_, ho, fun x => ?_⟩, hm.grown⟩
  by_cases e : lit x = lit a
  · have hx := hinj x a e
    subst hx
    refine ⟨by rw [Maps.has_put_same hD.isMap (K.key hk), hG1]; rfl, fun j hj z => ?_⟩
    rw [Maps.atKey_put_same hD.isMap (K.key hk)]
    rw [hG1] at hj
    cases hj
    rfl
  · have hx : x ≠ a := fun h => e (by rw [h])
    have h1 := ha x
    refine ⟨by rw [Maps.has_put_other e, h1.1, hG2 x hx], fun j hj z => ?_⟩
    rw [Maps.atKey_put_other e]
    exact h1.2 j (by rw [← hG2 x hx]; exact hj) z
end
end Go.Proofs.YthkjjiijjedipaaDoor

namespace Go.Proofs.YthkjjiijjedipaaDoor
open Go.RowKit Go.Maps
set_option maxRecDepth 100000

theorem ids_calls (x : Int) (w : World) : Calls Tryd.prog 37 #[.int .i64 x] w fun e w' => e = .returned (.int .i64 x) ∧ w' = w := by
  go_enter Tryd.func37, Tryd.ntmps37
  go_wp2
  go_ret
  exact ⟨rfl, rfl⟩
theorem ix_take_yes {α : Type} [DecidableEq α] {ks : List α} {i : Nat} {x : α} (hx : ks[i]? = some x) (hs : (ixOf (ks.take i) x).isSome = true) : ixOf (ks.take (i + 1)) = ixOf (ks.take i) := by
  funext l
  rw [List.take_add_one, hx, Option.toList_some, ix_snoc]
  cases h : ixOf (ks.take i) l with
  | some j => rfl
  | none =>
    by_cases e : x = l
    · subst e; rw [h] at hs; cases hs
    · simp [e]
theorem ix_take_no {α : Type} [DecidableEq α] {ks : List α} {i : Nat} {x : α} (hx : ks[i]? = some x) (hs : (ixOf (ks.take i) x).isSome = false) : ixOf (ks.take (i + 1)) x = some i ∧ ∀ l, l ≠ x → ixOf (ks.take (i + 1)) l = ixOf (ks.take i) l := by
  have hil := (List.getElem?_eq_some_iff.1 hx).1
  have hn : ixOf (ks.take i) x = none := by cases h : ixOf (ks.take i) x with | none => rfl | some j => rw [h] at hs; cases hs
  constructor
  · rw [List.take_add_one, hx, Option.toList_some, ix_snoc, hn]
    simp [List.length_take]
    omega
  · intro l hl
    rw [List.take_add_one, hx, Option.toList_some, ix_snoc]
    cases h : ixOf (ks.take i) l with
    | some j => rfl
    | none => exact if_neg (fun e => hl e.symm)

set_option maxHeartbeats 4000000 in
theorem firstsI_calls (zs : List Int) (a : Option Addr) (c : Nat) (w : World) (h : IntsW w a c zs) (hl : zs.length ≤ 100000) (hb : ∀ x ∈ zs, -9223372036854775808 ≤ x ∧ x ≤ 9223372036854775807) :
    Calls Tryd.prog 36 #[.slice a zs.length c, .func (.func 37) #[] #[]] w fun e w' => ∃ b m, e = .returned (.map (some b)) ∧ MapF 3 litI w' b m (ixOf zs) ∧ m ≤ zs.length ∧ w.heap.size ≤ b ∧ w.grownBy w' none := by
  obtain ⟨n, hn⟩ : ∃ n, zs.length = n := ⟨_, rfl⟩
  rw [hn] at hl ⊢
  have hgm := World.grownBy_alloc w (.map #[] 0) none
  have hmt := MapF.made 3 litI w
  have hmm := @run_makeMap Tryd.prog
  obtain ⟨W1, hW1⟩ : ∃ z, w.alloc (.map #[] 0) = z := ⟨_, rfl⟩
  rw [hW1] at hgm hmt
  obtain ⟨b, hbm⟩ : ∃ z, w.heap.size = z := ⟨_, rfl⟩
  have hmk : (Instr.makeMap 64 none).run Tryd.prog w = .ok (.map (some b)) W1 := by rw [← hW1, ← hbm]; rfl
  rw [hbm] at hmt
  have HN := Lib.hid (And.intro hn (And.intro h hb))
  have HG := Lib.hid (And.intro hgm (And.intro hmt hbm))
  clear hgm hmt hmm hW1 hbm hn h hb
  go_enter Tryd.func36, Tryd.ntmps36
  go_wp2_with fail
  clear hmk
  go_loopg [13] n (fun g s wr => ∃ (i m : Nat), s = .int .i64 (i : Int) ∧ g = n - i ∧ i ≤ n ∧ MapF 3 litI wr b m (ixOf (zs.take i)) ∧ m ≤ i ∧ w.grownBy wr none)
  case atStart => exact ⟨0, 0, rfl, rfl, Nat.zero_le _, by rw [List.take_zero]; exact HG.out.2.1, Nat.le_refl _, HG.out.1⟩
  case round =>
    obtain ⟨i, m, rfl, hgi, hi, hM, hmi, hgr⟩ := hrel
    obtain ⟨wo, hwo⟩ : ∃ z, z = wr := ⟨_, rfl⟩
    rw [← hwo] at hM hgr ⊢
    clear hwo
    have HI := Lib.hid (And.intro hgi (And.intro hM (And.intro hmi hgr))); clear hgi hmi
    by_cases hin : i < n
    · have hinB : decide (i < n) = true := by simpa using hin
      have hinI : (i : Int) < (n : Int) := by omega
      obtain ⟨x, hx⟩ : ∃ x, zs[i]? = some x := ⟨_, List.getElem?_eq_getElem (by rw [HN.out.1]; exact hin)⟩
      obtain ⟨rb, ro, rfl, c0⟩ := (HN.out.2.1.grown hgr).at hx
      have hxb := HN.out.2.2 x (List.mem_of_getElem? hx)
      have hkey : keyOf Tryd.prog 3 (.int .i64 x) = some (litI x) := keyOf_int_mk Tryd.underlying3 (WalkArith.wf_i64 hxb)
      have HKEY := Lib.hid hkey
      obtain ⟨cv, hlk, _⟩ := hM.look (int_keyed Tryd.underlying3) Tryd.underlying64 hkey
      have HX := Lib.hid hx
      clear hx hM hgr hkey hxb
      obtain ⟨B, hB⟩ : ∃ B, (ixOf (zs.take i) x).isSome = B := ⟨_, rfl⟩
      rw [hB] at hlk
      have HB := Lib.hid hB; clear hB
      cases B with
      | true =>
        have HT := Lib.hid (ix_take_yes HX.out HB.out)
        go_wp2_with (go_at_call 37; refine (ids_calls _ _).mono ?_; rintro e w' ⟨rfl, hw'⟩; rw [hw']; clear hw' w')
        go_roundg (n - (i + 1))
        case measure => rw [HI.out.1]; omega
        case rel => exact ⟨i + 1, m, rfl, rfl, by omega, by rw [HT.out]; exact HI.out.2.1, by have := HI.out.2.2.1; omega, HI.out.2.2.2⟩
      | false =>
        obtain ⟨hG1, hG2⟩ := ix_take_no HX.out HB.out
        obtain ⟨w7, hst, hM7, hg7⟩ := HI.out.2.1.store (int_keyed Tryd.underlying3) Tryd.underlying64 (by have := HI.out.2.2.1; omega) HKEY.out (i := i) (by omega) (fun _ _ => litI_inj) hG1 hG2
        have H7 : Hid (MapF 3 litI w7 b (m + 1) (ixOf (zs.take (i + 1))) ∧ w.grownBy w7 none) := Lib.hid ⟨hM7, grown_own HI.out.2.2.2 hg7 (fun k e => by cases e; exact Nat.le_of_eq HG.out.2.2)⟩
        clear hM7 hg7 hG1 hG2
        go_wp2_with (go_at_call 37; refine (ids_calls _ _).mono ?_; rintro e w' ⟨rfl, hw'⟩; rw [hw']; clear hw' w')
        go_roundg (n - (i + 1))
        case measure => rw [HI.out.1]; omega
        case rel => exact ⟨i + 1, m + 1, rfl, rfl, by omega, H7.out.1, by have := HI.out.2.2.1; omega, H7.out.2⟩
    · have hie : i = n := by omega
      subst hie
      have hinB : decide (i < i) = false := by simp
      have HE : Hid (zs.take i = zs) := Lib.hid (List.take_of_length_le (by rw [HN.out.1]; exact Nat.le_refl _))
      clear hM hgr
      go_wp2_with fail
      go_ret
      exact ⟨b, m, rfl, by have := HI.out.2.1; rw [HE.out] at this; exact this, HI.out.2.2.1, Nat.le_of_eq HG.out.2.2, HI.out.2.2.2⟩
end Go.Proofs.YthkjjiijjedipaaDoor

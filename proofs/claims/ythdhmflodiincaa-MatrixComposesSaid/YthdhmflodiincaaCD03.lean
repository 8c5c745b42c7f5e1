/- Texts of the proof: G5 H3 P1 R1 R2 R3. -/
import Derived.Test.YthdhmflodiincaaCD00
import Derived.DeepKeys4
import Derived.Maps.OwnSet
import Derived.Maps.OwnIn
import Derived.Maps.Views
import Derived.Test.YthdhmflodiincaaCD02
set_option maxRecDepth 100000
set_option maxHeartbeats 8000000
namespace Go.Proofs.Ythdhmflodiincaa
open Lib (hid)
open Go.RowKit Go.Maps
set_option maxRecDepth 100000

theorem row69 : (99 : TypeId) < Try.prog.types.size := of_decide_eq_true (by kernel_rfl)
theorem laidOutG : laidOutB Try.prog = true := by kernel_rfl
theorem wide69 : (match Try.prog.underlying 99 with | some (.array _ _) | some (.struct _) => true | _ => false) = true := by rw [Try.underlying99]
theorem law69 : WideMaps.KeyLaw Try.prog 99 := deep_law_laid laidOutG (m := 2) (by omega) row69 (by kernel_rfl) wide69
theorem keyed69 : Keyed Try.prog 99 := Keyed.of_law law69
theorem keyType69 : Try.prog.keyType 99 = true := by kernel_rfl
theorem cells69 : Try.prog.cellsOf 99 = 3 := by kernel_rfl
theorem cells3 : Try.prog.cellsOf 3 = 1 := by kernel_rfl
theorem size47 : ∃ m, Try.prog.types.size = m + 1 := ⟨_, show Try.prog.types.size = 183 + 1 by kernel_rfl⟩
def WfG (g : Gt) : Prop := (Lit.int .i64 g.1).wf = true ∧ (Lit.int .i64 g.2.1).wf = true ∧ (Lit.int .i64 g.2.2).wf = true
theorem key_mk {g : Gt} (h : WfG g) : ∃ l, keyOf Try.prog 99 (gv g) = some l := by
 obtain ⟨h0, h1, h2⟩ := h
 obtain ⟨m, hm⟩ := size47
 refine ⟨.string (keyBytes [.int .i64 g.1, .int .i64 g.2.1, .int .i64 g.2.2]), ?_⟩
 unfold keyOf
 simp only [Try.underlying99]
 rw [if_pos (by simp [keyType69, Value.formed, Try.underlying99, cells69]), hm]
 unfold Program.keyLits
 simp only [Try.underlying99, Value.cells]
 rw [if_pos (by rw [cells69]; exact ⟨rfl, by simp⟩)]
 simp [Program.keyLits, cells3, Try.underlying3, h0, h1, h2, List.mapM_cons]
theorem gv_inj {g h : Gt} (e : gv g = gv h) : g = h := by
 obtain ⟨a, b, c⟩ := g
 obtain ⟨a', b', c'⟩ := h
 simp at e
 simp [e]
theorem key_inj {g h : Gt} {l : Lit} (hg : keyOf Try.prog 99 (gv g) = some l) (hh : keyOf Try.prog 99 (gv h) = some l) : g = h := gv_inj (keyed69.inj hg hh)
theorem zero3 (w : World) : (zeroValue 3).run Try.prog w = .ok (.int .i64 0) w := by kernel_rfl
def MapG (w : World) (b : Nat) (gs : List Gt) : Prop :=
 ∃ D : DataW Unit, w.ownsMap Try.prog 99 (plainElem Try.prog 3) b gs.length D ∧ ∀ (g : Gt) (l : Lit), keyOf Try.prog 99 (gv g) = some l → Maps.has D l = decide (g ∈ gs) ∧ ∀ i : Nat, gs[i]? = some g → D.atKey l (.lit (.int .i64 0)) = .lit (.int .i64 (i : Int))
theorem MapG.made (w : World) : MapG (w.alloc (.map #[] 0)) w.heap.size [] :=
 ⟨.map [], World.ownsMap_made w _ _ _, fun g l _ => ⟨by simp [Maps.has], fun i hi => by simp at hi⟩⟩
theorem MapG.kept {w w' : World} {b : Nat} {S : List Gt} {r : Option Nat} (h : MapG w b S) (hg : w.grownBy w' r) (hr : some b ≠ r) : MapG w' b S := by
 obtain ⟨D, hD, hk⟩ := h
 exact ⟨D, hD.kept hg hr, hk⟩
theorem MapG.grown {w w' : World} {b : Nat} {S : List Gt} (h : MapG w b S) (hg : w.grownBy w' none) : MapG w' b S := h.kept hg (by simp)
theorem MapG.lt {w : World} {b : Nat} {S : List Gt} (h : MapG w b S) : b < w.heap.size := by
 obtain ⟨D, ⟨es, clock, hb, _⟩, _⟩ := h
 exact (Array.getElem?_eq_some_iff.1 hb).1
theorem MapG.look {w : World} {b : Nat} {S : List Gt} (h : MapG w b S) {g : Gt} (hk : WfG g) : ∃ c : Int, (Instr.lookup 120 (.map (some b)) (gv g) true).run Try.prog w = .ok (.tuple #[.int .i64 c, .bool (decide (g ∈ S))]) w ∧ ∀ i : Nat, S[i]? = some g → c = (i : Int) := by
 obtain ⟨D, hD, ha⟩ := h
 obtain ⟨l, hl⟩ := key_mk hk
 obtain ⟨v, ps, hr, hv⟩ := hD.look_ok keyed69 Try.underlying120 (zero3 w) (plainElem_int Try.underlying3 (by decide)) hl
 obtain ⟨c, rfl, hc, _⟩ := plainElem_int_inv Try.underlying3 hv
 refine ⟨c, by rw [hr, (ha g l hl).1], fun i hi => ?_⟩
 have h1 := (ha g l hl).2 i hi
 have h2 := congrArg Prod.fst hc
 simp only at h2
 rw [h1] at h2
 injection h2 with h2
 injection h2 with _ h2
 exact h2.symm
theorem int_wf {n : Nat} (h : n ≤ 1000000) : (Lit.int .i64 (n : Int)).wf = true := by
 have h1 : IntKind.i64.min = -9223372036854775808 := by decide
 have h2 : IntKind.i64.max = 9223372036854775807 := by decide
 simp [Lit.wf]; constructor <;> omega
theorem MapG.store {w : World} {b : Nat} {S : List Gt} (h : MapG w b S) (hl : S.length ≤ 1000000) {g : Gt} (hk : WfG g) (hn : g ∉ S) :
  ∃ w', (Instr.mapUpdate 120 (.map (some b)) (gv g) (.int .i64 (S.length : Int))).run Try.prog w = .ok () w' ∧ MapG w' b (S ++ [g]) ∧ w.grownBy w' (some b) := by
 obtain ⟨D, hD, ha⟩ := h
 obtain ⟨l, hkl⟩ := key_mk hk
 obtain ⟨w', hr, ho, ht⟩ := hD.store keyed69 Try.underlying120 (by unfold maxLen; omega) hkl (plainElem_int Try.underlying3 (int_wf hl))
 refine ⟨w', hr, ⟨_, by rw [List.length_append]; exact ho, fun k l' hk' => ?_⟩, ht.grown⟩
 by_cases e : l' = l
 ·
  subst e
  have : k = g := key_inj hk' hkl
  subst this
  refine ⟨by rw [Maps.has_put_same hD.isMap (keyed69.key hkl)]; simp, fun i hi => ?_⟩
  rw [Maps.atKey_put_same hD.isMap (keyed69.key hkl)]
  have : i = S.length := by
   rcases Nat.lt_or_ge i S.length with h1 | h1
   ·
    rw [List.getElem?_append_left h1] at hi
    exact absurd (List.mem_of_getElem? hi) hn
   ·
    have := (List.getElem?_eq_some_iff.1 hi).1
    simp at this; omega
  rw [this]
 ·
  have hne : k ≠ g := fun hh => e (by rw [hh, hkl] at hk'; injection hk' with hk'; exact hk'.symm)
  have h1 := ha k l' hk'
  refine ⟨by rw [Maps.has_put_other e, h1.1]; simp [hne], fun i hi => ?_⟩
  rw [Maps.atKey_put_other e]
  refine h1.2 i ?_
  rcases Nat.lt_or_ge i S.length with h2 | h2
  · rw [List.getElem?_append_left h2] at hi; exact hi
  ·
   rw [List.getElem?_append_right h2] at hi
   obtain ⟨d, hd⟩ : ∃ d, i - S.length = d := ⟨_, rfl⟩
   rw [hd] at hi
   cases d with
   | zero => simp at hi; exact absurd hi.symm hne
   | succ d => simp at hi
end Go.Proofs.Ythdhmflodiincaa
namespace Go.Proofs.Ythdhmflodiincaa
open Lib (hid)
open Go.RowKit

theorem GateAt.set {w : World} {b : Nat} {k o : Nat} {g : Gt} (h : GateAt w k o g) {a' : Option Addr} {n' c' : Nat} (hb : w.cell? ⟨b, 0, none⟩ = some (.slice a' n' c')) (v : Value) : GateAt (w.setCell ⟨b, 0, none⟩ v) k o g := by
 have ne : ∀ {A : Addr} {x : Int}, w.cell? A = some (.int .i64 x) → (⟨b, 0, none⟩ : Addr) ≠ A := fun {A x} hA e => by rw [← e, hb] at hA; cases hA
 exact ⟨by rw [World.cell?_setCell_other _ _ _ _ (ne h.1)]; exact h.1, by rw [World.cell?_setCell_other _ _ _ _ (ne h.2.1)]; exact h.2.1, by rw [World.cell?_setCell_other _ _ _ _ (ne h.2.2)]; exact h.2.2⟩
theorem GatesW.set {w : World} {b : Nat} {a : Option Addr} {c : Nat} {g : List Gt} (h : GatesW w a c g) {a' : Option Addr} {n' c' : Nat} (hb : w.cell? ⟨b, 0, none⟩ = some (.slice a' n' c')) (v : Value) : GatesW (w.setCell ⟨b, 0, none⟩ v) a c g := by
 obtain ⟨hc, h | ⟨k, o, ha, ht, hz⟩⟩ := h
 · exact ⟨hc, .inl h⟩
 · exact ⟨hc, .inr ⟨k, o, ha, ht.set _ _, fun j g hj => (hz j g hj).set hb v⟩⟩
def CB (w : World) (b : Nat) (a : Option Addr) (c : Nat) (g : List Gt) : Prop := w.cell? ⟨b, 0, none⟩ = some (.slice a g.length c) ∧ w.frozen? ⟨b, 0, none⟩ = false ∧ GatesW w a c g
theorem CB.grown {w w' : World} {b : Nat} {a : Option Addr} {c : Nat} {g : List Gt} (h : CB w b a c g) (hg : w.grownBy w' none) : CB w' b a c g :=
 ⟨hg.cell h.1 (by simp), (grown_frozen hg (lies_lt h.1) 0).trans h.2.1, h.2.2.grown hg⟩
theorem CB.new {w : World} {a : Option Addr} {c : Nat} {g : List Gt} (h : GatesW w a c g) : CB (w.alloc (.cells #[.slice a g.length c] 30)) w.heap.size a c g :=
 ⟨(one_cell w _ 30).2.1, (one_cell w _ 30).2.2, h.grown (gAl w _ none)⟩
theorem CB.put {w : World} {b : Nat} {a a' : Option Addr} {c n' c' : Nat} {g : List Gt} (h : GatesW w a c g) (h0 : w.cell? ⟨b, 0, none⟩ = some (.slice a' n' c')) (hf : w.frozen? ⟨b, 0, none⟩ = false) : CB (w.setCell ⟨b, 0, none⟩ (.slice a g.length c)) b a c g :=
 ⟨World.cell?_setCell_same _ _ _ h0, by rw [World.frozen?_setCell]; exact hf, h.set h0 _⟩
def BoxZ (w : World) (b : Nat) : Prop := w.cell? ⟨b, 0, none⟩ = some (.slice none 0 0) ∧ w.frozen? ⟨b, 0, none⟩ = false
theorem BoxZ.new (w : World) : BoxZ (w.alloc (.cells #[.slice none 0 0] 30)) w.heap.size := (one_cell w _ 30).2
theorem BoxZ.grown {w w' : World} {b : Nat} (h : BoxZ w b) (hg : w.grownBy w' none) : BoxZ w' b := ⟨hg.cell h.1 (by simp), (grown_frozen hg (lies_lt h.1) 0).trans h.2⟩
def Ans (w : World) (g : List Gt) (r : Int) (x : Ending) (w' : World) : Prop := ∃ a c, x = .returned (.tuple #[.agg #[.slice a g.length c], .int .i64 r]) ∧ GatesW w' a c g ∧ w.grownBy w' none
section
variable {gs g : List Gt} {r : Int} {a : Option Addr} {c : Nat} {w : World}
theorem same_at {g2 : List Gt} {a2 : Option Addr} {c2 : Nat} {q : Bool} (e : decide (gs = g2) = q) (hl : gs.length ≤ 2000) (hl2 : g2.length ≤ 2000) (h : GatesW w a c gs) (h2 : GatesW w a2 c2 g2) : Calls Try.prog 26 #[.agg #[.slice a gs.length c], .agg #[.slice a2 g2.length c2]] w fun x w' => x = .returned (.bool q) ∧ w.grownBy w' none := by
 have := same_calls gs g2 a c a2 c2 w h h2 hl hl2
 rw [e] at this
 exact this
theorem not_at (x : Int) (hx : x ≤ 9223372036854775807) : Calls Try.prog 83 #[.int .i64 x] w fun e w' => e = .returned (.int .i64 (notR x)) ∧ w' = w := not25_calls x w hx
end
theorem good_bounds {gs : List Gt} (h : Good gs) (hl : gs.length ≤ 20000) : ∀ g ∈ gs, g.2.1 ≤ 9223372036854775807 ∧ g.2.2 ≤ 9223372036854775807 := fun g hg => by
 obtain ⟨i, hi⟩ := List.mem_iff_getElem?.1 hg
 have hlt := (List.getElem?_eq_some_iff.1 hi).1
 cases i with
 | zero => rw [h.zero] at hi; cases hi; simp
 | succ i => rcases h.form _ _ (by omega) hi with h1 | h1 <;> omega
theorem wf_i64 {x : Int} (h0 : 0 ≤ x) (h1 : x ≤ 9223372036854775807) : (Lit.int .i64 x).wf = true := WalkArith.wf_i64 (by omega)
theorem good_wf {gs : List Gt} (h : Good gs) (hl : gs.length ≤ 20000) : ∀ g ∈ gs, WfG g := fun g hg => by
 obtain ⟨i, hi⟩ := List.mem_iff_getElem?.1 hg
 have hlt := (List.getElem?_eq_some_iff.1 hi).1
 cases i with
 | zero => rw [h.zero] at hi; cases hi; exact ⟨wf_i64 (by simp) (by simp), wf_i64 (by simp) (by simp), wf_i64 (by simp) (by simp)⟩
 | succ i => rcases h.form _ _ (by omega) hi with h1 | h1 <;> exact ⟨wf_i64 (by omega) (by omega), wf_i64 (by omega) (by omega), wf_i64 (by omega) (by omega)⟩


def pick0 (refs : List Int) (n : Nat) : Int := if n / 2 % (refs.length + 1) = 0 then 0 else (refs[n / 2 % (refs.length + 1) - 1]?).getD 0
def pickL (refs : List Int) (n : Nat) : Int := if n % 2 = 1 then notR (pick0 refs n) else pick0 refs n

theorem pick_calls (refs : List Int) (n : Nat) (a : Option Addr) (c : Nat) (w : World) (h : IntsW w a c refs) (hl : refs.length ≤ 1000) (hn : n < 256) (hb : ∀ r ∈ refs, r ≤ 9223372036854775807) :
  Calls Try.prog 71 #[.slice a refs.length c, .int .u8 (n : Int)] w fun e w' => e = .returned (.int .i64 (pickL refs n)) ∧ w' = w := by
 obtain ⟨m, hm⟩ : ∃ m, refs.length = m := ⟨_, rfl⟩
 obtain ⟨q, hq⟩ : ∃ q, n / 2 = q := ⟨_, rfl⟩
 obtain ⟨k, hk⟩ : ∃ k, q % (m + 1) = k := ⟨_, rfl⟩
 have hkm : k ≤ m := by rw [← hk]; have := Nat.mod_lt q (show 0 < m + 1 by omega); omega
 have HP0 := hid (show pick0 refs n = if k = 0 then 0 else (refs[k - 1]?).getD 0 by unfold pick0; rw [hm, hq, hk])
 have HPL := hid (show pickL refs n = if n % 2 = 1 then notR (pick0 refs n) else pick0 refs n from rfl)
 have hw0 : IntKind.i64.wrap (n : Int) = (n : Int) := IntWalk.i64_in _ (by omega)
 have hw1 : IntKind.i64.wrap (q : Int) = (q : Int) := IntWalk.i64_in _ (by omega)
 have hw2 : IntKind.i64.wrap ((m : Int) + 1) = ((m + 1 : Nat) : Int) := by rw [IntWalk.i64_in _ (by omega)]; omega
 have hw3 : IntKind.i64.wrap (k : Int) = (k : Int) := IntWalk.i64_in _ (by omega)
 have hm0 : ¬ (((m + 1 : Nat) : Int) = 0) := by omega
 have hm1 : ¬ ((m + 1 : Nat) = 0) := by omega
 have hd : (n : Int).tdiv 2 = (q : Int) := by rw [Int.tdiv_eq_ediv_of_nonneg (by omega), ← hq]; omega
 have hr : (q : Int).tmod ((m + 1 : Nat) : Int) = (k : Int) := by rw [Int.tmod_eq_emod_of_nonneg (by omega), ← hk]; rfl
 have hr' : (q : Int).tmod ((m : Int) + 1) = (k : Int) := hr
 have HM := hid hm
 have HH := hid h
 have HB := hid hb
 rw [hm] at hl ⊢
 clear h hb hm
 have h2 : n % 2 = 0 ∨ n % 2 = 1 := by omega
 have ht : (n : Int).tmod 2 = ((n % 2 : Nat) : Int) := by rw [Int.tmod_eq_emod_of_nonneg (by omega)]; rfl
 have hz : ∀ z, pick0 refs n = z → z ≤ 9223372036854775807 := fun z hz => by
  rw [← hz, HP0.out]
  split
  · omega
  ·
   cases hg : refs[k - 1]? with
   | none => simp
   | some r => exact HB.out r (List.mem_of_getElem? hg)
 by_cases hk0 : 0 < k
 ·
  have f1 : decide (0 < k) = true := decide_eq_true hk0
  obtain ⟨r, hg⟩ : ∃ r, refs[k - 1]? = some r := ⟨_, List.getElem?_eq_getElem (by rw [HM.out]; omega)⟩
  have hp0 : pick0 refs n = r := by rw [HP0.out, if_neg (by omega), hg]; rfl
  have hrb := hz r hp0
  obtain ⟨b, o, rfl, x0⟩ := HH.out.at hg
  have hw5 : IntKind.i64.wrap ((k : Int) - 1) = ((k - 1 : Nat) : Int) := by rw [IntWalk.i64_in _ (by omega)]; omega
  have hi0 : (0 : Int) ≤ ((k - 1 : Nat) : Int) := by omega
  have hi1 : ((k - 1 : Nat) : Int) < (m : Int) := by omega
  obtain ⟨j, hj⟩ : ∃ j, k - 1 = j := ⟨_, rfl⟩
  rw [hj] at hw5 hi0 hi1 x0
  clear hj hg hz
  by_cases hn2 : n % 2 = 1
  ·
   have f2 : ((n : Int) % 2 == 1) = true := beqT (by omega)
   have HE := hid (show pickL refs n = notR r by rw [HPL.out, if_pos hn2, hp0])
   clear hn2 hp0 h2 ht
   go_enter Try.func71, Try.ntmps71
   go_wp2_with (go_at_call 69; refine (not26_calls _ _ hrb).mono ?_; rintro e w9 ⟨rfl, hw9⟩; rw [hw9]; clear hw9 w9)
   go_ret
   exact ⟨by rw [HE.out]; rfl, rfl⟩
  ·
   have f2 : ((n : Int) % 2 == 1) = false := beqF (by omega)
   have HE := hid (show pickL refs n = r by rw [HPL.out, if_neg hn2, hp0])
   clear hn2 hp0 h2 ht
   go_enter Try.func71, Try.ntmps71
   go_wp2_with fail
   go_ret
   exact ⟨by rw [HE.out]; rfl, rfl⟩
 ·
  have f1 : decide (0 < k) = false := decide_eq_false hk0
  obtain ⟨r, hrr⟩ : ∃ r : Int, r = 0 := ⟨_, rfl⟩
  have hp0 : pick0 refs n = r := by rw [HP0.out, if_pos (by omega), hrr]
  have hrb := hz r hp0
  clear hz
  subst hrr
  by_cases hn2 : n % 2 = 1
  ·
   have f2 : ((n : Int) % 2 == 1) = true := beqT (by omega)
   have HE := hid (show pickL refs n = notR 0 by rw [HPL.out, if_pos hn2, hp0])
   clear hn2 hp0 h2 ht
   go_enter Try.func71, Try.ntmps71
   go_wp2_with (go_at_call 69; refine (not26_calls _ _ hrb).mono ?_; rintro e w9 ⟨rfl, hw9⟩; rw [hw9]; clear hw9 w9)
   go_ret
   exact ⟨by rw [HE.out]; rfl, rfl⟩
  ·
   have f2 : ((n : Int) % 2 == 1) = false := beqF (by omega)
   have HE := hid (show pickL refs n = 0 by rw [HPL.out, if_neg hn2, hp0])
   clear hn2 hp0 h2 ht
   go_enter Try.func71, Try.ntmps71
   go_wp2_with fail
   go_ret
   exact ⟨by rw [HE.out]; rfl, rfl⟩

theorem locG_first {x : Gt} : ∀ {gs : List Gt} {k : Nat}, gs[k]? = some x → (∀ j, j < k → gs[j]? ≠ some x) → locG x gs = some k
 | [], k, h, _ => by simp at h
 | g :: gs, 0, h, _ => by simp at h; unfold locG; rw [if_pos h]
 | g :: gs, k + 1, h, hn => by
  have h0 : g ≠ x := fun e => hn 0 (by omega) (by simp [e])
  have ih := locG_first (gs := gs) (k := k) (by simpa using h) (fun j hj e => hn (j + 1) (by omega) (by simpa using e))
  unfold locG
  rw [if_neg h0, ih]
  rfl

theorem rfind_calls (gs : List Gt) (x : Gt) (a : Option Addr) (c : Nat) (w : World) (h : GatesR w a c gs) (hl : gs.length ≤ 2000) :
  Calls Try.prog 103 #[.agg #[.slice a gs.length c], gv x] w fun e w' => e = .returned (.int .i64 (locI x gs)) ∧ w.grownBy w' none := by
 obtain ⟨n, hn⟩ : ∃ n, gs.length = n := ⟨_, rfl⟩
 have hg1 := gAl w (.cells #[.slice a n c] 30) none
 have e1 := one_cell w (.slice a n c) 30
 obtain ⟨W1, hW1⟩ : ∃ W, w.alloc (.cells #[.slice a n c] 30) = W := ⟨_, rfl⟩
 rw [hW1] at hg1 e1
 have hg2 := gAl W1 (.cells #[.int .i64 x.1, .int .i64 x.2.1, .int .i64 x.2.2] 99) none
 have hx := gate_cells W1 x
 obtain ⟨W2, hW2⟩ : ∃ W, W1.alloc (.cells #[.int .i64 x.1, .int .i64 x.2.1, .int .i64 x.2.2] 99) = W := ⟨_, rfl⟩
 rw [hW2] at hg2 hx
 have q1 := hg2.cell e1.2.1 (by simp)
 have HQ := hid q1
 have HX := hid hx
 have HG := hid (gT hg1 hg2)
 have HA := hid ((h.grown hg1).grown hg2)
 have HN := hid hn
 rw [hn] at hl ⊢
 clear h hg1 hg2 e1 hn hx
 go_enter Try.func103, Try.ntmps103
 go_wp2_with fail
 clear q1 hW1 hW2
 go_loopg [5] n (fun g s wr => ∃ k : Nat, s = .int .i64 (k : Int) ∧ g = n - k ∧ k ≤ n ∧ (∀ j : Nat, j < k → gs[j]? ≠ some x) ∧ W2.grownBy wr none)
 case atStart => exact ⟨0, rfl, rfl, Nat.zero_le _, fun j hj => by omega, grown_refl _ _⟩
 case round =>
  obtain ⟨k, rfl, hgk, hk, hno, hgr⟩ := hrel
  have HI := hid (And.intro hgk hno); clear hgk hno
  have q1 := hgr.cell HQ.out (by simp)
  obtain ⟨y0, y1, y2⟩ := HX.out.grown hgr
  have HGR := hid hgr; clear hgr
  by_cases hkn : k < n
  ·
   have f1 : decide (k < n) = true := decide_eq_true hkn
   have hk1 : IntKind.i64.wrap ((k : Int) + 1) = ((k + 1 : Nat) : Int) := by rw [IntWalk.i64_in _ (by omega)]; omega
   have hjn : (k : Int) < (n : Int) := by omega
   have hj0 : (0 : Int) ≤ (k : Int) := by omega
   obtain ⟨g, hg⟩ : ∃ g, gs[k]? = some g := ⟨_, List.getElem?_eq_getElem (by rw [HN.out]; omega)⟩
   obtain ⟨ba, oa, rfl, x0, x1, x2⟩ := (HA.out.grown HGR.out).at hg
   have HGG := hid hg; clear hg
   by_cases hgx : g = x
   ·
    have he : ∀ U : World, (Op.equalIn 10000 99 (.agg #[.int .i64 g.1, .int .i64 g.2.1, .int .i64 g.2.2]) (.agg #[.int .i64 x.1, .int .i64 x.2.1, .int .i64 x.2.2])).run Try.prog U = .ok true U := fun U => by rw [eq47 g x U, decide_eq_true hgx]
    have HR := hid (show locI x gs = (k : Int) from locI_nat (locG_first (by rw [← hgx]; exact HGG.out) HI.out.2))
    have HQQ := hid hgx; clear hgx
    go_wp2_with fail
    go_quiet (fail)
    go_wp2_with fail
    go_ret
    exact ⟨by rw [HR.out]; rfl, gT HG.out (gT HGR.out (grown_drewN wr nq none))⟩
   ·
    have he : ∀ U : World, (Op.equalIn 10000 99 (.agg #[.int .i64 g.1, .int .i64 g.2.1, .int .i64 g.2.2]) (.agg #[.int .i64 x.1, .int .i64 x.2.1, .int .i64 x.2.2])).run Try.prog U = .ok false U := fun U => by rw [eq47 g x U, decide_eq_false hgx]
    have HS := hid (show ∀ j : Nat, j < k + 1 → gs[j]? ≠ some x from fun j hj e => by
     by_cases hjk : j = k
     · subst hjk; rw [HGG.out] at e; injection e with e; exact hgx e
     · exact HI.out.2 j (by omega) e)
    have HQQ := hid hgx; clear hgx
    go_wp2_with fail
    go_quiet (fail)
    go_wp2_with fail
    go_roundg (n - (k + 1))
    case measure => rw [HI.out.1]; omega
    case rel => exact ⟨k + 1, rfl, rfl, by omega, HS.out, gT HGR.out (grown_drewN wr nq none)⟩
  ·
   have f1 : decide (k < n) = false := decide_eq_false hkn
   have HR := hid (show locI x gs = -1 from locI_none fun i hi => HI.out.2 i (by have := (List.getElem?_eq_some_iff.1 hi).1; rw [HN.out] at this; omega) hi)
   go_wp2_with fail
   go_ret
   exact ⟨by rw [HR.out]; rfl, gT HG.out HGR.out⟩

theorem results37 (tmps : Array Value) (w : World) (b : Nat) (a : Option Addr) (n c : Nat) (x : Int) (ht : tmps.getD 4 undef = .pointer (some ⟨b, 0, none⟩)) (hs : tmps.getD 5 undef = .int .i64 x) (h0 : w.cell? ⟨b, 0, none⟩ = some (.slice a n c)) :
  (results Try.f111 tmps).run Try.prog w = .ok (.tuple #[.agg #[.slice a n c], .int .i64 x]) w := by
 have ht' : tmps[4]?.getD undef = .pointer (some ⟨b, 0, none⟩) := by simpa using ht
 have hs' : tmps[5]?.getD undef = .int .i64 x := by simpa using hs
 simp [results, ht', hs', go_sem, h0, Result.andThen]
theorem results13 (tmps : Array Value) (w : World) (b : Nat) (a : Option Addr) (n c : Nat) (x : Int) (ht : tmps.getD 4 undef = .pointer (some ⟨b, 0, none⟩)) (hs : tmps.getD 5 undef = .int .i64 x) (h0 : w.cell? ⟨b, 0, none⟩ = some (.slice a n c)) :
  (results Try.f68 tmps).run Try.prog w = .ok (.tuple #[.agg #[.slice a n c], .int .i64 x]) w := by
 have ht' : tmps[4]?.getD undef = .pointer (some ⟨b, 0, none⟩) := by simpa using ht
 have hs' : tmps[5]?.getD undef = .int .i64 x := by simpa using hs
 simp [results, ht', hs', go_sem, h0, Result.andThen]
theorem results15 (tmps : Array Value) (w : World) (b : Nat) (a : Option Addr) (n c : Nat) (x : Int) (ht : tmps.getD 6 undef = .pointer (some ⟨b, 0, none⟩)) (hs : tmps.getD 7 undef = .int .i64 x) (h0 : w.cell? ⟨b, 0, none⟩ = some (.slice a n c)) :
  (results Try.f82 tmps).run Try.prog w = .ok (.tuple #[.agg #[.slice a n c], .int .i64 x]) w := by
 have ht' : tmps[6]?.getD undef = .pointer (some ⟨b, 0, none⟩) := by simpa using ht
 have hs' : tmps[7]?.getD undef = .int .i64 x := by simpa using hs
 simp [results, ht', hs', go_sem, h0, Result.andThen]
theorem results17 (tmps : Array Value) (w : World) (b : Nat) (a : Option Addr) (n c : Nat) (x : Int) (ht : tmps.getD 6 undef = .pointer (some ⟨b, 0, none⟩)) (hs : tmps.getD 7 undef = .int .i64 x) (h0 : w.cell? ⟨b, 0, none⟩ = some (.slice a n c)) :
  (results Try.f78 tmps).run Try.prog w = .ok (.tuple #[.agg #[.slice a n c], .int .i64 x]) w := by
 have ht' : tmps[6]?.getD undef = .pointer (some ⟨b, 0, none⟩) := by simpa using ht
 have hs' : tmps[7]?.getD undef = .int .i64 x := by simpa using hs
 simp [results, ht', hs', go_sem, h0, Result.andThen]
theorem results19 (tmps : Array Value) (w : World) (b : Nat) (a : Option Addr) (n c : Nat) (x : Int) (ht : tmps.getD 6 undef = .pointer (some ⟨b, 0, none⟩)) (hs : tmps.getD 7 undef = .int .i64 x) (h0 : w.cell? ⟨b, 0, none⟩ = some (.slice a n c)) :
  (results Try.f112 tmps).run Try.prog w = .ok (.tuple #[.agg #[.slice a n c], .int .i64 x]) w := by
 have ht' : tmps[6]?.getD undef = .pointer (some ⟨b, 0, none⟩) := by simpa using ht
 have hs' : tmps[7]?.getD undef = .int .i64 x := by simpa using hs
 simp [results, ht', hs', go_sem, h0, Result.andThen]

theorem share_calls (gs : List Gt) (x : Gt) (a : Option Addr) (c : Nat) (w : World) (h : GatesW w a c gs) (hl : gs.length ≤ 1000) :
  Calls Try.prog 111 #[.agg #[.slice a gs.length c], gv x] w (Ans w (addG gs x).1 (addG gs x).2) := by
 obtain ⟨n, hn⟩ : ∃ n, gs.length = n := ⟨_, rfl⟩
 have hg1 := gAl w (.cells #[.slice a n c] 30) none
 have e1 := one_cell w (.slice a n c) 30
 obtain ⟨W1, hW1⟩ : ∃ W, w.alloc (.cells #[.slice a n c] 30) = W := ⟨_, rfl⟩
 rw [hW1] at hg1 e1
 have hg2 := gAl W1 (.cells #[.int .i64 x.1, .int .i64 x.2.1, .int .i64 x.2.2] 99) none
 have hx := gate_cells W1 x
 obtain ⟨W2, hW2⟩ : ∃ W, W1.alloc (.cells #[.int .i64 x.1, .int .i64 x.2.1, .int .i64 x.2.2] 99) = W := ⟨_, rfl⟩
 rw [hW2] at hg2 hx
 have hg3 := gAl W2 (.cells #[.slice none 0 0] 30) none
 have e3 := one_cell W2 (.slice none 0 0) 30
 obtain ⟨W3, hW3⟩ : ∃ W, W2.alloc (.cells #[.slice none 0 0] 30) = W := ⟨_, rfl⟩
 rw [hW3] at hg3 e3
 have q1 := hg3.cell (hg2.cell e1.2.1 (by simp)) (by simp)
 have HX := hid (hx.grown hg3)
 have HQ := hid q1
 have HE := hid e3
 have HS := hid (show w.heap.size ≤ W2.heap.size from (gT hg1 hg2).size)
 have HSZ := hid (show w.heap.size < W2.heap.size ∧ W1.heap.size < W2.heap.size from ⟨by have := e1.1; have := hg2.size; omega, lies_lt hx.1⟩)
 have HG := hid (gT (gT hg1 hg2) hg3)
 have HA := hid (((h.grown hg1).grown hg2).grown hg3)
 have HN := hid hn
 rw [hn] at hl ⊢
 clear h hg1 hg2 hg3 e1 e3 hn
 obtain ⟨y0, y1, y2⟩ := HX.out
 have HF := hid (rfind_calls gs x a c W3 HA.out.weak (by rw [HN.out]; omega))
 rw [HN.out] at HF
 go_enter Try.func111, Try.ntmps111
 go_wp2_with fail
 refine HF.out.mono ?_
 rintro e V ⟨rfl, g⟩
 have HV := hid g
 clear g hx q1 y0 y1 y2 hW1 hW2 hW3
 have k1 := HV.out.cell HQ.out (by simp)
 have r1 := HV.out.cell HE.out.2.1 (by simp)
 have rf : V.frozen? ⟨W2.heap.size, 0, none⟩ = false := (grown_frozen HV.out HE.out.1 0).trans HE.out.2.2
 have HGV := hid (gT HG.out HV.out)
 have HAV := hid (HA.out.grown HV.out)
 cases hloc : locG x gs with
 | some i =>
  have hi := (List.getElem?_eq_some_iff.1 (locG_some hloc)).1
  rw [HN.out] at hi
  have HA' := hid (addG_some hloc)
  rw [locI_nat hloc]
  have HQQ := hid hloc; clear hloc
  have f1 : decide ((0 : Int) ≤ (i : Int)) = true := decide_eq_true (by omega)
  have f2 : IntKind.i64.wrap (2 * (i : Int)) = 2 * (i : Int) := IntWalk.i64_in _ (by omega)
  go_wp2_with fail
  refine bodyPost_ret (results37 _ _ W2.heap.size a n c _ rfl rfl (World.cell?_setCell_same _ _ _ r1)) rfl ⟨a, c, by rw [HA'.out, HN.out], ?_, grown_own HGV.out (grown_set V W2.heap.size 0 _) (fun k e => by cases e; exact HS.out)⟩
  rw [HA'.out]
  exact HAV.out.set r1 _
 | none =>
  have HA' := hid (addG_none hloc (by rw [HN.out]; omega))
  rw [locI_neg hloc]
  have HQQ := hid hloc; clear hloc
  have f1 : decide ((20000 : Int) ≤ (n : Int)) = false := decide_eq_false (by omega)
  have f1b : decide (20000 ≤ n) = false := decide_eq_false (by omega)
  have f2 : IntKind.i64.wrap (2 * (n : Int)) = 2 * (n : Int) := IntWalk.i64_in _ (by omega)
  go_wp2_with (at_builtin; refine append_gates rfl _ _ rfl V.heap.size _ 0 [] rfl (World.ownsRow_nil _ _ _ _) a n c gs rfl HN.out HAV.out (by omega) (Nat.le_refl _) ?_)
  intro v1 w1 hown1 hgrow1
  obtain ⟨a1, c1, rfl⟩ := own_shape hown1
  have HO1 := hid hown1
  have hg1 : V.grownBy w1 none := grown_own (grown_refl _ _) hgrow1 (fun k e => by cases e)
  have HG1 := hid hg1
  have y := HX.out.grown (gT HV.out hg1)
  have hga := gAl w1 (.cells #[.int .i64 x.1, .int .i64 x.2.1, .int .i64 x.2.2] 99) none
  have hnx := And.intro (gate_cells w1 x) (ty_alloc w1 #[.int .i64 x.1, .int .i64 x.2.1, .int .i64 x.2.2])
  have HGA := hid hga
  have HNX := hid hnx
  obtain ⟨y0, y1, y2⟩ := y
  clear hown1 hgrow1 hg1 hga hnx
  go_wp2_with (at_builtin; refine append_gates rfl _ _ rfl V.heap.size _ n gs rfl (own_grown HO1.out (gAl w1 _ none)) (some ⟨w1.heap.size, 0, none⟩) 1 1 [x] rfl rfl (gate_news HNX.out.1 HNX.out.2) (by omega) (by have h1 := HG1.out.size; have h2 := HGA.out.size; omega) ?_)
  intro v2 w2 hown2 hgrow2
  obtain ⟨m, hm⟩ : ∃ m, (gs ++ [x]).length = m := ⟨_, rfl⟩
  have hmn : n + 1 = m := by rw [← hm, List.length_append, HN.out]; rfl
  rw [hmn] at hown2
  obtain ⟨a2, c2, rfl⟩ := own_shape hown2
  have HR := hid (show GatesW w2 a2 c2 (gs ++ [x]) from by
   rw [← hm] at hown2
   obtain ⟨a', c', e', hs'⟩ := gates_span (show w2.ownsRow V.heap.size 99 3 (.slice a2 (gs ++ [x]).length c2) (gs ++ [x]).length (gateCells (gs ++ [x])) by rw [gateCells_app]; exact hown2)
   cases e'
   exact hs'.here)
  have HG2 := hid (grown_own (gT HG1.out HGA.out) hgrow2 (fun k e => (HO1.out.lt k e).1))
  have HM := hid (And.intro hm hmn)
  have HAQ := HA'
  clear k1 r1 rf y0 y1 y2 hown2 hgrow2 hm hmn f1 f1b
  have k2 := HG2.out.cell (HV.out.cell HQ.out (by simp)) (by simp)
  have r2 := HG2.out.cell (HV.out.cell HE.out.2.1 (by simp)) (by simp)
  have rf : w2.frozen? ⟨W2.heap.size, 0, none⟩ = false := (grown_frozen HG2.out (by have := HE.out.1; have := HV.out.size; omega) 0).trans ((grown_frozen HV.out HE.out.1 0).trans HE.out.2.2)
  have HK := hid k2
  have HRR := hid (And.intro r2 rf)
  clear k2 r2 rf
  go_wp2_with fail
  have hdr : w2.drew.cell? ⟨w.heap.size, 0, none⟩ = some (.slice a n c) := HK.out
  refine wp_region_held_drew (S := (fun Wh : World => Wh.cell? ⟨w.heap.size, 0, none⟩ = some (.slice a n c))) (by kernel_rfl) hdr (fun hH => ?_)
  refine tq 0 ({ dst := some 29, op := Op.move (Operand.tmp 7), type := 28, pos := "ref.go:65", after := #[], guard := none }) ?_ ?_ hH ?_
  rotate_left 1
  · (intro W h; (try dsimp only at h); go_simp <;> with_reducible rfl)
  try simp only [Act.put, sA, sB, sC]
  refine tq 1 ({ dst := some 30, op := Op.build 30 #[(0, Operand.tmp 29)], type := 30, pos := "ref.go:65", after := #[{ on := 0, ground := Ground.data }], guard := none }) ?_ ?_ hH ?_
  rotate_left 1
  · (intro W h; (try dsimp only at h); go_simp <;> with_reducible rfl)
  try simp only [Act.put, sA, sB, sC]
  refine tq 2 ({ dst := some 31, op := Op.fieldAddr 30 (Operand.tmp 2) 0, type := 0, pos := "ref.go:65", after := #[], guard := none }) ?_ ?_ hH ?_
  rotate_left 1
  · (intro W h; (try dsimp only at h); go_simp <;> with_reducible rfl)
  try simp only [Act.put, sA, sB, sC]
  refine tq 3 ({ dst := some 32, op := Op.load 28 (Operand.tmp 31), type := 28, pos := "ref.go:65", after := #[{ on := 2, ground := Ground.data }], guard := none }) ?_ ?_ hH ?_
  rotate_left 1
  · (intro W h; (try dsimp only at h); go_simp <;> with_reducible rfl)
  try simp only [Act.put, sA, sB, sC]
  refine tq 4 ({ dst := some 33, op := Op.call { callee := Callee.builtin Builtin.len, args := #[Operand.tmp 32], argTypes := #[28] }, type := 3, pos := "ref.go:65", after := #[{ on := 3, ground := Ground.data }], guard := none }) ?_ ?_ hH ?_
  rotate_left 1
  · (intro W h; (try dsimp only at h); go_simp <;> with_reducible rfl)
  try simp only [Act.put, sA, sB, sC]
  refine tq 5 ({ dst := some 34, op := Op.binOp BinOp.mul 3 (Operand.const (Value.int IntKind.i64 2)) (Operand.tmp 33) 3, type := 3, pos := "ref.go:65", after := #[{ on := 4, ground := Ground.data }, { on := 6, ground := Ground.gcOnly Departure.lateStores }], guard := none }) ?_ ?_ hH ?_
  rotate_left 1
  · (intro W h; (try dsimp only at h); go_simp <;> with_reducible rfl)
  try simp only [Act.put, sA, sB, sC]
  refine wpAnyH_ready (rs := [6]) (by kernel_rfl) (by simp) ?_
  refine (AllReadyH.cons (o := { dst := none, op := Op.store 30 (Operand.tmp 4) (Operand.tmp 30), type := 0, pos := "ref.go:65", after := #[{ on := 1, ground := Ground.data }, { on := 0, ground := Ground.phase }, { on := 1, ground := Ground.phase }, { on := 2, ground := Ground.textOnly Departure.lateStores }, { on := 3, ground := Ground.textOnly Departure.lateStores }, { on := 4, ground := Ground.textOnly Departure.lateStoresUnsure }, { on := 5, ground := Ground.textOnly Departure.lateStores }], guard := none }) rfl (fun K hK => ?_) AllReadyH.nil)
  rw [if_pos (by rfl)]
  obtain ⟨r2, rf⟩ := HRR.out
  go_simp
  clear r2 rf
  have hst : (w2.setCell ⟨W2.heap.size, 0, none⟩ (.slice a2 m c2)).cell? ⟨w.heap.size, 0, none⟩ = some (.slice a n c) := by rw [World.cell?_setCell_other _ _ _ _ (by intro e; injection e with e _; have := HSZ.out.1; omega)]; exact HK.out
  refine hK.out _ _ hst (fun hH => ?_)
  clear hK K
  try simp only [Act.put, sA, sB, sC]
  refine tq 7 ({ dst := some 5, op := Op.assign (Operand.tmp 34), type := 3, pos := "ref.go:65", after := #[{ on := 5, ground := Ground.data }, { on := 6, ground := Ground.chain }, { on := 0, ground := Ground.phase }, { on := 1, ground := Ground.phase }, { on := 2, ground := Ground.phase }, { on := 3, ground := Ground.phase }, { on := 4, ground := Ground.phase }, { on := 5, ground := Ground.phase }, { on := 6, ground := Ground.phase }], guard := none }) ?_ ?_ hH ?_
  rotate_left 1
  · (intro W h; (try dsimp only at h); go_simp <;> with_reducible rfl)
  try simp only [Act.put, sA, sB, sC]
  refine wpAnyH_done (by kernel_rfl) ?_ _
  have hEND := hst
  clear hH
  go_wp2_with fail
  have hr := HRR.out
  refine bodyPost_ret (results37 _ _ W2.heap.size a2 m c2 _ rfl rfl (World.cell?_setCell_same w2 _ (.slice a2 m c2) hr.1)) rfl ⟨a2, c2, by rw [HAQ.out, HM.out.1, HN.out], ?_, gT (grown_own (gT HGV.out HG2.out) (grown_set w2 W2.heap.size 0 (.slice a2 m c2)) (fun k e => by cases e; exact HS.out)) ⟨rfl, rfl, rfl, Nat.le_refl _, fun _ _ _ => rfl⟩⟩
  rw [HAQ.out]
  exact (HR.out.set hr.1 (.slice a2 m c2)).grown ⟨rfl, rfl, rfl, Nat.le_refl _, fun _ _ _ => rfl⟩


theorem rinput_calls (gs : List Gt) (v : Int) (a : Option Addr) (c : Nat) (w : World) (h : GatesW w a c gs) (hl : gs.length ≤ 1000) :
  Calls Try.prog 68 #[.agg #[.slice a gs.length c], .int .i64 v] w (Ans w (inputC gs v).1 (inputC gs v).2) := by
 obtain ⟨n, hn⟩ : ∃ n, gs.length = n := ⟨_, rfl⟩
 have hg1 := gAl w (.cells #[.slice a n c] 30) none
 have e1 := one_cell w (.slice a n c) 30
 obtain ⟨W1, hW1⟩ : ∃ W, w.alloc (.cells #[.slice a n c] 30) = W := ⟨_, rfl⟩
 rw [hW1] at hg1 e1
 have hg2 := gAl W1 (.cells #[.slice none 0 0] 30) none
 have e2 := one_cell W1 (.slice none 0 0) 30
 obtain ⟨W2, hW2⟩ : ∃ W, W1.alloc (.cells #[.slice none 0 0] 30) = W := ⟨_, rfl⟩
 rw [hW2] at hg2 e2
 have q1 := hg2.cell e1.2.1 (by simp)
 have HQ := hid q1
 have HR := hid e2
 have r1 := e2.2.1
 have rf := e2.2.2
 have HW := hid (gT hg1 hg2)
 have HGA := hid ((h.grown hg1).grown hg2)
 have HN := hid hn
 have HL := hid hl
 have HS1 := hid (show w.heap.size ≤ W1.heap.size from hg1.size)
 rw [hn] at hl ⊢
 clear h hg1 hg2 e1 e2 hn
 by_cases h1 : v < 1
 ·
  have f1 : decide (v < 1) = true := decide_eq_true h1
  have HE := hid (show inputC gs v = (gs, -1) by unfold inputC; rw [if_pos (.inl h1)])
  clear h1
  go_enter Try.func68, Try.ntmps68
  go_wp2_with fail
  refine bodyPost_ret (results13 _ _ W1.heap.size a n c _ rfl rfl (World.cell?_setCell_same _ _ _ r1)) rfl ⟨a, c, by rw [HE.out, HN.out], ?_, grown_own HW.out (grown_set W2 W1.heap.size 0 _) (fun k e => by cases e; exact HS1.out)⟩
  rw [HE.out]
  exact HGA.out.set r1 _
 ·
  have f1 : decide (v < 1) = false := decide_eq_false h1
  by_cases h2 : 20000 < v
  ·
   have f2 : decide (20000 < v) = true := decide_eq_true h2
   have HE := hid (show inputC gs v = (gs, -1) by unfold inputC; rw [if_pos (.inr h2)])
   clear h1 h2
   go_enter Try.func68, Try.ntmps68
   go_wp2_with fail
   refine bodyPost_ret (results13 _ _ W1.heap.size a n c _ rfl rfl (World.cell?_setCell_same _ _ _ r1)) rfl ⟨a, c, by rw [HE.out, HN.out], ?_, grown_own HW.out (grown_set W2 W1.heap.size 0 _) (fun k e => by cases e; exact HS1.out)⟩
   rw [HE.out]
   exact HGA.out.set r1 _
  ·
   have f2 : decide (20000 < v) = false := decide_eq_false h2
   have HE := hid (show inputC gs v = addG gs (1, v, 0) by unfold inputC; rw [if_neg (by omega)])
   clear h1 h2
   have HSH := share_calls gs (1, v, 0) a c W2 HGA.out HL.out
   rw [HN.out] at HSH
   have HSH2 := hid HSH
   clear HSH
   go_enter Try.func68, Try.ntmps68
   go_wp2_with fail
   refine (HSH2.out).mono ?_
   rintro e w3 ⟨a', c', rfl, hr, g⟩
   have HX := hid hr
   have HG3 := hid g
   have r3 := g.cell HR.out.2.1 (by simp)
   have rf3 : w3.frozen? ⟨W1.heap.size, 0, none⟩ = false := (grown_frozen g HR.out.1 0).trans HR.out.2.2
   clear hr g r1 rf
   go_wp2_with fail
   refine bodyPost_ret (results13 _ _ W1.heap.size a' _ c' _ rfl rfl (World.cell?_setCell_same _ _ _ r3)) rfl ⟨a', c', by rw [HE.out], ?_, grown_own (gT HW.out HG3.out) (grown_set w3 W1.heap.size 0 _) (fun k e => by cases e; exact HS1.out)⟩
   rw [HE.out]
   exact HX.out.set r3 _

theorem rand_calls (gs : List Gt) (x y : Int) (a : Option Addr) (c : Nat) (w : World) (h : GatesW w a c gs) (hl : gs.length ≤ 1000) (hG : Good gs) (hx : x ≤ 9223372036854775807) (hy : y ≤ 9223372036854775807) :
  Calls Try.prog 82 #[.agg #[.slice a gs.length c], .int .i64 x, .int .i64 y] w (Ans w (andC gs x y).1 (andC gs x y).2) := by
 obtain ⟨n, hn⟩ : ∃ n, gs.length = n := ⟨_, rfl⟩
 have hg1 := gAl w (.cells #[.slice a n c] 30) none
 have e1 := one_cell w (.slice a n c) 30
 obtain ⟨W1, hW1⟩ : ∃ W, w.alloc (.cells #[.slice a n c] 30) = W := ⟨_, rfl⟩
 rw [hW1] at hg1 e1
 have hg2 := gAl W1 (.cells #[.slice none 0 0] 30) none
 have e2 := one_cell W1 (.slice none 0 0) 30
 obtain ⟨W2, hW2⟩ : ∃ W, W1.alloc (.cells #[.slice none 0 0] 30) = W := ⟨_, rfl⟩
 rw [hW2] at hg2 e2
 have q1 := hg2.cell e1.2.1 (by simp)
 have HQ := hid q1
 have HR := hid e2
 have r1 := e2.2.1
 have rf := e2.2.2
 have HW := hid (gT hg1 hg2)
 have HGA := hid ((h.grown hg1).grown hg2)
 have HN := hid hn
 have HL := hid hl
 have HS1 := hid (show w.heap.size ≤ W1.heap.size from hg1.size)
 rw [hn] at hl ⊢
 clear h hg1 hg2 e1 e2 hn
 have hw2 : IntKind.i64.wrap (2 * (n : Int)) = 2 * (n : Int) := IntWalk.i64_in _ (by omega)
 have hN : 1 ≤ n := by have := hG.pos; have := HN.out; omega
 have HB := hid (And.intro hx hy)
 by_cases c1 : x < 0
 ·
  have HE := hid (show andC gs x y = (gs, -1) by unfold andC; rw [HN.out]; rw [if_pos (by omega)])
  have f0 : decide (x < 0) = true := decide_eq_true (by omega)
  clear c1
  go_enter Try.func82, Try.ntmps82
  go_wp2_with (go_at_call 69; refine (not26_calls _ _ HB.out.1).mono ?_; rintro e w9 ⟨rfl, hw9⟩; rw [hw9]; clear hw9 w9)
  refine bodyPost_ret (results15 _ _ W1.heap.size a n c _ rfl rfl (World.cell?_setCell_same _ _ _ r1)) rfl ⟨a, c, by rw [HE.out, HN.out], ?_, grown_own HW.out (grown_set W2 W1.heap.size 0 _) (fun k e => by cases e; exact HS1.out)⟩
  rw [HE.out]
  exact HGA.out.set r1 _
 by_cases c2 : y < 0
 ·
  have HE := hid (show andC gs x y = (gs, -1) by unfold andC; rw [HN.out]; rw [if_pos (by omega)])
  have f0 : decide (x < 0) = false := decide_eq_false (by omega)
  have f1 : decide (y < 0) = true := decide_eq_true (by omega)
  clear c1 c2
  go_enter Try.func82, Try.ntmps82
  go_wp2_with (go_at_call 69; refine (not26_calls _ _ HB.out.1).mono ?_; rintro e w9 ⟨rfl, hw9⟩; rw [hw9]; clear hw9 w9)
  refine bodyPost_ret (results15 _ _ W1.heap.size a n c _ rfl rfl (World.cell?_setCell_same _ _ _ r1)) rfl ⟨a, c, by rw [HE.out, HN.out], ?_, grown_own HW.out (grown_set W2 W1.heap.size 0 _) (fun k e => by cases e; exact HS1.out)⟩
  rw [HE.out]
  exact HGA.out.set r1 _
 by_cases c3 : 2 * (n : Int) ≤ x
 ·
  have HE := hid (show andC gs x y = (gs, -1) by unfold andC; rw [HN.out]; rw [if_pos (by omega)])
  have f0 : decide (x < 0) = false := decide_eq_false (by omega)
  have f1 : decide (y < 0) = false := decide_eq_false (by omega)
  have f2 : decide (2 * (n : Int) ≤ x) = true := decide_eq_true (by omega)
  clear c1 c2 c3
  go_enter Try.func82, Try.ntmps82
  go_wp2_with (go_at_call 69; refine (not26_calls _ _ HB.out.1).mono ?_; rintro e w9 ⟨rfl, hw9⟩; rw [hw9]; clear hw9 w9)
  refine bodyPost_ret (results15 _ _ W1.heap.size a n c _ rfl rfl (World.cell?_setCell_same _ _ _ r1)) rfl ⟨a, c, by rw [HE.out, HN.out], ?_, grown_own HW.out (grown_set W2 W1.heap.size 0 _) (fun k e => by cases e; exact HS1.out)⟩
  rw [HE.out]
  exact HGA.out.set r1 _
 by_cases c4 : 2 * (n : Int) ≤ y
 ·
  have HE := hid (show andC gs x y = (gs, -1) by unfold andC; rw [HN.out]; rw [if_pos (by omega)])
  have f0 : decide (x < 0) = false := decide_eq_false (by omega)
  have f1 : decide (y < 0) = false := decide_eq_false (by omega)
  have f2 : decide (2 * (n : Int) ≤ x) = false := decide_eq_false (by omega)
  have f3 : decide (2 * (n : Int) ≤ y) = true := decide_eq_true (by omega)
  clear c1 c2 c3 c4
  go_enter Try.func82, Try.ntmps82
  go_wp2_with (go_at_call 69; refine (not26_calls _ _ HB.out.1).mono ?_; rintro e w9 ⟨rfl, hw9⟩; rw [hw9]; clear hw9 w9)
  refine bodyPost_ret (results15 _ _ W1.heap.size a n c _ rfl rfl (World.cell?_setCell_same _ _ _ r1)) rfl ⟨a, c, by rw [HE.out, HN.out], ?_, grown_own HW.out (grown_set W2 W1.heap.size 0 _) (fun k e => by cases e; exact HS1.out)⟩
  rw [HE.out]
  exact HGA.out.set r1 _
 have HNN := hid (show ¬ (x < 0 ∨ y < 0 ∨ 2 * (n : Int) ≤ x ∨ 2 * (n : Int) ≤ y) by omega)
 have e0 : decide (x < 0) = false := decide_eq_false (by omega)
 have e1 : decide (y < 0) = false := decide_eq_false (by omega)
 have e2 : decide (2 * (n : Int) ≤ x) = false := decide_eq_false (by omega)
 have e3 : decide (2 * (n : Int) ≤ y) = false := decide_eq_false (by omega)
 by_cases c5 : x = 1
 ·
  have HE := hid (show andC gs x y = (gs, 1) by unfold andC; rw [HN.out]; rw [if_neg HNN.out, if_pos (.inl c5)])
  have f5 := beqT c5
  clear c1 c2 c3 c4 c5
  go_enter Try.func82, Try.ntmps82
  go_wp2_with (go_at_call 69; refine (not26_calls _ _ HB.out.1).mono ?_; rintro e w9 ⟨rfl, hw9⟩; rw [hw9]; clear hw9 w9)
  refine bodyPost_ret (results15 _ _ W1.heap.size a n c _ rfl rfl (World.cell?_setCell_same _ _ _ r1)) rfl ⟨a, c, by rw [HE.out, HN.out], ?_, grown_own HW.out (grown_set W2 W1.heap.size 0 _) (fun k e => by cases e; exact HS1.out)⟩
  rw [HE.out]
  exact HGA.out.set r1 _
 have e5 := beqF c5
 by_cases c6 : y = 1
 ·
  have HE := hid (show andC gs x y = (gs, 1) by unfold andC; rw [HN.out]; rw [if_neg HNN.out, if_pos (.inr (.inl c6))])
  have f6 := beqT c6
  clear c1 c2 c3 c4 c5 c6
  go_enter Try.func82, Try.ntmps82
  go_wp2_with (go_at_call 69; refine (not26_calls _ _ HB.out.1).mono ?_; rintro e w9 ⟨rfl, hw9⟩; rw [hw9]; clear hw9 w9)
  refine bodyPost_ret (results15 _ _ W1.heap.size a n c _ rfl rfl (World.cell?_setCell_same _ _ _ r1)) rfl ⟨a, c, by rw [HE.out, HN.out], ?_, grown_own HW.out (grown_set W2 W1.heap.size 0 _) (fun k e => by cases e; exact HS1.out)⟩
  rw [HE.out]
  exact HGA.out.set r1 _
 have e6 := beqF c6
 by_cases c7 : y = notR x
 ·
  have HE := hid (show andC gs x y = (gs, 1) by unfold andC; rw [HN.out]; rw [if_neg HNN.out, if_pos (.inr (.inr c7))])
  have f7 := beqT c7
  clear c1 c2 c3 c4 c5 c6 c7
  go_enter Try.func82, Try.ntmps82
  go_wp2_with (go_at_call 69; refine (not26_calls _ _ HB.out.1).mono ?_; rintro e w9 ⟨rfl, hw9⟩; rw [hw9]; clear hw9 w9)
  refine bodyPost_ret (results15 _ _ W1.heap.size a n c _ rfl rfl (World.cell?_setCell_same _ _ _ r1)) rfl ⟨a, c, by rw [HE.out, HN.out], ?_, grown_own HW.out (grown_set W2 W1.heap.size 0 _) (fun k e => by cases e; exact HS1.out)⟩
  rw [HE.out]
  exact HGA.out.set r1 _
 have e7 := beqF c7
 have HN2 := hid (show ¬ (x = 1 ∨ y = 1 ∨ y = notR x) by simp only [not_or]; exact ⟨c5, c6, c7⟩)
 clear c5 c6 c7
 by_cases c8 : x = 0
 ·
  have HE := hid (show andC gs x y = (gs, y) by unfold andC; rw [HN.out]; rw [if_neg HNN.out, if_neg HN2.out, if_pos c8])
  have f8 := beqT c8
  clear c1 c2 c3 c4 c8
  go_enter Try.func82, Try.ntmps82
  go_wp2_with (go_at_call 69; refine (not26_calls _ _ HB.out.1).mono ?_; rintro e w9 ⟨rfl, hw9⟩; rw [hw9]; clear hw9 w9)
  refine bodyPost_ret (results15 _ _ W1.heap.size a n c _ rfl rfl (World.cell?_setCell_same _ _ _ r1)) rfl ⟨a, c, by rw [HE.out, HN.out], ?_, grown_own HW.out (grown_set W2 W1.heap.size 0 _) (fun k e => by cases e; exact HS1.out)⟩
  rw [HE.out]
  exact HGA.out.set r1 _
 have e8 := beqF c8
 by_cases c9 : y = 0
 ·
  have HE := hid (show andC gs x y = (gs, x) by unfold andC; rw [HN.out]; rw [if_neg HNN.out, if_neg HN2.out, if_neg c8, if_pos (.inl c9)])
  have f9 := beqT c9
  clear c1 c2 c3 c4 c8 c9
  go_enter Try.func82, Try.ntmps82
  go_wp2_with (go_at_call 69; refine (not26_calls _ _ HB.out.1).mono ?_; rintro e w9 ⟨rfl, hw9⟩; rw [hw9]; clear hw9 w9)
  refine bodyPost_ret (results15 _ _ W1.heap.size a n c _ rfl rfl (World.cell?_setCell_same _ _ _ r1)) rfl ⟨a, c, by rw [HE.out, HN.out], ?_, grown_own HW.out (grown_set W2 W1.heap.size 0 _) (fun k e => by cases e; exact HS1.out)⟩
  rw [HE.out]
  exact HGA.out.set r1 _
 have e9 := beqF c9
 by_cases c10 : x = y
 ·
  have HE := hid (show andC gs x y = (gs, x) by unfold andC; rw [HN.out]; rw [if_neg HNN.out, if_neg HN2.out, if_neg c8, if_pos (.inr c10)])
  have f10 := beqT c10
  clear c1 c2 c3 c4 c8 c9 c10
  go_enter Try.func82, Try.ntmps82
  go_wp2_with (go_at_call 69; refine (not26_calls _ _ HB.out.1).mono ?_; rintro e w9 ⟨rfl, hw9⟩; rw [hw9]; clear hw9 w9)
  refine bodyPost_ret (results15 _ _ W1.heap.size a n c _ rfl rfl (World.cell?_setCell_same _ _ _ r1)) rfl ⟨a, c, by rw [HE.out, HN.out], ?_, grown_own HW.out (grown_set W2 W1.heap.size 0 _) (fun k e => by cases e; exact HS1.out)⟩
  rw [HE.out]
  exact HGA.out.set r1 _
 have e10 := beqF c10
 by_cases hab : x < y
 ·
  have HE := hid (show andC gs x y = addG gs (2, x, y) by unfold andC; rw [HN.out, if_neg HNN.out, if_neg HN2.out, if_neg c8, if_neg (show ¬ (y = 0 ∨ x = y) by omega), Int.min_eq_left (by omega), Int.max_eq_right (by omega)])
  have HSH := share_calls gs (2, x, y) a c W2 HGA.out HL.out
  rw [HN.out] at HSH
  have HSH2 := hid HSH
  clear HSH
  have m1 : min x y = x := Int.min_eq_left (by omega)
  have m2 : max x y = y := Int.max_eq_right (by omega)
  have o2 : decide (x ≤ y) = true := decide_eq_true (by omega)
  have o3 : decide (y ≤ x) = false := decide_eq_false (by omega)
  have o4 : x ≤ y := by omega
  have o5 : ¬ y ≤ x := by omega
  clear c1 c2 c3 c4 c8 c9 c10 hab
  go_enter Try.func82, Try.ntmps82
  go_wp2_with (go_at_call 69; refine (not26_calls _ _ HB.out.1).mono ?_; rintro e w9 ⟨rfl, hw9⟩; rw [hw9]; clear hw9 w9)
  refine (HSH2.out).mono ?_
  rintro e w3 ⟨a', c', rfl, hr, g⟩
  have HX := hid hr
  have HG3 := hid g
  have r3 := g.cell HR.out.2.1 (by simp)
  have rf3 : w3.frozen? ⟨W1.heap.size, 0, none⟩ = false := (grown_frozen g HR.out.1 0).trans HR.out.2.2
  clear hr g r1 rf
  go_wp2_with fail
  refine bodyPost_ret (results15 _ _ W1.heap.size a' _ c' _ rfl rfl (World.cell?_setCell_same _ _ _ r3)) rfl ⟨a', c', by rw [HE.out], ?_, grown_own (gT HW.out HG3.out) (grown_set w3 W1.heap.size 0 _) (fun k e => by cases e; exact HS1.out)⟩
  rw [HE.out]
  exact HX.out.set r3 _
 ·
  have HE := hid (show andC gs x y = addG gs (2, y, x) by unfold andC; rw [HN.out, if_neg HNN.out, if_neg HN2.out, if_neg c8, if_neg (show ¬ (y = 0 ∨ x = y) by omega), Int.min_eq_right (by omega), Int.max_eq_left (by omega)])
  have HSH := share_calls gs (2, y, x) a c W2 HGA.out HL.out
  rw [HN.out] at HSH
  have HSH2 := hid HSH
  clear HSH
  have m1 : min x y = y := Int.min_eq_right (by omega)
  have m2 : max x y = x := Int.max_eq_left (by omega)
  have o2 : decide (x ≤ y) = false := decide_eq_false (by omega)
  have o3 : decide (y ≤ x) = true := decide_eq_true (by omega)
  have o4 : y ≤ x := by omega
  have o5 : ¬ x ≤ y := by omega
  clear c1 c2 c3 c4 c8 c9 c10 hab
  go_enter Try.func82, Try.ntmps82
  go_wp2_with (go_at_call 69; refine (not26_calls _ _ HB.out.1).mono ?_; rintro e w9 ⟨rfl, hw9⟩; rw [hw9]; clear hw9 w9)
  refine (HSH2.out).mono ?_
  rintro e w3 ⟨a', c', rfl, hr, g⟩
  have HX := hid hr
  have HG3 := hid g
  have r3 := g.cell HR.out.2.1 (by simp)
  have rf3 : w3.frozen? ⟨W1.heap.size, 0, none⟩ = false := (grown_frozen g HR.out.1 0).trans HR.out.2.2
  clear hr g r1 rf
  go_wp2_with fail
  refine bodyPost_ret (results15 _ _ W1.heap.size a' _ c' _ rfl rfl (World.cell?_setCell_same _ _ _ r3)) rfl ⟨a', c', by rw [HE.out], ?_, grown_own (gT HW.out HG3.out) (grown_set w3 W1.heap.size 0 _) (fun k e => by cases e; exact HS1.out)⟩
  rw [HE.out]
  exact HX.out.set r3 _
end Go.Proofs.Ythdhmflodiincaa

/- Texts of the proof: H3 P1 R1 R2. -/
import Derived.Test.YthkjjiijjedipaaDoorCA05
import Derived.Test.YthkjjiijjedipaaDoorCA04
namespace Go.Proofs.YthkjjiijjedipaaDoor
open Go.RowKit

/-- A store into a box of a circuit leaves the rows of gates. -/
theorem GateAt.set {w : World} {b : Nat} {k o : Nat} {g : Gt} (h : GateAt w k o g) {a' : Option Addr} {n' c' : Nat} (hb : w.cell? ⟨b, 0, none⟩ = some (.slice a' n' c')) (v : Value) : GateAt (w.setCell ⟨b, 0, none⟩ v) k o g := by
  have ne : ∀ {A : Addr} {x : Int}, w.cell? A = some (.int .i64 x) → (⟨b, 0, none⟩ : Addr) ≠ A := fun {A x} hA e => by rw [← e, hb] at hA; cases hA
  exact ⟨by rw [World.cell?_setCell_other _ _ _ _ (ne h.1)]; exact h.1, by rw [World.cell?_setCell_other _ _ _ _ (ne h.2.1)]; exact h.2.1, by rw [World.cell?_setCell_other _ _ _ _ (ne h.2.2)]; exact h.2.2⟩
theorem GatesW.set {w : World} {b : Nat} {a : Option Addr} {c : Nat} {g : List Gt} (h : GatesW w a c g) {a' : Option Addr} {n' c' : Nat} (hb : w.cell? ⟨b, 0, none⟩ = some (.slice a' n' c')) (v : Value) : GatesW (w.setCell ⟨b, 0, none⟩ v) a c g := by
  obtain ⟨hc, h | ⟨k, o, ha, ht, hz⟩⟩ := h
  · exact ⟨hc, .inl h⟩
  · exact ⟨hc, .inr ⟨k, o, ha, ht.set _ _, fun j g hj => (hz j g hj).set hb v⟩⟩
/-- A circuit in a box. -/
def CB (w : World) (b : Nat) (a : Option Addr) (c : Nat) (g : List Gt) : Prop := w.cell? ⟨b, 0, none⟩ = some (.slice a g.length c) ∧ w.frozen? ⟨b, 0, none⟩ = false ∧ GatesW w a c g
theorem CB.grown {w w' : World} {b : Nat} {a : Option Addr} {c : Nat} {g : List Gt} (h : CB w b a c g) (hg : w.grownBy w' none) : CB w' b a c g :=
  ⟨hg.cell h.1 (by simp), (grown_frozen hg (lies_lt h.1) 0).trans h.2.1, h.2.2.grown hg⟩
theorem CB.new {w : World} {a : Option Addr} {c : Nat} {g : List Gt} (h : GatesW w a c g) : CB (w.alloc (.cells #[.slice a g.length c] 27)) w.heap.size a c g :=
  ⟨(one_cell w _ 27).2.1, (one_cell w _ 27).2.2, h.grown (World.grownBy_alloc w _ none)⟩
theorem CB.put {w : World} {b : Nat} {a a' : Option Addr} {c n' c' : Nat} {g : List Gt} (h : GatesW w a c g) (h0 : w.cell? ⟨b, 0, none⟩ = some (.slice a' n' c')) (hf : w.frozen? ⟨b, 0, none⟩ = false) : CB (w.setCell ⟨b, 0, none⟩ (.slice a g.length c)) b a c g :=
  ⟨World.cell?_setCell_same _ _ _ h0, by rw [World.frozen?_setCell]; exact hf, h.set h0 _⟩
/-- A fresh box of a circuit. -/
def BoxZ (w : World) (b : Nat) : Prop := w.cell? ⟨b, 0, none⟩ = some (.slice none 0 0) ∧ w.frozen? ⟨b, 0, none⟩ = false
theorem BoxZ.new (w : World) : BoxZ (w.alloc (.cells #[.slice none 0 0] 27)) w.heap.size := (one_cell w _ 27).2
theorem BoxZ.grown {w w' : World} {b : Nat} (h : BoxZ w b) (hg : w.grownBy w' none) : BoxZ w' b := ⟨hg.cell h.1 (by simp), (grown_frozen hg (lies_lt h.1) 0).trans h.2⟩
/-- What a call that answers with a circuit and a reference leaves. -/
def Ans (w : World) (g : List Gt) (r : Int) (x : Ending) (w' : World) : Prop := ∃ a c, x = .returned (.tuple #[.agg #[.slice a g.length c], .int .i64 r]) ∧ GatesW w' a c g ∧ w.grownBy w' none
section
variable {gs g : List Gt} {r : Int} {a : Option Addr} {c : Nat} {w : World}
end
theorem good_bounds {gs : List Gt} (h : Good gs) (hl : gs.length ≤ 20000) : ∀ g ∈ gs, g.2.1 ≤ 9223372036854775807 ∧ g.2.2 ≤ 9223372036854775807 := fun g hg => by
  obtain ⟨i, hi⟩ := List.mem_iff_getElem?.1 hg
  have hlt := (List.getElem?_eq_some_iff.1 hi).1
  cases i with
  | zero => rw [h.zero] at hi; cases hi; simp
  | succ i => rcases h.form _ _ (by omega) hi with h1 | h1 <;> omega
theorem wf_i64 {x : Int} (h0 : 0 ≤ x) (h1 : x ≤ 9223372036854775807) : (Lit.int .i64 x).wf = true := WalkArith.wf_i64 (by omega)
end Go.Proofs.YthkjjiijjedipaaDoor

namespace Go.Proofs.YthkjjiijjedipaaDoor
open Go.RowKit

def pick0 (refs : List Int) (n : Nat) : Int := if n / 2 % (refs.length + 1) = 0 then 0 else (refs[n / 2 % (refs.length + 1) - 1]?).getD 0
def pickL (refs : List Int) (n : Nat) : Int := if n % 2 = 1 then notR (pick0 refs n) else pick0 refs n

set_option maxRecDepth 100000 in
set_option maxHeartbeats 4000000 in
theorem pick_calls (refs : List Int) (n : Nat) (a : Option Addr) (c : Nat) (w : World) (h : IntsW w a c refs) (hl : refs.length ≤ 1000) (hn : n < 256) (hb : ∀ r ∈ refs, r ≤ 9223372036854775807) :
    Calls Tryd.prog 10 #[.slice a refs.length c, .int .u8 (n : Int)] w fun e w' => e = .returned (.int .i64 (pickL refs n)) ∧ w' = w := by
  obtain ⟨m, hm⟩ : ∃ m, refs.length = m := ⟨_, rfl⟩
  obtain ⟨q, hq⟩ : ∃ q, n / 2 = q := ⟨_, rfl⟩
  obtain ⟨k, hk⟩ : ∃ k, q % (m + 1) = k := ⟨_, rfl⟩
  have hkm : k ≤ m := by rw [← hk]; have := Nat.mod_lt q (show 0 < m + 1 by omega); omega
  have HP0 := Lib.hid (show pick0 refs n = if k = 0 then 0 else (refs[k - 1]?).getD 0 by unfold pick0; rw [hm, hq, hk])
  have HPL := Lib.hid (show pickL refs n = if n % 2 = 1 then notR (pick0 refs n) else pick0 refs n from rfl)
  have hw0 : IntKind.i64.wrap (n : Int) = (n : Int) := IntWalk.i64_in _ (by omega)
  have hw1 : IntKind.i64.wrap (q : Int) = (q : Int) := IntWalk.i64_in _ (by omega)
  have hw2 : IntKind.i64.wrap ((m : Int) + 1) = ((m + 1 : Nat) : Int) := by rw [IntWalk.i64_in _ (by omega)]; omega
  have hw3 : IntKind.i64.wrap (k : Int) = (k : Int) := IntWalk.i64_in _ (by omega)
  have hm0 : ¬ (((m + 1 : Nat) : Int) = 0) := by omega
  have hm1 : ¬ ((m + 1 : Nat) = 0) := by omega
  have hd : (n : Int).tdiv 2 = (q : Int) := by rw [Int.tdiv_eq_ediv_of_nonneg (by omega), ← hq]; omega
  have hr : (q : Int).tmod ((m + 1 : Nat) : Int) = (k : Int) := by rw [Int.tmod_eq_emod_of_nonneg (by omega), ← hk]; rfl
  have hr' : (q : Int).tmod ((m : Int) + 1) = (k : Int) := hr
  have HM := Lib.hid hm
  have HH := Lib.hid h
  have HB := Lib.hid hb
  rw [hm] at hl ⊢
  clear h hb hm
  have h2 : n % 2 = 0 ∨ n % 2 = 1 := by omega
  have ht : (n : Int).tmod 2 = ((n % 2 : Nat) : Int) := by rw [Int.tmod_eq_emod_of_nonneg (by omega)]; rfl
  have hz : ∀ z, pick0 refs n = z → z ≤ 9223372036854775807 := fun z hz => by
    rw [← hz, HP0.out]
    split
    · omega
    · cases hg : refs[k - 1]? with
      | none => simp
      | some r => exact HB.out r (List.mem_of_getElem? hg)
  by_cases hk0 : 0 < k
  · have f1 : decide (0 < k) = true := decide_eq_true hk0
    obtain ⟨r, hg⟩ : ∃ r, refs[k - 1]? = some r := ⟨_, List.getElem?_eq_getElem (by rw [HM.out]; omega)⟩
    have hp0 : pick0 refs n = r := by rw [HP0.out, if_neg (by omega), hg]; rfl
    have hrb := hz r hp0
    obtain ⟨b, o, rfl, x0⟩ := HH.out.at hg
    have hw5 : IntKind.i64.wrap ((k : Int) - 1) = ((k - 1 : Nat) : Int) := by rw [IntWalk.i64_in _ (by omega)]; omega
    have hi0 : (0 : Int) ≤ ((k - 1 : Nat) : Int) := by omega
    have hi1 : ((k - 1 : Nat) : Int) < (m : Int) := by omega
    obtain ⟨j, hj⟩ : ∃ j, k - 1 = j := ⟨_, rfl⟩
    rw [hj] at hw5 hi0 hi1 x0
    clear hj hg hz
    by_cases hn2 : n % 2 = 1
    · have f2 : ((n : Int) % 2 == 1) = true := beqT (by omega)
      have HE := Lib.hid (show pickL refs n = notR r by rw [HPL.out, if_pos hn2, hp0])
      clear hn2 hp0 h2 ht
      go_enter Tryd.func10, Tryd.ntmps10
      go_wp2_with (go_at_call 18; refine (not26_calls _ _ hrb).mono ?_; rintro e w9 ⟨rfl, hw9⟩; rw [hw9]; clear hw9 w9)
      go_ret
      exact ⟨by rw [HE.out]; rfl, rfl⟩
    · have f2 : ((n : Int) % 2 == 1) = false := beqF (by omega)
      have HE := Lib.hid (show pickL refs n = r by rw [HPL.out, if_neg hn2, hp0])
      clear hn2 hp0 h2 ht
      go_enter Tryd.func10, Tryd.ntmps10
      go_wp2_with fail
      go_ret
      exact ⟨by rw [HE.out]; rfl, rfl⟩
  · have f1 : decide (0 < k) = false := decide_eq_false hk0
    obtain ⟨r, hrr⟩ : ∃ r : Int, r = 0 := ⟨_, rfl⟩
    have hp0 : pick0 refs n = r := by rw [HP0.out, if_pos (by omega), hrr]
    have hrb := hz r hp0
    clear hz
    subst hrr
    by_cases hn2 : n % 2 = 1
    · have f2 : ((n : Int) % 2 == 1) = true := beqT (by omega)
      have HE := Lib.hid (show pickL refs n = notR 0 by rw [HPL.out, if_pos hn2, hp0])
      clear hn2 hp0 h2 ht
      go_enter Tryd.func10, Tryd.ntmps10
      go_wp2_with (go_at_call 18; refine (not26_calls _ _ hrb).mono ?_; rintro e w9 ⟨rfl, hw9⟩; rw [hw9]; clear hw9 w9)
      go_ret
      exact ⟨by rw [HE.out]; rfl, rfl⟩
    · have f2 : ((n : Int) % 2 == 1) = false := beqF (by omega)
      have HE := Lib.hid (show pickL refs n = 0 by rw [HPL.out, if_neg hn2, hp0])
      clear hn2 hp0 h2 ht
      go_enter Tryd.func10, Tryd.ntmps10
      go_wp2_with fail
      go_ret
      exact ⟨by rw [HE.out]; rfl, rfl⟩
end Go.Proofs.YthkjjiijjedipaaDoor

namespace Go.Proofs.YthkjjiijjedipaaDoor
open Go.RowKit

theorem locG_first {x : Gt} : ∀ {gs : List Gt} {k : Nat}, gs[k]? = some x → (∀ j, j < k → gs[j]? ≠ some x) → locG x gs = some k
  | [], k, h, _ => by simp at h
  | g :: gs, 0, h, _ => by simp at h; unfold locG; rw [if_pos h]
  | g :: gs, k + 1, h, hn => by
    have h0 : g ≠ x := fun e => hn 0 (by omega) (by simp [e])
    have ih := locG_first (gs := gs) (k := k) (by simpa using h) (fun j hj e => hn (j + 1) (by omega) (by simpa using e))
    unfold locG
    rw [if_neg h0, ih]
    rfl

set_option maxRecDepth 100000 in
set_option maxHeartbeats 4000000 in
theorem rfind_calls (gs : List Gt) (x : Gt) (a : Option Addr) (c : Nat) (w : World) (h : GatesR w a c gs) (hl : gs.length ≤ 2000) :
    Calls Tryd.prog 50 #[.agg #[.slice a gs.length c], gv x] w fun e w' => e = .returned (.int .i64 (locI x gs)) ∧ w.grownBy w' none := by
  obtain ⟨n, hn⟩ : ∃ n, gs.length = n := ⟨_, rfl⟩
  have hg1 := World.grownBy_alloc w (.cells #[.slice a n c] 27) none
  have e1 := one_cell w (.slice a n c) 27
  obtain ⟨W1, hW1⟩ : ∃ W, w.alloc (.cells #[.slice a n c] 27) = W := ⟨_, rfl⟩
  rw [hW1] at hg1 e1
  have hg2 := World.grownBy_alloc W1 (.cells #[.int .i64 x.1, .int .i64 x.2.1, .int .i64 x.2.2] 58) none
  have hx := gate_cells W1 x
  obtain ⟨W2, hW2⟩ : ∃ W, W1.alloc (.cells #[.int .i64 x.1, .int .i64 x.2.1, .int .i64 x.2.2] 58) = W := ⟨_, rfl⟩
  rw [hW2] at hg2 hx
  have q1 := hg2.cell e1.2.1 (by simp)
  have HQ := Lib.hid q1
  have HX := Lib.hid hx
  have HG := Lib.hid (World.grownBy.trans hg1 hg2)
  have HA := Lib.hid ((h.grown hg1).grown hg2)
  have HN := Lib.hid hn
  rw [hn] at hl ⊢
  clear h hg1 hg2 e1 hn hx
  go_enter Tryd.func50, Tryd.ntmps50
  go_wp2_with fail
  clear q1 hW1 hW2
  go_loopg [5] n (fun g s wr => ∃ k : Nat, s = .int .i64 (k : Int) ∧ g = n - k ∧ k ≤ n ∧ (∀ j : Nat, j < k → gs[j]? ≠ some x) ∧ W2.grownBy wr none)
  case atStart => exact ⟨0, rfl, rfl, Nat.zero_le _, fun j hj => by omega, grown_refl _ _⟩
  case round =>
    obtain ⟨k, rfl, hgk, hk, hno, hgr⟩ := hrel
    have HI := Lib.hid (And.intro hgk hno); clear hgk hno
    have q1 := hgr.cell HQ.out (by simp)
    obtain ⟨y0, y1, y2⟩ := HX.out.grown hgr
    have HGR := Lib.hid hgr; clear hgr
    by_cases hkn : k < n
    · have f1 : decide (k < n) = true := decide_eq_true hkn
      have hk1 : IntKind.i64.wrap ((k : Int) + 1) = ((k + 1 : Nat) : Int) := by rw [IntWalk.i64_in _ (by omega)]; omega
      have hjn : (k : Int) < (n : Int) := by omega
      have hj0 : (0 : Int) ≤ (k : Int) := by omega
      obtain ⟨g, hg⟩ : ∃ g, gs[k]? = some g := ⟨_, List.getElem?_eq_getElem (by rw [HN.out]; omega)⟩
      obtain ⟨ba, oa, rfl, x0, x1, x2⟩ := (HA.out.grown HGR.out).at hg
      have HGG := Lib.hid hg; clear hg
      by_cases hgx : g = x
      · have he : ∀ U : World, (Op.equalIn 10000 58 (.agg #[.int .i64 g.1, .int .i64 g.2.1, .int .i64 g.2.2]) (.agg #[.int .i64 x.1, .int .i64 x.2.1, .int .i64 x.2.2])).run Tryd.prog U = .ok true U := fun U => by rw [eq47 g x U, decide_eq_true hgx]
        have HR := Lib.hid (show locI x gs = (k : Int) from locI_nat (locG_first (by rw [← hgx]; exact HGG.out) HI.out.2))
        have HQQ := Lib.hid hgx; clear hgx
        go_wp2_with fail
        go_quiet (fail)
        go_wp2_with fail
        go_ret
        exact ⟨by rw [HR.out]; rfl, World.grownBy.trans HG.out (World.grownBy.trans HGR.out (grown_drewN wr nq none))⟩
      · have he : ∀ U : World, (Op.equalIn 10000 58 (.agg #[.int .i64 g.1, .int .i64 g.2.1, .int .i64 g.2.2]) (.agg #[.int .i64 x.1, .int .i64 x.2.1, .int .i64 x.2.2])).run Tryd.prog U = .ok false U := fun U => by rw [eq47 g x U, decide_eq_false hgx]
        have HS := Lib.hid (show ∀ j : Nat, j < k + 1 → gs[j]? ≠ some x from fun j hj e => by
          by_cases hjk : j = k
          · subst hjk; rw [HGG.out] at e; injection e with e; exact hgx e
          · exact HI.out.2 j (by omega) e)
        have HQQ := Lib.hid hgx; clear hgx
        go_wp2_with fail
        go_quiet (fail)
        go_wp2_with fail
        go_roundg (n - (k + 1))
        case measure => rw [HI.out.1]; omega
        case rel => exact ⟨k + 1, rfl, rfl, by omega, HS.out, World.grownBy.trans HGR.out (grown_drewN wr nq none)⟩
    · have f1 : decide (k < n) = false := decide_eq_false hkn
      have HR := Lib.hid (show locI x gs = -1 from locI_none fun i hi => HI.out.2 i (by have := (List.getElem?_eq_some_iff.1 hi).1; rw [HN.out] at this; omega) hi)
      go_wp2_with fail
      go_ret
      exact ⟨by rw [HR.out]; rfl, World.grownBy.trans HG.out HGR.out⟩
end Go.Proofs.YthkjjiijjedipaaDoor

namespace Go.Proofs.YthkjjiijjedipaaDoor
open Go.RowKit

theorem results37 (tmps : Array Value) (w : World) (b : Nat) (a : Option Addr) (n c : Nat) (x : Int) (ht : tmps.getD 4 undef = .pointer (some ⟨b, 0, none⟩)) (hs : tmps.getD 5 undef = .int .i64 x) (h0 : w.cell? ⟨b, 0, none⟩ = some (.slice a n c)) :
    (results Tryd.f40 tmps).run Tryd.prog w = .ok (.tuple #[.agg #[.slice a n c], .int .i64 x]) w := by
  have ht' : tmps[4]?.getD undef = .pointer (some ⟨b, 0, none⟩) := by simpa using ht
  have hs' : tmps[5]?.getD undef = .int .i64 x := by simpa using hs
  simp [results, ht', hs', go_sem, h0, Result.andThen]
theorem results13 (tmps : Array Value) (w : World) (b : Nat) (a : Option Addr) (n c : Nat) (x : Int) (ht : tmps.getD 4 undef = .pointer (some ⟨b, 0, none⟩)) (hs : tmps.getD 5 undef = .int .i64 x) (h0 : w.cell? ⟨b, 0, none⟩ = some (.slice a n c)) :
    (results Tryd.f24 tmps).run Tryd.prog w = .ok (.tuple #[.agg #[.slice a n c], .int .i64 x]) w := by
  have ht' : tmps[4]?.getD undef = .pointer (some ⟨b, 0, none⟩) := by simpa using ht
  have hs' : tmps[5]?.getD undef = .int .i64 x := by simpa using hs
  simp [results, ht', hs', go_sem, h0, Result.andThen]
theorem results15 (tmps : Array Value) (w : World) (b : Nat) (a : Option Addr) (n c : Nat) (x : Int) (ht : tmps.getD 6 undef = .pointer (some ⟨b, 0, none⟩)) (hs : tmps.getD 7 undef = .int .i64 x) (h0 : w.cell? ⟨b, 0, none⟩ = some (.slice a n c)) :
    (results Tryd.f26 tmps).run Tryd.prog w = .ok (.tuple #[.agg #[.slice a n c], .int .i64 x]) w := by
  have ht' : tmps[6]?.getD undef = .pointer (some ⟨b, 0, none⟩) := by simpa using ht
  have hs' : tmps[7]?.getD undef = .int .i64 x := by simpa using hs
  simp [results, ht', hs', go_sem, h0, Result.andThen]
theorem results17 (tmps : Array Value) (w : World) (b : Nat) (a : Option Addr) (n c : Nat) (x : Int) (ht : tmps.getD 6 undef = .pointer (some ⟨b, 0, none⟩)) (hs : tmps.getD 7 undef = .int .i64 x) (h0 : w.cell? ⟨b, 0, none⟩ = some (.slice a n c)) :
    (results Tryd.f41 tmps).run Tryd.prog w = .ok (.tuple #[.agg #[.slice a n c], .int .i64 x]) w := by
  have ht' : tmps[6]?.getD undef = .pointer (some ⟨b, 0, none⟩) := by simpa using ht
  have hs' : tmps[7]?.getD undef = .int .i64 x := by simpa using hs
  simp [results, ht', hs', go_sem, h0, Result.andThen]
theorem results19 (tmps : Array Value) (w : World) (b : Nat) (a : Option Addr) (n c : Nat) (x : Int) (ht : tmps.getD 6 undef = .pointer (some ⟨b, 0, none⟩)) (hs : tmps.getD 7 undef = .int .i64 x) (h0 : w.cell? ⟨b, 0, none⟩ = some (.slice a n c)) :
    (results Tryd.f42 tmps).run Tryd.prog w = .ok (.tuple #[.agg #[.slice a n c], .int .i64 x]) w := by
  have ht' : tmps[6]?.getD undef = .pointer (some ⟨b, 0, none⟩) := by simpa using ht
  have hs' : tmps[7]?.getD undef = .int .i64 x := by simpa using hs
  simp [results, ht', hs', go_sem, h0, Result.andThen]

set_option maxRecDepth 100000 in
set_option maxHeartbeats 4000000 in
theorem share_calls (gs : List Gt) (x : Gt) (a : Option Addr) (c : Nat) (w : World) (h : GatesW w a c gs) (hl : gs.length ≤ 1000) :
    Calls Tryd.prog 40 #[.agg #[.slice a gs.length c], gv x] w (Ans w (addG gs x).1 (addG gs x).2) := by
  obtain ⟨n, hn⟩ : ∃ n, gs.length = n := ⟨_, rfl⟩
  have hg1 := World.grownBy_alloc w (.cells #[.slice a n c] 27) none
  have e1 := one_cell w (.slice a n c) 27
  obtain ⟨W1, hW1⟩ : ∃ W, w.alloc (.cells #[.slice a n c] 27) = W := ⟨_, rfl⟩
  rw [hW1] at hg1 e1
  have hg2 := World.grownBy_alloc W1 (.cells #[.int .i64 x.1, .int .i64 x.2.1, .int .i64 x.2.2] 58) none
  have hx := gate_cells W1 x
  obtain ⟨W2, hW2⟩ : ∃ W, W1.alloc (.cells #[.int .i64 x.1, .int .i64 x.2.1, .int .i64 x.2.2] 58) = W := ⟨_, rfl⟩
  rw [hW2] at hg2 hx
  have hg3 := World.grownBy_alloc W2 (.cells #[.slice none 0 0] 27) none
  have e3 := one_cell W2 (.slice none 0 0) 27
  obtain ⟨W3, hW3⟩ : ∃ W, W2.alloc (.cells #[.slice none 0 0] 27) = W := ⟨_, rfl⟩
  rw [hW3] at hg3 e3
  have q1 := hg3.cell (hg2.cell e1.2.1 (by simp)) (by simp)
  have HX := Lib.hid (hx.grown hg3)
  have HQ := Lib.hid q1
  have HE := Lib.hid e3
  have HS := Lib.hid (show w.heap.size ≤ W2.heap.size from (World.grownBy.trans hg1 hg2).size)
  have HSZ := Lib.hid (show w.heap.size < W2.heap.size ∧ W1.heap.size < W2.heap.size from ⟨by have := e1.1; have := hg2.size; omega, lies_lt hx.1⟩)
  have HG := Lib.hid (World.grownBy.trans (World.grownBy.trans hg1 hg2) hg3)
  have HA := Lib.hid (((h.grown hg1).grown hg2).grown hg3)
  have HN := Lib.hid hn
  rw [hn] at hl ⊢
  clear h hg1 hg2 hg3 e1 e3 hn
  obtain ⟨y0, y1, y2⟩ := HX.out
  have HF := Lib.hid (rfind_calls gs x a c W3 HA.out.weak (by rw [HN.out]; omega))
  rw [HN.out] at HF
  go_enter Tryd.func40, Tryd.ntmps40
  go_wp2_with fail
  refine HF.out.mono ?_
  rintro e V ⟨rfl, g⟩
  have HV := Lib.hid g
  clear g hx q1 y0 y1 y2 hW1 hW2 hW3
  have k1 := HV.out.cell HQ.out (by simp)
  have r1 := HV.out.cell HE.out.2.1 (by simp)
  have rf : V.frozen? ⟨W2.heap.size, 0, none⟩ = false := (grown_frozen HV.out HE.out.1 0).trans HE.out.2.2
  have HGV := Lib.hid (World.grownBy.trans HG.out HV.out)
  have HAV := Lib.hid (HA.out.grown HV.out)
  cases hloc : locG x gs with
  | some i =>
    have hi := (List.getElem?_eq_some_iff.1 (locG_some hloc)).1
    rw [HN.out] at hi
    have HA' := Lib.hid (addG_some hloc)
    rw [locI_nat hloc]
    have HQQ := Lib.hid hloc; clear hloc
    have f1 : decide ((0 : Int) ≤ (i : Int)) = true := decide_eq_true (by omega)
    have f2 : IntKind.i64.wrap (2 * (i : Int)) = 2 * (i : Int) := IntWalk.i64_in _ (by omega)
    go_wp2_with fail
    refine bodyPost_ret (results37 _ _ W2.heap.size a n c _ rfl rfl (World.cell?_setCell_same _ _ _ r1)) rfl ⟨a, c, by rw [HA'.out, HN.out], ?_, grown_own HGV.out (grown_set V W2.heap.size 0 _) (fun k e => by cases e; exact HS.out)⟩
    rw [HA'.out]
    exact HAV.out.set r1 _
  | none =>
    have HA' := Lib.hid (addG_none hloc (by rw [HN.out]; omega))
    rw [locI_neg hloc]
    have HQQ := Lib.hid hloc; clear hloc
    have f1 : decide ((20000 : Int) ≤ (n : Int)) = false := decide_eq_false (by omega)
    have f1b : decide (20000 ≤ n) = false := decide_eq_false (by omega)
    have f2 : IntKind.i64.wrap (2 * (n : Int)) = 2 * (n : Int) := IntWalk.i64_in _ (by omega)
    go_wp2_with (at_builtin; refine append_gates rfl _ _ rfl V.heap.size _ 0 [] rfl (World.ownsRow_nil _ _ _ _) a n c gs rfl HN.out HAV.out (by omega) (Nat.le_refl _) ?_)
    intro v1 w1 hown1 hgrow1
    obtain ⟨a1, c1, rfl⟩ := own_shape hown1
    have HO1 := Lib.hid hown1
    have hg1 : V.grownBy w1 none := grown_own (grown_refl _ _) hgrow1 (fun k e => by cases e)
    have HG1 := Lib.hid hg1
    have y := HX.out.grown (World.grownBy.trans HV.out hg1)
    have hga := World.grownBy_alloc w1 (.cells #[.int .i64 x.1, .int .i64 x.2.1, .int .i64 x.2.2] 58) none
    have hnx := And.intro (gate_cells w1 x) (ty_alloc w1 #[.int .i64 x.1, .int .i64 x.2.1, .int .i64 x.2.2])
    have HGA := Lib.hid hga
    have HNX := Lib.hid hnx
    obtain ⟨y0, y1, y2⟩ := y
    clear hown1 hgrow1 hg1 hga hnx
    go_wp2_with (at_builtin; refine append_gates rfl _ _ rfl V.heap.size _ n gs rfl (own_grown HO1.out (World.grownBy_alloc w1 _ none)) (some ⟨w1.heap.size, 0, none⟩) 1 1 [x] rfl rfl (gate_news HNX.out.1 HNX.out.2) (by omega) (by have h1 := HG1.out.size; have h2 := HGA.out.size; omega) ?_)
    intro v2 w2 hown2 hgrow2
    obtain ⟨m, hm⟩ : ∃ m, (gs ++ [x]).length = m := ⟨_, rfl⟩
    have hmn : n + 1 = m := by rw [← hm, List.length_append, HN.out]; rfl
    rw [hmn] at hown2
    obtain ⟨a2, c2, rfl⟩ := own_shape hown2
    have HR := Lib.hid (show GatesW w2 a2 c2 (gs ++ [x]) from by
      rw [← hm] at hown2
      obtain ⟨a', c', e', hs'⟩ := gates_span (show w2.ownsRow V.heap.size 58 3 (.slice a2 (gs ++ [x]).length c2) (gs ++ [x]).length (gateCells (gs ++ [x])) by rw [gateCells_app]; exact hown2)
      cases e'
      exact hs'.here)
    have HG2 := Lib.hid (grown_own (World.grownBy.trans HG1.out HGA.out) hgrow2 (fun k e => (HO1.out.lt k e).1))
    have HM := Lib.hid (And.intro hm hmn)
    have HAQ := HA'
    clear k1 r1 rf y0 y1 y2 hown2 hgrow2 hm hmn f1 f1b
    have k2 := HG2.out.cell (HV.out.cell HQ.out (by simp)) (by simp)
    have r2 := HG2.out.cell (HV.out.cell HE.out.2.1 (by simp)) (by simp)
    have rf : w2.frozen? ⟨W2.heap.size, 0, none⟩ = false := (grown_frozen HG2.out (by have := HE.out.1; have := HV.out.size; omega) 0).trans ((grown_frozen HV.out HE.out.1 0).trans HE.out.2.2)
    have HK := Lib.hid k2
    have HRR := Lib.hid (And.intro r2 rf)
    clear k2 r2 rf
    go_wp2_with fail
    have hdr : w2.drew.cell? ⟨w.heap.size, 0, none⟩ = some (.slice a n c) := HK.out
    refine wp_region_held_drew (S := (fun Wh : World => Wh.cell? ⟨w.heap.size, 0, none⟩ = some (.slice a n c))) (by kernel_rfl) hdr (fun hHeld => ?_)
    refine tk 0 ({ dst := some 29, op := Op.move (Operand.tmp 7), type := 25, pos := "ref.go:65", after := #[], guard := none }) ?_ rfl (by kernel_rfl) (fun _ _ _ h => h) (by rfl) ?_ hHeld ?_
    rotate_left 1
    · (intro W hSW; (try dsimp only at hSW); first | (go_simp; done) | (go_simp; with_reducible rfl))
    try simp only [Act.put, List.setIfInBounds_toArray, List.set_cons_zero, List.set_cons_succ]
    refine tk 1 ({ dst := some 30, op := Op.build 27 #[(0, Operand.tmp 29)], type := 27, pos := "ref.go:65", after := #[{ on := 0, ground := Ground.data }], guard := none }) ?_ rfl (by kernel_rfl) (fun _ _ _ h => h) (by rfl) ?_ hHeld ?_
    rotate_left 1
    · (intro W hSW; (try dsimp only at hSW); first | (go_simp; done) | (go_simp; with_reducible rfl))
    try simp only [Act.put, List.setIfInBounds_toArray, List.set_cons_zero, List.set_cons_succ]
    refine tk 2 ({ dst := some 31, op := Op.fieldAddr 27 (Operand.tmp 2) 0, type := 0, pos := "ref.go:65", after := #[], guard := none }) ?_ rfl (by kernel_rfl) (fun _ _ _ h => h) (by rfl) ?_ hHeld ?_
    rotate_left 1
    · (intro W hSW; (try dsimp only at hSW); first | (go_simp; done) | (go_simp; with_reducible rfl))
    try simp only [Act.put, List.setIfInBounds_toArray, List.set_cons_zero, List.set_cons_succ]
    refine tk 3 ({ dst := some 32, op := Op.load 25 (Operand.tmp 31), type := 25, pos := "ref.go:65", after := #[{ on := 2, ground := Ground.data }], guard := none }) ?_ rfl (by kernel_rfl) (fun _ _ _ h => h) (by rfl) ?_ hHeld ?_
    rotate_left 1
    · (intro W hSW; (try dsimp only at hSW); first | (go_simp; done) | (go_simp; with_reducible rfl))
    try simp only [Act.put, List.setIfInBounds_toArray, List.set_cons_zero, List.set_cons_succ]
    refine tk 4 ({ dst := some 33, op := Op.call { callee := Callee.builtin Builtin.len, args := #[Operand.tmp 32], argTypes := #[25] }, type := 3, pos := "ref.go:65", after := #[{ on := 3, ground := Ground.data }], guard := none }) ?_ rfl (by kernel_rfl) (fun _ _ _ h => h) (by rfl) ?_ hHeld ?_
    rotate_left 1
    · (intro W hSW; (try dsimp only at hSW); first | (go_simp; done) | (go_simp; with_reducible rfl))
    try simp only [Act.put, List.setIfInBounds_toArray, List.set_cons_zero, List.set_cons_succ]
    refine tk 5 ({ dst := some 34, op := Op.binOp BinOp.mul 3 (Operand.const (Value.int IntKind.i64 2)) (Operand.tmp 33) 3, type := 3, pos := "ref.go:65", after := #[{ on := 4, ground := Ground.data }, { on := 6, ground := Ground.gcOnly Departure.lateStores }], guard := none }) ?_ rfl (by kernel_rfl) (fun _ _ _ h => h) (by rfl) ?_ hHeld ?_
    rotate_left 1
    · (intro W hSW; (try dsimp only at hSW); first | (go_simp; done) | (go_simp; with_reducible rfl))
    try simp only [Act.put, List.setIfInBounds_toArray, List.set_cons_zero, List.set_cons_succ]
    refine wpAnyH_ready (rs := [6]) (by kernel_rfl) (by simp) ?_
    refine (AllReadyH.cons (o := { dst := none, op := Op.store 27 (Operand.tmp 4) (Operand.tmp 30), type := 0, pos := "ref.go:65", after := #[{ on := 1, ground := Ground.data }, { on := 0, ground := Ground.phase }, { on := 1, ground := Ground.phase }, { on := 2, ground := Ground.textOnly Departure.lateStores }, { on := 3, ground := Ground.textOnly Departure.lateStores }, { on := 4, ground := Ground.textOnly Departure.lateStoresUnsure }, { on := 5, ground := Ground.textOnly Departure.lateStores }], guard := none }) rfl (fun K hK => ?_) AllReadyH.nil)
    rw [if_pos (by rfl)]
    obtain ⟨r2, rf⟩ := HRR.out
    go_simp
    clear r2 rf
    have hst : (w2.setCell ⟨W2.heap.size, 0, none⟩ (.slice a2 m c2)).cell? ⟨w.heap.size, 0, none⟩ = some (.slice a n c) := by rw [World.cell?_setCell_other _ _ _ _ (by intro e; injection e with e _; have := HSZ.out.1; omega)]; exact HK.out
    refine hK.out _ _ hst (fun hHeld => ?_)
    clear hK K
    try simp only [Act.put, List.setIfInBounds_toArray, List.set_cons_zero, List.set_cons_succ]
    refine tk 7 ({ dst := some 5, op := Op.assign (Operand.tmp 34), type := 3, pos := "ref.go:65", after := #[{ on := 5, ground := Ground.data }, { on := 6, ground := Ground.chain }, { on := 0, ground := Ground.phase }, { on := 1, ground := Ground.phase }, { on := 2, ground := Ground.phase }, { on := 3, ground := Ground.phase }, { on := 4, ground := Ground.phase }, { on := 5, ground := Ground.phase }, { on := 6, ground := Ground.phase }], guard := none }) ?_ rfl (by kernel_rfl) (fun _ _ _ h => h) (by rfl) ?_ hHeld ?_
    rotate_left 1
    · (intro W hSW; (try dsimp only at hSW); first | (go_simp; done) | (go_simp; with_reducible rfl))
    try simp only [Act.put, List.setIfInBounds_toArray, List.set_cons_zero, List.set_cons_succ]
    refine wpAnyH_done (by kernel_rfl) ?_ _
    have hEND := hst
    clear hHeld
    go_wp2_with fail
    have hr := HRR.out
    refine bodyPost_ret (results37 _ _ W2.heap.size a2 m c2 _ rfl rfl (World.cell?_setCell_same w2 _ (.slice a2 m c2) hr.1)) rfl ⟨a2, c2, by rw [HAQ.out, HM.out.1, HN.out], ?_, World.grownBy.trans (grown_own (World.grownBy.trans HGV.out HG2.out) (grown_set w2 W2.heap.size 0 (.slice a2 m c2)) (fun k e => by cases e; exact HS.out)) ⟨rfl, rfl, rfl, Nat.le_refl _, fun _ _ _ => rfl⟩⟩
    rw [HAQ.out]
    exact (HR.out.set hr.1 (.slice a2 m c2)).grown ⟨rfl, rfl, rfl, Nat.le_refl _, fun _ _ _ => rfl⟩
end Go.Proofs.YthkjjiijjedipaaDoor

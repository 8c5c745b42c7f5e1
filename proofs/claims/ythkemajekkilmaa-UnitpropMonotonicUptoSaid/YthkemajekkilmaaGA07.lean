/- Stage 20, joined: X2, X3, X4, X5, V2, V3, V4. -/
import Derived.LoopTactic
import Derived.Test.YthkemajekkilmaaGA06
import Derived.Recover
import Derived.Defers
import Derived.BigQuiet
import Derived.Test.YthkemajekkilmaaGA00
/- The sweep: undetermined; the closure that sets a value. -/
namespace Go.Proofs.Ythkemajekkilmaa
open Go.RowKit
set_option maxHeartbeats 8000000 in
set_option maxRecDepth 100000 in
theorem undet_calls {B V vb : Nat} {tr : List Int} {w : World} (h : VR B V vb tr w) (hc : Cons tr) (hV : V ≤ 40) {a : Option Addr} {c : Nat} {L : List Int} (hL : IntsW w a c L) (hr : ∀ y ∈ L, InR V y) (hn : L.length ≤ 100000) :
    Calls Try.prog 53 #[.slice (some ⟨vb, 0, none⟩) (V + 1) (V + 1), .slice a L.length c] w fun e w' => e = .returned (.tuple #[.int .i64 (unP tr L).1, .int .i64 (unP tr L).2]) ∧ w' = w := by
  obtain ⟨n, hnn⟩ : ∃ n, L.length = n := ⟨_, rfl⟩
  have HH := Lib.hid (And.intro hL (And.intro hnn (And.intro h hc)))
  rw [hnn] at hn ⊢
  clear h hc hL hnn
  obtain ⟨ru, hru⟩ : ∃ z, unP tr L = z := ⟨_, rfl⟩
  rw [hru]
  have HR := Lib.hid hru
  clear hru
  obtain ⟨M, hM⟩ : ∃ z, V + 1 = z := ⟨_, rfl⟩
  rw [hM]
  have HM := Lib.hid hM
  clear hM
  have fin : ∀ (tmps : Array Value) (w : World) (x y : Value), tmps.getD 4 undef = x → tmps.getD 5 undef = y → (results Try.f53 tmps).run Try.prog w = .ok (.tuple #[x, y]) w := fun tmps w x y e1 e2 => by
    have e1' : tmps[4]?.getD undef = x := by simpa using e1
    have e2' : tmps[5]?.getD undef = y := by simpa using e2
    simp [results, Try.results53, e1', e2', go_sem]
  have HF := Lib.hid fin
  clear fin
  go_enter Try.func53, Try.ntmps53
  go_wp2_with fail
  go_loopg [4, 5, 7, 8, 11] n (fun gk s4 s5 _s7 _s8 s11 w' => ∃ (k : Nat) (u m : Int), s4 = .int .i64 u ∧ s5 = .int .i64 m ∧ s11 = .int .i64 (k : Int) ∧ gk = n - k ∧ k ≤ n ∧ w' = w ∧ UnI tr L k u m)
  case atStart => exact ⟨0, 0, 0, rfl, rfl, rfl, rfl, by omega, rfl, UnI.start tr L⟩
  case round =>
    obtain ⟨k, u, m, rfl, rfl, rfl, hgk, hk, rfl, hun⟩ := hrel
    have HI := Lib.hid (And.intro hgk hun)
    have hm01 : m = 0 ∨ m = 1 := hun.2.elim (fun h => .inl h.1) (fun h => .inr h.1)
    clear hgk hun
    by_cases hkn : k < n
    · have f1 : decide ((k : Int) < (n : Int)) = true := decide_eq_true (by omega)
      have f1' : decide (k < n) = true := decide_eq_true hkn
      have i0 : (0 : Int) ≤ (k : Int) := by omega
      have i1 : (k : Int) < (n : Int) := by omega
      have k1 : IntKind.i64.wrap ((k : Int) + 1) = (k : Int) + 1 := IntWalk.i64_in _ (by omega)
      obtain ⟨z, hz⟩ : ∃ z, L[k]? = some z := ⟨_, List.getElem?_eq_getElem (by rw [HH.out.2.1]; exact hkn)⟩
      have hzm : z ∈ L := List.mem_of_getElem? hz
      obtain ⟨h0, h1, h2⟩ := hr z hzm
      obtain ⟨b, o, rfl, hcell⟩ := HH.out.1.at hz
      obtain ⟨v, hv⟩ : ∃ v : Nat, max z (-z) = (v : Int) := ⟨z.natAbs, by omega⟩
      have kz : IntKind.i64.wrap (-z) = -z := IntWalk.i64_in _ (by omega)
      have hvV : v ≤ V := by omega
      have hv0 : v ≠ 0 := by omega
      have cv := HH.out.2.2.1.cell hvV hv0
      obtain ⟨y, hy⟩ : ∃ y, valL tr (v : Int) = y := ⟨_, rfl⟩
      rw [hy] at cv
      have j0 : (0 : Int) ≤ (v : Int) := by omega
      have j1 : (v : Int) < (M : Int) := by have := HM.out; omega
      have hy01 : y = -1 ∨ y = 0 ∨ y = 1 := by rw [← hy]; unfold valL; split <;> (try split) <;> omega
      have kn : IntKind.i8.wrap (-y) = -y := by rcases hy01 with rfl | rfl | rfl <;> rfl
      have hval : valL tr z = if z < 0 then -y else y := by
        by_cases hz0 : z < 0
        · rw [if_pos hz0, ← hy, ← val_neg HH.out.2.2.2, show -(v : Int) = z from by omega]
        · rw [if_neg hz0, ← hy, show (v : Int) = z from by omega]
      have HZ := Lib.hid (And.intro hz (And.intro hzm hval))
      have HV := Lib.hid (And.intro hv (And.intro hy (And.intro hy01 (And.intro h0 (And.intro h1 h2)))))
      clear hz hzm hval hv0 hvV hy h0 h1 h2
      have step : ∀ q : Int, valL tr z = q → (q = 1 → ru = (0, 2)) ∧ (q = 0 → m = 1 → z ≠ u → ru = (0, 2)) ∧ (q = 0 → (m = 1 → z = u) → UnI tr L (k + 1) z 1) ∧ (q = -1 → UnI tr L (k + 1) u m) := by
        intro q hq
        have hin : z ∈ tr ↔ q = 1 := by
          rw [← hq]; unfold valL
          by_cases e1 : tr.contains z = true
          · rw [if_pos e1]; simpa using e1
          · rw [if_neg e1]; constructor
            · intro hm; exact absurd (by simpa using hm) e1
            · intro hh; split at hh <;> omega
        have hu : und tr z = true ↔ q = 0 := by rw [← und_val, hq]; simp
        refine ⟨fun e => by rw [← HR.out]; exact hot_true HZ.out.2.1 (hin.2 e), fun e em hne => ?_, fun e hs => HI.out.2.open_ HZ.out.1 (hu.2 e) hs, fun e => ?_⟩
        · have h1 := HI.out.2
          rw [em] at h1
          rw [← HR.out]
          exact h1.two HZ.out.1 (hu.2 e) hne
        · refine HI.out.2.skip HZ.out.1 (fun hm => by have := hin.1 hm; omega) ?_
          cases hb : und tr z with
          | false => rfl
          | true => have := hu.1 hb; omega
      have HST := Lib.hid step
      clear step hr
      have bod : ∀ q : Int, valL tr z = q → q = -1 ∨ q = 0 ∨ q = 1 := fun q hq => by rw [← hq]; unfold valL; split <;> (try split) <;> omega
      have HB := Lib.hid bod
      clear bod
      by_cases hz0 : z < 0
      · have t0 : decide (z < 0) = true := decide_eq_true hz0
        obtain ⟨q, hq⟩ : ∃ q, -y = q := ⟨_, rfl⟩
        have HQ : Hid (valL tr z = q) := Lib.hid (by rw [HZ.out.2.2, if_pos hz0, hq])
        rw [hq] at kn
        have kz' : IntKind.i64.wrap (-z) = (v : Int) := by rw [kz]; omega
        have t1 : decide (z < (v : Int)) = true := decide_eq_true (by omega)
        have t2 : max z (v : Int) = (v : Int) := by omega
        have t3 : z < (v : Int) := by omega
        obtain rfl : y = -q := by omega
        clear kz hv hq hy01
        rcases HB.out q HQ.out with rfl | rfl | rfl
        · have HN : Hid (UnI tr L (k + 1) u m) := Lib.hid ((HST.out _ HQ.out).2.2.2 rfl)
          go_wp2_with fail
          go_roundg (n - (k + 1))
          case measure => rw [HI.out.1]; omega
          case rel => exact ⟨k + 1, u, m, rfl, rfl, rfl, rfl, by omega, rfl, HN.out⟩
        · rcases hm01 with rfl | rfl
          · have HN : Hid (UnI tr L (k + 1) z 1) := Lib.hid ((HST.out _ HQ.out).2.2.1 rfl (fun e => absurd e (by decide)))
            go_wp2_with fail
            go_roundg (n - (k + 1))
            case measure => rw [HI.out.1]; omega
            case rel => exact ⟨k + 1, z, 1, rfl, rfl, rfl, rfl, by omega, rfl, HN.out⟩
          · by_cases hzu : z = u
            · have b1 : (z != u) = false := by simp [hzu]
              have HN : Hid (UnI tr L (k + 1) z 1) := Lib.hid ((HST.out _ HQ.out).2.2.1 rfl (fun _ => hzu))
              clear hzu
              go_wp2_with fail
              go_roundg (n - (k + 1))
              case measure => rw [HI.out.1]; omega
              case rel => exact ⟨k + 1, z, 1, rfl, rfl, rfl, rfl, by omega, rfl, HN.out⟩
            · have b1 : (z != u) = true := by simpa using hzu
              have HE : Hid (ru = (0, 2)) := Lib.hid ((HST.out _ HQ.out).2.1 rfl rfl hzu)
              clear hzu
              go_wp2_with fail
              refine bodyPost_ret (v := .tuple #[.int .i64 0, .int .i64 2]) (HF.out _ _ _ _ rfl rfl) rfl ?_
              exact ⟨by rw [HE.out], rfl⟩
        · have HE : Hid (ru = (0, 2)) := Lib.hid ((HST.out _ HQ.out).1 rfl)
          go_wp2_with fail
          refine bodyPost_ret (v := .tuple #[.int .i64 0, .int .i64 2]) (HF.out _ _ _ _ rfl rfl) rfl ?_
          exact ⟨by rw [HE.out], rfl⟩
      · have t0 : decide (z < 0) = false := decide_eq_false hz0
        have HQ : Hid (valL tr z = y) := Lib.hid (by rw [HZ.out.2.2, if_neg hz0])
        obtain rfl : z = (v : Int) := by omega
        have t1 : decide ((v : Int) < -(v : Int)) = false := decide_eq_false (by omega)
        have t2 : max (v : Int) (-(v : Int)) = (v : Int) := by omega
        have t3 : ¬ (v : Int) < -(v : Int) := by omega
        clear hv hy01 kn
        obtain ⟨q, hq⟩ : ∃ q, y = q := ⟨_, rfl⟩
        subst hq
        rcases HB.out y HQ.out with rfl | rfl | rfl
        · have HN : Hid (UnI tr L (k + 1) u m) := Lib.hid ((HST.out _ HQ.out).2.2.2 rfl)
          go_wp2_with fail
          go_roundg (n - (k + 1))
          case measure => rw [HI.out.1]; omega
          case rel => exact ⟨k + 1, u, m, rfl, rfl, rfl, rfl, by omega, rfl, HN.out⟩
        · rcases hm01 with rfl | rfl
          · have HN : Hid (UnI tr L (k + 1) (v : Int) 1) := Lib.hid ((HST.out _ HQ.out).2.2.1 rfl (fun e => absurd e (by decide)))
            go_wp2_with fail
            go_roundg (n - (k + 1))
            case measure => rw [HI.out.1]; omega
            case rel => exact ⟨k + 1, (v : Int), 1, rfl, rfl, rfl, rfl, by omega, rfl, HN.out⟩
          · by_cases hzu : (v : Int) = u
            · have b1 : ((v : Int) != u) = false := by simp [hzu]
              have HN : Hid (UnI tr L (k + 1) (v : Int) 1) := Lib.hid ((HST.out _ HQ.out).2.2.1 rfl (fun _ => hzu))
              clear hzu
              go_wp2_with fail
              go_roundg (n - (k + 1))
              case measure => rw [HI.out.1]; omega
              case rel => exact ⟨k + 1, (v : Int), 1, rfl, rfl, rfl, rfl, by omega, rfl, HN.out⟩
            · have b1 : ((v : Int) != u) = true := by simpa using hzu
              have HE : Hid (ru = (0, 2)) := Lib.hid ((HST.out _ HQ.out).2.1 rfl rfl hzu)
              clear hzu
              go_wp2_with fail
              refine bodyPost_ret (v := .tuple #[.int .i64 0, .int .i64 2]) (HF.out _ _ _ _ rfl rfl) rfl ?_
              exact ⟨by rw [HE.out], rfl⟩
        · have HE : Hid (ru = (0, 2)) := Lib.hid ((HST.out _ HQ.out).1 rfl)
          go_wp2_with fail
          refine bodyPost_ret (v := .tuple #[.int .i64 0, .int .i64 2]) (HF.out _ _ _ _ rfl rfl) rfl ?_
          exact ⟨by rw [HE.out], rfl⟩
    · have hke : k = n := by omega
      subst hke
      have f1 : decide (k < k) = false := by simp
      have HE : Hid (ru = (u, m)) := Lib.hid (by rw [← HR.out]; have h := HI.out.2; rw [← HH.out.2.1] at h; exact h.done)
      go_wp2_with fail
      refine bodyPost_ret (v := .tuple #[.int .i64 u, .int .i64 m]) (HF.out _ _ _ _ rfl rfl) rfl ?_
      exact ⟨by rw [HE.out], rfl⟩
end Go.Proofs.Ythkemajekkilmaa
/- The sweep: the closure that sets a value; what the sweep keeps. -/
namespace Go.Proofs.Ythkemajekkilmaa
open Go.RowKit
theorem set_same {l : List Int} {v : Nat} {z : Int} (h : l[v]? = some z) : l.set v z = l := by
  apply List.ext_getElem?
  intro j
  rw [List.getElem?_set]
  by_cases e : v = j
  · subst e
    rw [if_pos rfl, if_pos (List.getElem?_eq_some_iff.1 h).1, h]
  · rw [if_neg e]
def addP (tr : List Int) (x : Int) : List Int := if und tr x = true then tr ++ [x] else tr
theorem val_mem {tr : List Int} {x : Int} (h : x ∈ tr) : valL tr x = 1 := by unfold valL; rw [if_pos (by simpa using h)]
structure SW (w : World) (B bf tb vb V : Nat) (ca : Option Addr) (cn cc : Nat) (tr : List Int) (W : World) : Prop where
  vr : VR B V vb tr W
  tb0 : W.cell? ⟨tb, 0, none⟩ = some (.slice (some ⟨vb, 0, none⟩) (V + 1) (V + 1))
  f0 : W.cell? ⟨bf, 0, none⟩ = some (.int .i64 (V : Int))
  f1 : W.cell? ⟨bf, 1, none⟩ = some (.slice ca cn cc)
  gr : w.grownBy W none
  low : w.heap.size ≤ vb
  n1 : tb ≠ vb
  n2 : bf ≠ vb
theorem SW.store {w : World} {B bf tb vb V : Nat} {ca : Option Addr} {cn cc : Nat} {tr tr' : List Int} {W : World} (h : SW w B bf tb vb V ca cn cc tr W) (v : Nat) (z : Int) (he : (valsP V tr).set v z = valsP V tr') : SW w B bf tb vb V ca cn cc tr' (W.setCell ⟨vb, v, none⟩ (.int .i8 z)) := by
  have hg := grown_set W vb v (.int .i8 z)
  exact ⟨h.vr.store v z he, hg.cell h.tb0 (by simpa using h.n1), hg.cell h.f0 (by simpa using h.n2), hg.cell h.f1 (by simpa using h.n2), grown_own h.gr hg (fun k e => by have := Option.some.inj e; have := h.low; omega), h.low, h.n1, h.n2⟩
set_option maxHeartbeats 4000000 in
theorem set_calls {w : World} {B bf tb vb V : Nat} {ca : Option Addr} {cn cc : Nat} {tr : List Int} {W : World} (h : SW w B bf tb vb V ca cn cc tr W) (hc : Cons tr) (hV : V ≤ 40) {x : Int} (hx : InR V x) (hm : x ∈ tr ∨ und tr x = true) :
    Calls Try.prog 52 #[.int .i64 x, .pointer (some ⟨tb, 0, none⟩)] W fun e w' => e = .returned (.tuple #[]) ∧ SW w B bf tb vb V ca cn cc (addP tr x) w' := by
  obtain ⟨h0, h1, h2⟩ := hx
  have HS := Lib.hid h
  have q0 := h.tb0
  obtain ⟨M, hM⟩ : ∃ z, V + 1 = z := ⟨_, rfl⟩
  rw [hM] at q0
  by_cases hx0 : x < 0
  · obtain ⟨v, rfl⟩ : ∃ v : Nat, x = -(v : Int) := ⟨x.natAbs, by omega⟩
    have t0 : decide (-(v : Int) < 0) = true := decide_eq_true hx0
    have t0' : decide (0 < v) = true := decide_eq_true (by omega)
    have t0'' : decide ((0 : Int) < (v : Int)) = true := decide_eq_true (by omega)
    have kz : IntKind.i64.wrap (v : Int) = (v : Int) := IntWalk.i64_in _ (by omega)
    have c := h.vr.cell (v := v) (by omega) (by omega)
    have z := h.vr.fr v
    have j1 : (v : Int) < (M : Int) := by omega
    have j0 : (0 : Int) ≤ (v : Int) := by omega
    have HE : Hid ((valsP V tr).set v (-1) = valsP V (addP tr (-(v : Int)))) := Lib.hid (by
      unfold addP
      rcases hm with hm | hm
      · rw [if_neg (by rw [und_iff]; exact fun hh => hh.1 hm)]
        refine set_same ?_
        rw [vals_get (by omega) (by omega)]
        have := val_neg hc (-(v : Int))
        rw [Int.neg_neg, val_mem hm] at this
        rw [this]
      · rw [if_pos hm]
        exact vals_neg (by omega) hm)
    clear h hx0 h0 h1 h2 hm hM
    go_enter Try.func52, Try.ntmps52
    go_wp2_with fail
    first
    | go_end0
    | refine bodyPost_ret (results_none rfl _ _ _) rfl ?_
    exact ⟨rfl, HS.out.store v (-1) HE.out⟩
  · obtain ⟨v, rfl⟩ : ∃ v : Nat, x = (v : Int) := ⟨x.natAbs, by omega⟩
    have t0 : decide ((v : Int) < 0) = false := decide_eq_false hx0
    have c := h.vr.cell (v := v) (by omega) (by omega)
    have z := h.vr.fr v
    have j1 : (v : Int) < (M : Int) := by omega
    have j0 : (0 : Int) ≤ (v : Int) := by omega
    have HE : Hid ((valsP V tr).set v 1 = valsP V (addP tr (v : Int))) := Lib.hid (by
      unfold addP
      rcases hm with hm | hm
      · rw [if_neg (by rw [und_iff]; exact fun hh => hh.1 hm)]
        refine set_same ?_
        rw [vals_get (by omega) (by omega), val_mem hm]
      · rw [if_pos hm]
        exact vals_pos (by omega) hm)
    clear h hx0 h0 h1 h2 hm hM
    go_enter Try.func52, Try.ntmps52
    go_wp2_with fail
    first
    | go_end0
    | refine bodyPost_ret (results_none rfl _ _ _) rfl ?_
    exact ⟨rfl, HS.out.store v 1 HE.out⟩
end Go.Proofs.Ythkemajekkilmaa
/- The sweep. -/
namespace Go.Proofs.Ythkemajekkilmaa
open Go.RowKit
theorem boxV (w : World) (u0 u1 : Value) {n : Nat} {W1 W2 W3 : World} (h1 : w.alloc (.cells #[u0, u1] 24) = W1) (h2 : W1.alloc (.cells (madeCells #[.int .i8 0] n) 67) = W2) (h3 : W2.alloc (.cells #[.slice none 0 0] 52) = W3) :
    W1.heap.size = w.heap.size + 1 ∧ W2.heap.size = w.heap.size + 2 ∧ W1.cell? ⟨w.heap.size, 0, none⟩ = some u0 ∧ W3.cell? ⟨w.heap.size, 0, none⟩ = some u0 ∧ W3.cell? ⟨w.heap.size, 1, none⟩ = some u1 ∧ W3.cell? ⟨w.heap.size + 2, 0, none⟩ = some (.slice none 0 0) ∧ W3.frozen? ⟨w.heap.size + 2, 0, none⟩ = false ∧ w.grownBy W3 none := by
  subst h1 h2 h3
  exact ⟨by simp, by simp, by go_simp, by go_simp, by go_simp, by go_simp, by go_simp, World.grownBy.trans (World.grownBy_alloc w _ none) (World.grownBy.trans (World.grownBy_alloc _ _ none) (World.grownBy_alloc _ _ none))⟩
theorem sw_start (w : World) (V : Nat) (hV : V ≤ 1000) (ca : Option Addr) (cn cc : Nat) {W1 W2 W3 W4 : World} (h1 : w.alloc (.cells #[.int .i64 (V : Int), .slice ca cn cc] 24) = W1) (h2 : W1.alloc (.cells (madeCells #[.int .i8 0] (V + 1)) 67) = W2) (h3 : W2.alloc (.cells #[.slice none 0 0] 52) = W3)
    (h4 : W3.setCell ⟨w.heap.size + 2, 0, none⟩ (.slice (some ⟨w.heap.size + 1, 0, none⟩) (V + 1) (V + 1)) = W4) : SW w w.heap.size w.heap.size (w.heap.size + 2) (w.heap.size + 1) V ca cn cc [] W4 := by
  obtain ⟨s1, s2, _, c0, c1, c2, _, hg⟩ := boxV w _ _ h1 h2 h3
  have hown := made_own W1 w.heap.size (V + 1) (.int .i8 0) 67 (by omega) (by omega)
  rw [h2, s1] at hown
  have hown3 := own_grown hown (show W2.grownBy W3 none from by rw [← h3]; exact World.grownBy_alloc _ _ none)
  have hg4 := grown_set W3 (w.heap.size + 2) 0 (.slice (some ⟨w.heap.size + 1, 0, none⟩) (V + 1) (V + 1))
  rw [h4] at hg4
  refine ⟨?_, by rw [← h4]; exact World.cell?_setCell_same _ _ _ c2, hg4.cell c0 (by simp), hg4.cell c1 (by simp), grown_own hg hg4 (fun k e => by have := Option.some.inj e; omega), by omega, by omega, by omega⟩
  unfold VR
  rw [vals_nil, List.map_replicate]
  exact World.ownsRow.kept hown3 hg4 (.inr (by simp [Value.ownBlock]))
theorem addP_spec {tr : List Int} {x : Int} (hc : Cons tr) (hx : x ≠ 0) (hm : x ∈ tr ∨ und tr x = true) : Cons (addP tr x) ∧ x ∈ addP tr x ∧ (∀ y ∈ tr, y ∈ addP tr x) ∧ ∀ y ∈ addP tr x, y ∈ tr ∨ y = x := by
  unfold addP
  by_cases hu : und tr x = true
  · rw [if_pos hu]
    exact ⟨hc.snoc hx hu, by simp, fun y hy => by simp [hy], fun y hy => by simpa using hy⟩
  · rw [if_neg hu]
    have h1 := hm.resolve_right hu
    exact ⟨hc, h1, fun y hy => hy, fun y hy => .inl hy⟩
theorem unP_two {tr c : List Int} {u : Int} (h : unP tr c = (u, 2)) : hot tr c = false := by
  cases hb : hot tr c with
  | false => rfl
  | true =>
    unfold unP at h; rw [if_pos hb] at h
    split at h <;> simp at h
theorem unP_cases (tr c : List Int) : (unP tr c).2 = 0 ∨ (unP tr c).2 = 1 ∨ (unP tr c).2 = 2 := by
  unfold unP
  split
  · split <;> simp
  · simp
theorem unP_zero {tr c : List Int} {u : Int} (h : unP tr c = (u, 0)) : hot tr c = true ∧ c.find? (und tr) = none := by
  unfold unP at h
  split at h
  · rename_i hb
    refine ⟨hb, ?_⟩
    split at h
    · simp at h
    · assumption
  · simp at h
theorem unP_one {tr c : List Int} {u : Int} (h : unP tr c = (u, 1)) : hot tr c = true ∧ c.find? (und tr) = some u := by
  unfold unP at h
  split at h
  · rename_i hb
    refine ⟨hb, ?_⟩
    split at h
    · rename_i x hx
      simp at h; rw [hx, h]
    · simp at h
  · simp at h
/-- What the sweep has found so far. -/
def SwI (C : List (List Int)) (A tr : List Int) : Prop := Cons tr ∧ (∀ y ∈ A, y ∈ tr) ∧ ∀ y ∈ tr, Der C A y
theorem SwI.conf {C : List (List Int)} {A tr c : List Int} {u : Int} (h : SwI C A tr) (hc : c ∈ C) (hz : unP tr c = (u, 0)) : Conf C A :=
  ⟨c, hc, fun y hy => h.2.2 _ (find_none (unP_zero hz).2 ((hot_iff tr c).1 (unP_zero hz).1).1 y hy)⟩
theorem SwI.one {C : List (List Int)} {A tr c : List Int} {u : Int} (h : SwI C A tr) (hc : c ∈ C) (h0 : u ≠ 0) (hz : unP tr c = (u, 1)) : SwI C A (addP tr u) := by
  have hu : und tr u = true := List.find?_some (unP_one hz).2
  obtain ⟨a, b, d, e⟩ := addP_spec h.1 h0 (.inr hu)
  refine ⟨a, fun y hy => d y (h.2.1 y hy), fun y hy => ?_⟩
  rcases e y hy with h1 | h1
  · exact h.2.2 y h1
  · rw [h1]; exact der_step h.2.2 hc (unP_one hz).1 (unP_one hz).2
theorem SwI.shut {C : List (List Int)} {A tr : List Int} (h : SwI C A tr) (hs : ∀ c ∈ C, hot tr c = false) : ¬ Conf C A := shut_conf hs h.1 h.2.1
set_option maxHeartbeats 16000000 in
set_option maxRecDepth 100000 in
theorem sweep_calls (V : Nat) (C : List (List Int)) (ca : Option Addr) (cc : Nat) (A : List Int) (aa : Option Addr) (ac : Nat) (w : World) (h : ClsW w ca cc C) (hV : V ≤ 40) (hC : C.length ≤ 100000) (hL : ∀ c ∈ C, c.length ≤ 100000) (hR : Ran V C)
    (hA : IntsW w aa ac A) (hAl : A.length ≤ 100000) (hAr : ∀ x ∈ A, InR V x) (hAc : contraP A = false) :
    Calls Try.prog 41 #[.agg #[.int .i64 (V : Int), .slice ca C.length cc], .slice aa A.length ac] w fun e w' => (∃ b1 b2 : Bool, e = .returned (.tuple #[.bool b1, .bool b2]) ∧ (b2 = true → (b1 = true ↔ Conf C A))) ∧ w.grownBy w' none := by
  obtain ⟨cn, hcn⟩ : ∃ n, C.length = n := ⟨_, rfl⟩
  obtain ⟨an, han⟩ : ∃ n, A.length = n := ⟨_, rfl⟩
  obtain ⟨W1, hW1⟩ : ∃ z, w.alloc (.cells #[.int .i64 (V : Int), .slice ca cn cc] 24) = z := ⟨_, rfl⟩
  obtain ⟨W2, hW2⟩ : ∃ z, W1.alloc (.cells (madeCells #[.int .i8 0] (V + 1)) 67) = z := ⟨_, rfl⟩
  obtain ⟨W3, hW3⟩ : ∃ z, W2.alloc (.cells #[.slice none 0 0] 52) = z := ⟨_, rfl⟩
  obtain ⟨W4, hW4⟩ : ∃ z, W3.setCell ⟨w.heap.size + 2, 0, none⟩ (.slice (some ⟨w.heap.size + 1, 0, none⟩) (V + 1) (V + 1)) = z := ⟨_, rfl⟩
  have hsw := sw_start w V (by omega) ca cn cc hW1 hW2 hW3 hW4
  obtain ⟨s1, s2, p0, _, _, p2, p3, _⟩ := boxV w _ _ hW1 hW2 hW3
  have hmk := mk52 W1 (V + 1) (by omega)
  have k1 : IntKind.i64.wrap ((V : Int) + 1) = (V : Int) + 1 := IntWalk.i64_in _ (by omega)
  obtain ⟨bf, hbf⟩ : ∃ z, w.heap.size = z := ⟨_, rfl⟩
  rw [hW2, s1] at hmk
  rw [hbf] at hmk p0 p2 p3 hW4 hsw s1 s2
  have hmk' : (Instr.makeSlice 52 (.int .i64 ((V : Int) + 1)) (.int .i64 ((V : Int) + 1))).run Try.prog W1 = .ok (.slice (some ⟨bf + 1, 0, none⟩) (V + 1) (V + 1)) W2 := hmk
  have HH := Lib.hid (And.intro h (And.intro hC (And.intro hL (And.intro hR hcn))))
  have HA := Lib.hid (And.intro hA (And.intro hAl (And.intro hAr (And.intro han hAc))))
  have HSW := Lib.hid hsw
  have hmf : ∀ (fn : Fn) (first cap : Array Value) (w : World), (Instr.makeFunc fn first cap).run Try.prog w = .ok (.func fn first cap) w := fun _ _ _ _ => rfl
  rw [hcn, han]
  have fin : ∀ (tmps : Array Value) (w : World) (x y : Value), tmps.getD 4 undef = x → tmps.getD 5 undef = y → (results Try.f41 tmps).run Try.prog w = .ok (.tuple #[x, y]) w := fun tmps w x y e1 e2 => by
    have e1' : tmps[4]?.getD undef = x := by simpa using e1
    have e2' : tmps[5]?.getD undef = y := by simpa using e2
    simp [results, Try.results41, e1', e2', go_sem]
  have HF := Lib.hid fin
  clear fin h hC hL hR hA hAl hAr hcn han hmk hsw hAc
  go_enter Try.func41, Try.ntmps41
  go_wp2_with fail
  obtain ⟨M, hM⟩ : ∃ z, V + 1 = z := ⟨_, rfl⟩
  rw [hM]
  have HM := Lib.hid hM
  have HB := Lib.hid hbf
  clear hmk' k1 hmf p0 p2 p3 hW1 hW2 hW3 hW4 s1 s2 hM
  obtain ⟨SWP, hSWP⟩ : ∃ P : List Int → World → Prop, P = SW w bf bf (bf + 2) (bf + 1) V ca cn cc := ⟨_, rfl⟩
  have HP := Lib.hid hSWP
  have HSW0 : Hid (SWP [] W4) := Lib.hid (by rw [hSWP]; exact HSW.out)
  clear HSW hSWP hbf
  have HSET : Hid (∀ (tr : List Int) (x : Int) (U : World), SWP tr U → Cons tr → InR V x → (x ∈ tr ∨ und tr x = true) → Calls Try.prog 52 #[.int .i64 x, .pointer (some ⟨bf + 2, 0, none⟩)] U fun e w' => e = .returned (.tuple #[]) ∧ SWP (addP tr x) w') := Lib.hid (fun tr x U hu hc hx hm => by rw [HP.out] at hu ⊢; exact set_calls hu hc hV hx hm)
  have HUN : Hid (∀ (tr : List Int) (U : World) (a : Option Addr) (c : Nat) (L : List Int), SWP tr U → Cons tr → IntsW w a c L → L ∈ C → Calls Try.prog 53 #[.slice (some ⟨bf + 1, 0, none⟩) M M, .slice a L.length c] U fun e w' => e = .returned (.tuple #[.int .i64 (unP tr L).1, .int .i64 (unP tr L).2]) ∧ w' = U) := Lib.hid (fun tr U a c L hu hc hi hm => by
    rw [HP.out] at hu
    rw [← HM.out]
    exact undet_calls hu.vr hc hV (hi.grown hu.gr) (HH.out.2.2.2.1 L hm) (HH.out.2.2.1 L hm))
  have HGR : Hid (∀ tr U, SWP tr U → w.grownBy U none ∧ U.cell? ⟨bf, 1, none⟩ = some (.slice ca cn cc) ∧ U.cell? ⟨bf + 2, 0, none⟩ = some (.slice (some ⟨bf + 1, 0, none⟩) M M)) := Lib.hid (fun tr U hu => by rw [HP.out] at hu; exact ⟨hu.gr, hu.f1, by rw [← HM.out]; exact hu.tb0⟩)
  go_loopg [9, 22] an (fun gk _s9 s22 wr => ∃ (k : Nat) (tr : List Int), s22 = .int .i64 (k : Int) ∧ gk = an - k ∧ k ≤ an ∧ SWP tr wr ∧ Cons tr ∧ (∀ y ∈ A.take k, y ∈ tr) ∧ ∀ y ∈ tr, y ∈ A)
  case atStart => exact ⟨0, [], rfl, rfl, by omega, HSW0.out, fun x hx => (by cases hx), by simp, fun y hy => (by cases hy)⟩
  case round =>
    obtain ⟨k, tr, rfl, hgk, hk, hsw, hco, hin, hsub⟩ := hrel
    have HI := Lib.hid (And.intro hgk (And.intro hsw (And.intro hco (And.intro hin hsub))))
    clear hgk hsw hco hin hsub
    by_cases hkn : k < an
    · have f1 : decide ((k : Int) < (an : Int)) = true := decide_eq_true (by omega)
      have f1' : decide (k < an) = true := decide_eq_true hkn
      have i0 : (0 : Int) ≤ (k : Int) := by omega
      have i1 : (k : Int) < (an : Int) := by omega
      have k1 : IntKind.i64.wrap ((k : Int) + 1) = (k : Int) + 1 := IntWalk.i64_in _ (by have h1 := HA.out.2.1; rw [HA.out.2.2.2.1] at h1; omega)
      obtain ⟨x, hx⟩ : ∃ x, A[k]? = some x := ⟨_, List.getElem?_eq_getElem (by rw [HA.out.2.2.2.1]; exact hkn)⟩
      have hxm : x ∈ A := List.mem_of_getElem? hx
      obtain ⟨b, o, hb0, hcell⟩ := (HA.out.1.grown (HGR.out _ _ HI.out.2.1).1).at hx
      subst hb0
      have hxo : x ∈ tr ∨ und tr x = true := by
        by_cases hm : x ∈ tr
        · exact .inl hm
        · exact .inr ((und_iff tr x).2 ⟨hm, fun hn => contra_false HA.out.2.2.2.2 x hxm (HI.out.2.2.2.2 _ hn)⟩)
      have hxr := HA.out.2.2.1 x hxm
      have HC := Lib.hid (HSET.out tr x wr HI.out.2.1 HI.out.2.2.1 hxr hxo)
      have HX : Hid (Cons (addP tr x) ∧ (∀ y ∈ A.take (k + 1), y ∈ addP tr x) ∧ ∀ y ∈ addP tr x, y ∈ A) := Lib.hid (by
        obtain ⟨a1, a2, a3, a4⟩ := addP_spec HI.out.2.2.1 hxr.1 hxo
        refine ⟨a1, fun y hy => ?_, fun y hy => ?_⟩
        · rw [take_snoc hx] at hy
          rcases List.mem_append.1 hy with hy | hy
          · exact a3 y (HI.out.2.2.2.1 y hy)
          · rw [List.mem_singleton.1 hy]; exact a2
        · rcases a4 y hy with h1 | h1
          · exact HI.out.2.2.2.2 y h1
          · rw [h1]; exact hxm)
      clear hx hxm hxo hxr
      go_wp2_with fail
      refine HC.out.mono ?_
      rintro e w6 ⟨rfl, hs6⟩
      have HS6 := Lib.hid hs6
      clear hs6 hcell HC
      go_wp2_with fail
      go_roundg (an - (k + 1))
      case measure => rw [HI.out.1]; omega
      case rel => exact ⟨k + 1, addP tr x, rfl, rfl, by omega, HS6.out, HX.out.1, HX.out.2.1, HX.out.2.2⟩
    · have hke : k = an := by omega
      subst hke
      have f1 : decide (k < k) = false := by simp
      have HW : Hid (SWP tr wr ∧ SwI C A tr) := Lib.hid ⟨HI.out.2.1, HI.out.2.2.1, by have := HI.out.2.2.2.1; rwa [← HA.out.2.2.2.1, List.take_length] at this, fun y hy => .ass y (HI.out.2.2.2.2 y hy)⟩
      clear HI hk hkn
      go_wp2_with fail
      clear f1
      go_loopg [10, 12, 13, 14, 30] 8 (fun gk _s10 _s12 _s13 _s14 s30 wr => ∃ (p : Nat) (tr : List Int), s30 = .int .i64 (p : Int) ∧ gk = 8 - p ∧ p ≤ 8 ∧ SWP tr wr ∧ SwI C A tr)
      case atStart => exact ⟨0, tr, rfl, rfl, by omega, HW.out.1, HW.out.2⟩
      case round =>
        obtain ⟨p, tr1, rfl, hgk, hp, hsw, hsi⟩ := hrel
        have HI := Lib.hid (And.intro hgk (And.intro hsw hsi))
        have c1 := (HGR.out _ _ hsw).2.1
        clear hgk hsw hsi
        by_cases hp8 : p < 8
        · have f1 : decide ((p : Int) < 8) = true := decide_eq_true (by omega)
          have f1' : decide (p < 8) = true := decide_eq_true hp8
          go_wp2_with fail
          clear c1 f1 f1'
          go_loopg [10, 12, 13, 14, 35] cn (fun gk s10 _s12 _s13 _s14 s35 wr => ∃ (k : Nat) (b : Bool) (tr : List Int), s10 = .bool b ∧ s35 = .int .i64 (k : Int) ∧ gk = cn - k ∧ k ≤ cn ∧ SWP tr wr ∧ SwI C A tr ∧ (b = false → ∀ c ∈ C.take k, hot tr c = false))
          case atStart => exact ⟨0, false, tr1, rfl, rfl, rfl, by omega, HI.out.2.1, HI.out.2.2, fun _ c hc => by simp at hc⟩
          case round =>
            obtain ⟨k3, b3, tr3, rfl, rfl, hgk, hk3, hsw, hsi, hno⟩ := hrel
            have HJ := Lib.hid (And.intro hgk (And.intro hsw (And.intro hsi hno)))
            have c3 := (HGR.out _ _ hsw).2.2
            have hg3 := (HGR.out _ _ hsw).1
            clear hgk hsw hsi hno
            by_cases hkn : k3 < cn
            · have f1 : decide ((k3 : Int) < (cn : Int)) = true := decide_eq_true (by omega)
              have f1' : decide (k3 < cn) = true := decide_eq_true hkn
              have i0 : (0 : Int) ≤ (k3 : Int) := by omega
              have i1 : (k3 : Int) < (cn : Int) := by omega
              have k1 : IntKind.i64.wrap ((k3 : Int) + 1) = (k3 : Int) + 1 := IntWalk.i64_in _ (by have h1 := HH.out.2.1; rw [HH.out.2.2.2.2] at h1; omega)
              obtain ⟨L, hL⟩ : ∃ L, C[k3]? = some L := ⟨_, List.getElem?_eq_getElem (by rw [HH.out.2.2.2.2]; exact hkn)⟩
              have hLm : L ∈ C := List.mem_of_getElem? hL
              obtain ⟨b, o, a', c', hca, hcellw, hints⟩ := HH.out.1.at hL
              subst hca
              have HU := Lib.hid (HUN.out tr3 wr a' c' L HJ.out.2.1 HJ.out.2.2.1.1 hints hLm)
              have hcell := hg3.cell hcellw (by simp)
              obtain ⟨l, hl⟩ : ∃ l, L.length = l := ⟨_, rfl⟩
              rw [hl] at hcell HU
              obtain ⟨⟨u, m⟩, hum⟩ : ∃ z, unP tr3 L = z := ⟨_, rfl⟩
              rw [hum] at HU
              have hm := unP_cases tr3 L
              rw [hum] at hm
              have HL := Lib.hid (And.intro hL (And.intro hLm hum))
              clear hL hLm hints hl hum hg3 hcellw
              go_wp2_with fail
              refine HU.out.mono ?_
              rintro e w6 ⟨rfl, hw6⟩
              rw [hw6]
              clear hw6 w6 HU
              simp only at hm ⊢
              rcases hm with rfl | rfl | rfl
              · have HC := Lib.hid (HJ.out.2.2.1.conf HL.out.2.1 HL.out.2.2)
                clear hcell c3
                go_wp2_with fail
                refine bodyPost_ret (v := .tuple #[.bool true, .bool true]) (HF.out _ _ _ _ rfl rfl) rfl ?_
                exact ⟨⟨true, true, rfl, fun _ => ⟨fun _ => HC.out, fun _ => rfl⟩⟩, (HGR.out _ _ HJ.out.2.1).1⟩
              · have hur : InR V u := HH.out.2.2.2.1 L HL.out.2.1 u (List.mem_of_find?_eq_some (unP_one HL.out.2.2).2)
                have HC := Lib.hid (HSET.out tr3 u wr HJ.out.2.1 HJ.out.2.2.1.1 hur (.inr (List.find?_some (unP_one HL.out.2.2).2)))
                have HN := Lib.hid (HJ.out.2.2.1.one HL.out.2.1 hur.1 HL.out.2.2)
                clear hur hcell c3
                go_wp2_with fail
                refine HC.out.mono ?_
                rintro e w7 ⟨rfl, hs7⟩
                have HS7 := Lib.hid hs7
                clear hs7 HC
                go_wp2_with fail
                go_roundg (cn - (k3 + 1))
                case measure => rw [HJ.out.1]; omega
                case rel => exact ⟨k3 + 1, true, addP tr3 u, rfl, rfl, rfl, by omega, HS7.out, HN.out, fun e => (by cases e)⟩
              · have HN : Hid (b3 = false → ∀ c ∈ C.take (k3 + 1), hot tr3 c = false) := Lib.hid (fun e c hc => by
                  obtain ⟨hlt, e2⟩ := List.getElem?_eq_some_iff.1 HL.out.1
                  rw [List.take_succ_eq_append_getElem hlt, e2] at hc
                  rcases List.mem_append.1 hc with hc | hc
                  · exact HJ.out.2.2.2 e c hc
                  · rw [List.mem_singleton.1 hc]; exact unP_two HL.out.2.2)
                clear hcell c3
                go_wp2_with fail
                go_roundg (cn - (k3 + 1))
                case measure => rw [HJ.out.1]; omega
                case rel => exact ⟨k3 + 1, b3, tr3, rfl, rfl, rfl, by omega, HJ.out.2.1, HJ.out.2.2.1, HN.out⟩
            · have hke3 : k3 = cn := by omega
              subst hke3
              have f1 : decide (k3 < k3) = false := by simp
              have k8 : IntKind.i64.wrap ((p : Int) + 1) = (p : Int) + 1 := IntWalk.i64_in _ (by omega)
              clear c3 hg3
              cases b3 with
              | false =>
                have HC : Hid (¬ Conf C A) := Lib.hid (HJ.out.2.2.1.shut (fun c hc => HJ.out.2.2.2 rfl c (by rw [← HH.out.2.2.2.2, List.take_length]; exact hc)))
                go_wp2_with fail
                refine bodyPost_ret (v := .tuple #[.bool false, .bool true]) (HF.out _ _ _ _ rfl rfl) rfl ?_
                exact ⟨.inl (.inr ⟨rfl, HC.out⟩), (HGR.out _ _ HJ.out.2.1).1⟩
              | true =>
                go_wp2_with fail
                go_roundg (8 - (p + 1))
                case measure => rw [HI.out.1]; omega
                case rel => exact ⟨p + 1, tr3, rfl, rfl, by omega, HJ.out.2.1, HJ.out.2.2.1⟩
        · have hpe : p = 8 := by omega
          subst hpe
          go_wp2_with fail
          refine bodyPost_ret (v := .tuple #[.bool false, .bool false]) (HF.out _ _ _ _ rfl rfl) rfl ?_
          exact ⟨⟨false, false, rfl, fun e => (by cases e)⟩, (HGR.out _ _ HI.out.2.1).1⟩
end Go.Proofs.Ythkemajekkilmaa
/- Implies. -/
namespace Go.Proofs.Ythkemajekkilmaa
open Go.RowKit
theorem idle39 (x : Value) (w : World) :
    CallsD Try.prog 39 #[x] .returning w fun e u' w' => e = .returned (.tuple #[]) ∧ u' = .returning ∧ w' = w := by
  refine callsD_of_wpS Try.func39 rfl fun c₀ cs hu => ?_
  apply wpS_seq
  apply wpS_region
  simp [wpOpsS, go_sem, recoverD, hu, Try.ntmps39, Exit.thenS]
  refine wpS_cond (t := false) (by simp [Act.eval, Array.replicate]) ?_
  simp only [Bool.false_eq_true, if_false]
  refine wpS_of_wp (wp_skip ?_)
  cases c₀
  simp_all [bodyPostS, results, Try.results39]
theorem res20 (tmps : Array Value) (w : World) (b : Nat) (v : Value) (ht : tmps.getD 4 undef = .pointer (some ⟨b, 0, none⟩)) (h0 : w.cell? ⟨b, 0, none⟩ = some v) :
    (results Try.f20 tmps).run Try.prog w = .ok v w := by
  have ht' : tmps[4]?.getD undef = .pointer (some ⟨b, 0, none⟩) := by simpa using ht
  simp [results, Try.results20, ht', go_sem, h0]
theorem boxes20 (w : World) (u0 u1 : Value) {W : World} (hW : (w.alloc (.cells #[u0, u1] 24)).alloc (.cells #[.bool false] 4) = W) :
    W.heap.size = w.heap.size + 2 ∧ W.cell? ⟨w.heap.size, 0, none⟩ = some u0 ∧ W.cell? ⟨w.heap.size, 1, none⟩ = some u1 ∧ W.cell? ⟨w.heap.size + 1, 0, none⟩ = some (.bool false) ∧ W.frozen? ⟨w.heap.size + 1, 0, none⟩ = false ∧ w.grownBy W none := by
  subst hW
  exact ⟨by simp, by go_simp, by go_simp, by go_simp, by go_simp, World.grownBy.trans (World.grownBy_alloc w _ none) (World.grownBy_alloc _ _ none)⟩
theorem leave20 {Q : Ending → World → Prop} {tmps : Array Value} {b : Nat} {v : Value} {W : World} (ht : tmps.getD 4 undef = .pointer (some ⟨b, 0, none⟩)) (hc : W.cell? ⟨b, 0, none⟩ = some v) (h : Q (.returned v) W) :
    Leaves Try.prog Try.f20 tmps Q [{ target := .fn (.func 39) #[.pointer (some ⟨b, 0, none⟩)], args := #[] }] .returning W := by
  refine leaves_cons (f := 39) (args := #[.pointer (some ⟨b, 0, none⟩)]) (by simp) (by simp [go_sem]) ?_
  refine (idle39 _ _).mono ?_
  rintro e u' w'' ⟨rfl, rfl, rfl⟩
  exact ⟨_, res20 _ _ b v ht hc, h⟩
theorem own_low {w : World} {B n size : Nat} {e : TypeId} {v : Value} {xs : List Value} (h : w.ownsRow B e size v n xs) : ∀ r, v.ownBlock = some r → B ≤ r := by
  intro r hr
  rcases h.2 with ⟨rfl, _⟩ | ⟨g, cap, cur, rfl, hb, _⟩
  · cases hr
  · cases hr; exact hb
theorem irow_ints {B : Nat} {w : World} {a : Option Addr} {c : Nat} {l : List Int} (h : IRow B w a c l) : IntsW w a c l := by
  refine ⟨irow_le h, ?_⟩
  by_cases hl : l.length = 0
  · exact .inl (List.eq_nil_of_length_eq_zero hl)
  · right
    obtain ⟨g, ha, _, _, _⟩ := irow_head h (by omega)
    subst ha
    refine ⟨g, 0, rfl, fun j z hj => ?_⟩
    have hjl := (List.getElem?_eq_some_iff.1 hj).1
    rw [Nat.zero_add, irow_cell h hjl]
    rw [at_some hjl] at hj
    injection hj with hj
    rw [hj]
def negL (A : List Int) : List Int := A.map fun x => -x
theorem conf_prop {V : Nat} {C : List (List Int)} {N : List Int} (hR : Ran V C) (h : contraP N = false) : (propP V C N).2.2.2 ≠ -1 ↔ Conf C N := by
  obtain ⟨l, qs, k, e, _, hc, hd, _, hk⟩ := propP_spec hR h
  rw [e]
  simp only
  rcases hk with ⟨rfl, hs⟩ | ⟨i, rfl, hi, _, hall⟩
  · exact ⟨fun hh => absurd rfl hh, fun hh => absurd hh (shut_conf hs hc (fun x hx => List.mem_append_left _ ((mem_uq N x).2 hx)))⟩
  · refine ⟨fun _ => ⟨C.getD i [], ?_, fun y hy => hd _ (hall y hy)⟩, fun _ => by omega⟩
    rw [List.getD_eq_getElem?_getD, List.getElem?_eq_getElem hi]
    exact List.getElem_mem hi
set_option maxHeartbeats 16000000 in
set_option maxRecDepth 100000 in
theorem implies_calls (V : Nat) (C : List (List Int)) (ca : Option Addr) (cc : Nat) (A : List Int) (aa : Option Addr) (ac : Nat) (w : World) (h : ClsW w ca cc C) (hV : V ≤ 40) (hC : C.length ≤ 1000) (hL : ∀ c ∈ C, c.length ≤ 100) (hR : Ran V C)
    (hA : IntsW w aa ac A) (hAl : A.length ≤ 10000) (hAr : ∀ x ∈ A, InR V x) :
    Calls Try.prog 20 #[.agg #[.int .i64 (V : Int), .slice ca C.length cc], .slice aa A.length ac] w fun e w' => (∃ b : Bool, e = .returned (.bool b) ∧ (b = true ↔ (contraP (negL A) = true ∨ Conf C (negL A)))) ∧ w.grownBy w' none := by
  obtain ⟨cn, hcn⟩ : ∃ n, C.length = n := ⟨_, rfl⟩
  obtain ⟨an, han⟩ : ∃ n, A.length = n := ⟨_, rfl⟩
  obtain ⟨bf, hbf⟩ : ∃ z, w.heap.size = z := ⟨_, rfl⟩
  have hNl : (negL A).length = an := by unfold negL; rw [List.length_map, han]
  have hNr : ∀ x ∈ negL A, InR V x := fun x hx => by
    unfold negL at hx
    obtain ⟨y, hy, e⟩ := List.mem_map.1 hx
    obtain ⟨h0, h1, h2⟩ := hAr y hy
    exact ⟨by omega, by omega, by omega⟩
  have HH := Lib.hid (And.intro h (And.intro hC (And.intro hL (And.intro hR hcn))))
  have HA := Lib.hid (And.intro hA (And.intro hAl (And.intro hAr (And.intro han (And.intro hNl hNr)))))
  obtain ⟨W1, hW1⟩ : ∃ z, w.alloc (.cells #[.int .i64 (V : Int), .slice ca cn cc] 24) = z := ⟨_, rfl⟩
  obtain ⟨W2, hW2⟩ : ∃ z, W1.alloc (.cells #[.bool false] 4) = z := ⟨_, rfl⟩
  obtain ⟨s2, q0, q1, q2, q3, hg2⟩ := boxes20 w (.int .i64 (V : Int)) (.slice ca cn cc) (W := W2) (by rw [hW1, hW2])
  have s1 : W1.heap.size = bf + 1 := by rw [← hW1, ← hbf]; simp
  have HG2 := Lib.hid hg2
  rw [hcn, han]
  rw [hbf] at q0 q1 q2 q3 s2
  have HB := Lib.hid (And.intro s2 hbf)
  have HQ := Lib.hid (And.intro q0 (And.intro q1 (And.intro q2 q3)))
  obtain ⟨T, hT⟩ : ∃ T : Prop, (contraP (negL A) = true ∨ Conf C (negL A)) = T := ⟨_, rfl⟩
  rw [hT]
  have HT := Lib.hid hT
  obtain ⟨i0, hi0, hz0, hz1, hz2⟩ := info_parts info3
  clear h hC hL hR hA hAl hAr hg2 hcn han s2 hNl hNr hT q0 q1 q2 q3
  have hmf : ∀ (fn : Fn) (first cap : Array Value) (w : World), (Instr.makeFunc fn first cap).run Try.prog w = .ok (.func fn first cap) w := fun _ _ _ _ => rfl
  go_enter_defers Try.func20, Try.ntmps20
  go_wp2_with fail
  clear hmf hW1 hW2 s1
  go_loopg [5, 7, 13] an (fun gk s5 _s7 s13 wr => ∃ (k : Nat) (a : Option Addr) (c : Nat), s5 = .slice a k c ∧ s13 = .int .i64 (k : Int) ∧ gk = an - k ∧ k ≤ an ∧ W2.grownBy wr none ∧ wr.ownsRow W2.heap.size 3 1 (.slice a k c) k (intCells (negL (A.take k))))
  case atStart => exact ⟨0, none, 0, rfl, rfl, rfl, by omega, grown_refl _ _, by simp [negL], .inl ⟨rfl, rfl⟩⟩
  case round =>
    obtain ⟨k, a, c, rfl, rfl, hgk, hk, hg, hown⟩ := hrel
    have HI := Lib.hid (And.intro hgk (And.intro hg hown))
    clear hgk hg hown
    have hal : an ≤ 10000 := by have := HA.out.2.1; rw [HA.out.2.2.2.1] at this; exact this
    by_cases hkn : k < an
    · have f1 : decide ((k : Int) < (an : Int)) = true := decide_eq_true (by omega)
      have f1' : decide (k < an) = true := decide_eq_true hkn
      have j0 : (0 : Int) ≤ (k : Int) := by omega
      have j1 : (k : Int) < (an : Int) := by omega
      have k1 : IntKind.i64.wrap ((k : Int) + 1) = (k : Int) + 1 := IntWalk.i64_in _ (by omega)
      obtain ⟨x, hx⟩ : ∃ x, A[k]? = some x := ⟨_, List.getElem?_eq_getElem (by rw [HA.out.2.2.2.1]; exact hkn)⟩
      obtain ⟨b, o, hb0, hcell⟩ := (HA.out.1.grown (World.grownBy.trans HG2.out HI.out.2.1)).at hx
      subst hb0
      obtain ⟨hx0, hx1, hx2⟩ := HA.out.2.2.1 x (List.mem_of_getElem? hx)
      have kx : IntKind.i64.wrap (-x) = -x := IntWalk.i64_in _ (by omega)
      have HX : Hid (negL (A.take (k + 1)) = negL (A.take k) ++ [-x]) := Lib.hid (by unfold negL; rw [take_snoc hx, List.map_append]; rfl)
      have hsz : W2.heap.size ≤ wr.heap.size := HI.out.2.1.size
      clear hx hx0 hx1 hx2
      go_wp2_with (at_builtin; refine wpList_append_own_at _ rfl _ _ 25 rfl W2.heap.size 3 i0 (.int .i64 0) 1 8 Try.underlying25 hi0 hz0 hz1 hz2 rfl (by decide) _ k (intCells (negL (A.take k))) rfl (HI.out.2.2.alloc _) ⟨wr.heap.size, 0, none⟩ 1 1 [.int .i64 (-x)] rfl rfl (cell_one_new _ _ _) (fun u hu => by simp at hu; subst hu; rfl) (by unfold maxLen; omega) (by omega) (by simp; omega) ?_)
      intro v' w7 hown' hgrow7 _ hat7
      obtain ⟨a', c', rfl⟩ := own_shape hown'
      have hg8 : wr.grownBy w7 (Value.slice a k c).ownBlock := (World.grownBy_alloc wr _ _).trans hgrow7
      have HN := Lib.hid (And.intro (grown_own HI.out.2.1 hg8 (own_low HI.out.2.2)) hown')
      clear hown' hgrow7 hat7 hg8 hcell
      go_wp2_with fail
      go_roundg (an - (k + 1))
      case measure => rw [HI.out.1]; omega
      case rel => exact ⟨k + 1, a', c', rfl, rfl, rfl, by omega, HN.out.1, by rw [HX.out, intCells, List.map_append]; exact HN.out.2⟩
    · have hke : k = an := by omega
      subst hke
      have f1 : decide (k < k) = false := by simp
      obtain ⟨N, hN⟩ : ∃ N, negL A = N := ⟨_, rfl⟩
      have HNN : Hid (IntsW wr a c N ∧ N.length = k ∧ (∀ x ∈ N, InR V x) ∧ ((contraP N = true ∨ Conf C N) = T)) := Lib.hid (by
        have h1 := HI.out.2.2
        rw [← HA.out.2.2.2.1, List.take_length, hN, HA.out.2.2.2.1] at h1
        have h2 := HA.out.2.2.2.2.1
        rw [hN] at h2
        refine ⟨irow_ints (B := W2.heap.size) (show IRow W2.heap.size wr a c N from by unfold IRow; rw [h2]; exact h1), h2, by rw [← hN]; exact HA.out.2.2.2.2.2, by rw [← hN]; exact HT.out⟩)
      have HW : Hid (W2.grownBy wr none) := Lib.hid HI.out.2.1
      have HCO : Hid (Calls Try.prog 40 #[.slice a k c] wr fun e w' => e = .returned (.bool (contraP N)) ∧ wr.grownBy w' none) := Lib.hid (by
        have := contradict_calls N a c wr HNN.out.1 (by rw [HNN.out.2.1]; omega) (fun x hx => by obtain ⟨a1, a2, a3⟩ := HNN.out.2.2.1 x hx; exact ⟨a1, by omega, by omega⟩)
        rwa [HNN.out.2.1] at this)
      clear HI hN hk hkn
      go_wp2_with fail
      refine HCO.out.mono ?_
      rintro e w3 ⟨rfl, hg3⟩
      have hg23 := World.grownBy.trans HW.out hg3
      have HG3 := Lib.hid hg23
      have c0 := hg23.cell HQ.out.1 (by simp)
      have c1 := hg23.cell HQ.out.2.1 (by simp)
      have c2 := hg23.cell HQ.out.2.2.1 (by simp)
      have c3 : w3.frozen? ⟨bf + 1, 0, none⟩ = false := (grown_frozen hg23 (lies_lt HQ.out.2.2.1) 0).trans HQ.out.2.2.2
      have HGS : Hid (∀ (W : World) (v : Value), w3.grownBy W none → w.grownBy (W.setCell ⟨bf + 1, 0, none⟩ v) none) := Lib.hid (fun W v hW => grown_own (World.grownBy.trans HG2.out (World.grownBy.trans HG3.out hW)) (grown_set _ _ _ _) (fun k e => by have := Option.some.inj e; have := HB.out.2; omega))
      have HNW : Hid (IntsW w3 a c N) := Lib.hid (HNN.out.1.grown hg3)
      clear hg3 hg23 HCO f1
      obtain ⟨cb, hcb⟩ : ∃ z, contraP N = z := ⟨_, rfl⟩
      rw [hcb]
      have HCB := Lib.hid hcb
      clear hcb
      cases cb with
      | true =>
        go_wp2_with fail
        exact leave20 rfl (World.cell?_setCell_same _ _ _ c2) ⟨⟨true, rfl, fun _ => by rw [← HNN.out.2.2.2]; exact .inl HCB.out, fun _ => rfl⟩, HGS.out _ _ (grown_refl _ _)⟩
      | false =>
        have HSC := Lib.hid (sweep_calls V C ca cc N a c w3 (HH.out.1.grown (World.grownBy.trans HG2.out HG3.out)) hV (by have := HH.out.2.1; omega) (fun c hc => by have := HH.out.2.2.1 c hc; omega) HH.out.2.2.2.1 HNW.out (by rw [HNN.out.2.1]; omega) HNN.out.2.2.1 HCB.out)
        rw [HH.out.2.2.2.2, HNN.out.2.1] at HSC
        go_wp2_with fail
        refine HSC.out.mono ?_
        rintro e w4 ⟨⟨b1, b2, rfl, hb⟩, hg4⟩
        have HG4 := Lib.hid hg4
        have HBB := Lib.hid hb
        replace c0 := hg4.cell c0 (by simp)
        replace c1 := hg4.cell c1 (by simp)
        replace c3 : w4.frozen? ⟨bf + 1, 0, none⟩ = false := (grown_frozen hg4 (lies_lt c2) 0).trans c3
        replace c2 := hg4.cell c2 (by simp)
        clear hg4 hb HSC
        cases b2 with
        | true =>
          go_wp2_with fail
          exact leave20 rfl (World.cell?_setCell_same _ _ _ c2) ⟨⟨b1, rfl, by rw [HBB.out (by first | trivial | rfl), ← HNN.out.2.2.2]; exact ⟨fun h => .inr h, fun h => h.resolve_left (by rw [HCB.out]; decide)⟩⟩, HGS.out _ _ HG4.out⟩
        | false =>
          have HPC := Lib.hid (propagated_calls V C ca cc N a c w4 (HH.out.1.grown (World.grownBy.trans HG2.out (World.grownBy.trans HG3.out HG4.out))) hV HH.out.2.1 HH.out.2.2.1 HH.out.2.2.2.1 (HNW.out.grown HG4.out) (by rw [HNN.out.2.1]; omega) HNN.out.2.2.1)
          rw [HH.out.2.2.2.2, HNN.out.2.1] at HPC
          go_wp2_with fail
          refine HPC.out.mono ?_
          rintro e w5 ⟨p, rfl, hpr, hg5⟩
          have HG5 := Lib.hid hg5
          have f5 := hpr.f5
          obtain ⟨kf, hkf⟩ : ∃ z, (propP V C N).2.2.2 = z := ⟨_, rfl⟩
          rw [hkf] at f5
          have HKF : Hid (kf ≠ -1 ↔ Conf C N) := Lib.hid (by rw [← hkf]; exact conf_prop HH.out.2.2.2.1 HCB.out)
          replace c3 : w5.frozen? ⟨bf + 1, 0, none⟩ = false := (grown_frozen hg5 (lies_lt c2) 0).trans c3
          replace c2 := hg5.cell c2 (by simp)
          clear hg5 hpr hkf HPC c0 c1
          obtain ⟨d, hd⟩ : ∃ d, (kf != -1) = d := ⟨_, rfl⟩
          have HD : Hid (d = true ↔ T) := Lib.hid (by
            rw [← hd, ← HNN.out.2.2.2, bne_iff_ne, HKF.out]
            exact ⟨fun h => .inr h, fun h => h.resolve_left (by rw [HCB.out]; decide)⟩)
          go_wp2_with fail
          exact leave20 rfl (World.cell?_setCell_same _ _ _ c2) ⟨⟨d, rfl, HD.out⟩, HGS.out _ _ (World.grownBy.trans HG4.out HG5.out)⟩
end Go.Proofs.Ythkemajekkilmaa
/- The reference's small functions over rows of integers: Has, In, Within. -/
namespace Go.Proofs.Ythkemajekkilmaa
open Go.RowKit
theorem take_mem {L : List Int} {k : Nat} {z x : Int} (hz : L[k]? = some z) : x ∈ L.take (k + 1) ↔ x ∈ L.take k ∨ x = z := by
  obtain ⟨hk, e⟩ := List.getElem?_eq_some_iff.1 hz
  rw [List.take_succ_eq_append_getElem hk, e]
  simp
set_option maxHeartbeats 4000000 in
theorem has_calls (L : List Int) (a : Option Addr) (c : Nat) (x : Int) (w : World) (h : IntsW w a c L) (hl : L.length ≤ 100000) :
    Calls Try.prog 31 #[.slice a L.length c, .int .i64 x] w fun e w' => e = .returned (.bool (decide (x ∈ L))) ∧ w' = w := by
  obtain ⟨n, hn⟩ : ∃ n, L.length = n := ⟨_, rfl⟩
  have HH := Lib.hid (And.intro h hn)
  rw [hn] at hl ⊢
  clear h hn
  obtain ⟨d, hd⟩ : ∃ d, decide (x ∈ L) = d := ⟨_, rfl⟩
  rw [hd]
  have HD := Lib.hid hd
  clear hd
  go_enter Try.func31, Try.ntmps31
  go_wp2_with fail
  go_loopg [5] n (fun gk s5 w' => ∃ k : Nat, s5 = .int .i64 (k : Int) ∧ gk = n - k ∧ k ≤ n ∧ w' = w ∧ x ∉ L.take k)
  case atStart => exact ⟨0, rfl, rfl, by omega, rfl, by simp⟩
  case round =>
    obtain ⟨k, rfl, hgk, hk, rfl, hbef⟩ := hrel
    have HI := Lib.hid (And.intro hgk hbef)
    clear hgk hbef
    by_cases hkn : k < n
    · have f1 : decide ((k : Int) < (n : Int)) = true := decide_eq_true (by omega)
      have f1' : decide (k < n) = true := decide_eq_true hkn
      have i0 : (0 : Int) ≤ (k : Int) := by omega
      have i1 : (k : Int) < (n : Int) := by omega
      have k1 : IntKind.i64.wrap ((k : Int) + 1) = (k : Int) + 1 := IntWalk.i64_in _ (by omega)
      obtain ⟨z, hz⟩ : ∃ z, L[k]? = some z := ⟨_, List.getElem?_eq_getElem (by rw [HH.out.2]; exact hkn)⟩
      obtain ⟨b, o, rfl, hcell⟩ := HH.out.1.at hz
      have HZ := Lib.hid hz
      clear hz
      by_cases hzx : z = x
      · have t1 : (z == x) = true := by simp [hzx]
        have HR : Hid (d = true) := Lib.hid (by rw [← HD.out]; exact decide_eq_true (by rw [← hzx]; exact List.mem_of_getElem? HZ.out))
        clear hzx
        go_wp2_with fail
        go_ret
        exact ⟨by rw [HR.out]; rfl, rfl⟩
      · have t1 : (z == x) = false := by simp [hzx]
        have HN : Hid (x ∉ L.take (k + 1)) := Lib.hid (fun hm => ((take_mem HZ.out).1 hm).elim HI.out.2 (fun e => hzx e.symm))
        clear hzx
        go_wp2_with fail
        go_roundg (n - (k + 1))
        case measure => rw [HI.out.1]; omega
        case rel => exact ⟨k + 1, rfl, rfl, by omega, rfl, HN.out⟩
    · have hke : k = n := by omega
      subst hke
      have f1 : decide (k < k) = false := by simp
      have HR : Hid (d = false) := Lib.hid (by rw [← HD.out]; refine decide_eq_false ?_; have := HI.out.2; rwa [← HH.out.2, List.take_length] at this)
      go_wp2_with fail
      go_ret
      exact ⟨by rw [HR.out]; rfl, rfl⟩
set_option maxHeartbeats 4000000 in
theorem in_calls (L M : List Int) (a a' : Option Addr) (c c' : Nat) (w : World) (h : IntsW w a c L) (h' : IntsW w a' c' M) (hl : L.length ≤ 100000) (hl' : M.length ≤ 100000) :
    Calls Try.prog 30 #[.slice a L.length c, .slice a' M.length c'] w fun e w' => e = .returned (.bool (decide (∀ x ∈ L, x ∈ M))) ∧ w' = w := by
  obtain ⟨n, hn⟩ : ∃ n, L.length = n := ⟨_, rfl⟩
  have HC := Lib.hid (fun x => has_calls M a' c' x w h' hl')
  obtain ⟨m, hm⟩ : ∃ m, M.length = m := ⟨_, rfl⟩
  have HH := Lib.hid (And.intro h hn)
  rw [hm] at HC
  rw [hn] at hl ⊢
  rw [hm]
  clear h h' hn hm hl'
  obtain ⟨d, hd⟩ : ∃ d, decide (∀ x ∈ L, x ∈ M) = d := ⟨_, rfl⟩
  rw [hd]
  have HD := Lib.hid hd
  clear hd
  go_enter Try.func30, Try.ntmps30
  go_wp2_with fail
  go_loopg [5] n (fun gk s5 w' => ∃ k : Nat, s5 = .int .i64 (k : Int) ∧ gk = n - k ∧ k ≤ n ∧ w' = w ∧ ∀ x ∈ L.take k, x ∈ M)
  case atStart => exact ⟨0, rfl, rfl, by omega, rfl, by simp⟩
  case round =>
    obtain ⟨k, rfl, hgk, hk, rfl, hbef⟩ := hrel
    have HI := Lib.hid (And.intro hgk hbef)
    clear hgk hbef
    by_cases hkn : k < n
    · have f1 : decide ((k : Int) < (n : Int)) = true := decide_eq_true (by omega)
      have f1' : decide (k < n) = true := decide_eq_true hkn
      have i0 : (0 : Int) ≤ (k : Int) := by omega
      have i1 : (k : Int) < (n : Int) := by omega
      have k1 : IntKind.i64.wrap ((k : Int) + 1) = (k : Int) + 1 := IntWalk.i64_in _ (by omega)
      obtain ⟨z, hz⟩ : ∃ z, L[k]? = some z := ⟨_, List.getElem?_eq_getElem (by rw [HH.out.2]; exact hkn)⟩
      obtain ⟨b, o, rfl, hcell⟩ := HH.out.1.at hz
      have HZ := Lib.hid hz
      clear hz
      have HCZ := Lib.hid (HC.out z)
      obtain ⟨q, hq⟩ : ∃ q, decide (z ∈ M) = q := ⟨_, rfl⟩
      rw [hq] at HCZ
      have HQ := Lib.hid hq
      clear hq
      go_wp2_with fail
      refine HCZ.out.mono ?_
      rintro e w1 ⟨rfl, hw1⟩
      rw [hw1]
      clear hw1 w1 HCZ
      cases q with
      | false =>
        have HR : Hid (d = false) := Lib.hid (by rw [← HD.out]; exact decide_eq_false (fun hf => of_decide_eq_false HQ.out (hf z (List.mem_of_getElem? HZ.out))))
        go_wp2_with fail
        go_ret
        exact ⟨by rw [HR.out]; rfl, rfl⟩
      | true =>
        have HN : Hid (∀ x ∈ L.take (k + 1), x ∈ M) := Lib.hid (fun x hx => ((take_mem HZ.out).1 hx).elim (HI.out.2 x) (fun e => by rw [e]; exact of_decide_eq_true HQ.out))
        go_wp2_with fail
        go_roundg (n - (k + 1))
        case measure => rw [HI.out.1]; omega
        case rel => exact ⟨k + 1, rfl, rfl, by omega, rfl, HN.out⟩
    · have hke : k = n := by omega
      subst hke
      have f1 : decide (k < k) = false := by simp
      have HR : Hid (d = true) := Lib.hid (by rw [← HD.out]; refine decide_eq_true ?_; have := HI.out.2; rwa [← HH.out.2, List.take_length] at this)
      go_wp2_with fail
      go_ret
      exact ⟨by rw [HR.out]; rfl, rfl⟩
/-- The literals are numbers of variables. -/
def inRb (V : Int) (x : Int) : Bool := !(x == 0) && decide (x ≤ V) && decide (-V ≤ x)
set_option maxHeartbeats 4000000 in
theorem within_calls (V : Int) (L : List Int) (a : Option Addr) (c : Nat) (w : World) (h : IntsW w a c L) (hl : L.length ≤ 100000) (hV : -1000000 ≤ V ∧ V ≤ 9000000000000000000) :
    Calls Try.prog 22 #[.int .i64 V, .slice a L.length c] w fun e w' => e = .returned (.bool (L.all (inRb V))) ∧ w' = w := by
  obtain ⟨n, hn⟩ : ∃ n, L.length = n := ⟨_, rfl⟩
  have HH := Lib.hid (And.intro h hn)
  rw [hn] at hl ⊢
  clear h hn
  obtain ⟨d, hd⟩ : ∃ d, L.all (inRb V) = d := ⟨_, rfl⟩
  rw [hd]
  have HD := Lib.hid hd
  clear hd
  have kV : IntKind.i64.wrap (-V) = -V := IntWalk.i64_in _ (by omega)
  go_enter Try.func22, Try.ntmps22
  go_wp2_with fail
  go_loopg [5] n (fun gk s5 w' => ∃ k : Nat, s5 = .int .i64 (k : Int) ∧ gk = n - k ∧ k ≤ n ∧ w' = w ∧ (L.take k).all (inRb V) = true)
  case atStart => exact ⟨0, rfl, rfl, by omega, rfl, by simp⟩
  case round =>
    obtain ⟨k, rfl, hgk, hk, rfl, hbef⟩ := hrel
    have HI := Lib.hid (And.intro hgk hbef)
    clear hgk hbef
    by_cases hkn : k < n
    · have f1 : decide ((k : Int) < (n : Int)) = true := decide_eq_true (by omega)
      have f1' : decide (k < n) = true := decide_eq_true hkn
      have i0 : (0 : Int) ≤ (k : Int) := by omega
      have i1 : (k : Int) < (n : Int) := by omega
      have k1 : IntKind.i64.wrap ((k : Int) + 1) = (k : Int) + 1 := IntWalk.i64_in _ (by omega)
      obtain ⟨z, hz⟩ : ∃ z, L[k]? = some z := ⟨_, List.getElem?_eq_getElem (by rw [HH.out.2]; exact hkn)⟩
      obtain ⟨b, o, rfl, hcell⟩ := HH.out.1.at hz
      have HZ := Lib.hid hz
      have hst : (L.take (k + 1)).all (inRb V) = inRb V z := by
        obtain ⟨hlt, e⟩ := List.getElem?_eq_some_iff.1 hz
        rw [List.take_succ_eq_append_getElem hlt, e, List.all_append, HI.out.2]; simp
      have hno : inRb V z = false → d = false := fun hf => by
        rw [← HD.out]
        cases ha : L.all (inRb V) with
        | false => rfl
        | true => rw [List.all_eq_true] at ha; rw [ha z (List.mem_of_getElem? hz)] at hf; cases hf
      have HS := Lib.hid (And.intro hst hno)
      clear hz hst hno
      have fin : ∀ (b0 b1 b2 : Bool), (z == 0) = b0 → decide (V < z) = b1 → decide (z < -V) = b2 → inRb V z = (!b0 && !b1 && !b2) := fun b0 b1 b2 e0 e1 e2 => by
        unfold inRb
        rw [e0, show decide (z ≤ V) = !b1 from by rw [← e1]; by_cases hh : V < z <;> simp [hh] <;> omega, show decide (-V ≤ z) = !b2 from by rw [← e2]; by_cases hh : z < -V <;> simp [hh] <;> omega]
      have HF := Lib.hid fin
      clear fin
      cases hb0 : (z == 0) with
      | true =>
        have HR : Hid (d = false) := Lib.hid (HS.out.2 (by rw [HF.out true _ _ hb0 rfl rfl]; rfl))
        have b0 := hb0
        clear hb0
        go_wp2_with fail
        go_ret
        exact ⟨by rw [HR.out]; rfl, rfl⟩
      | false =>
        cases hb1 : decide (V < z) with
        | true =>
          have HR : Hid (d = false) := Lib.hid (HS.out.2 (by rw [HF.out false true _ hb0 hb1 rfl]; rfl))
          go_wp2_with fail
          go_ret
          exact ⟨by rw [HR.out]; rfl, rfl⟩
        | false =>
          cases hb2 : decide (z < -V) with
          | true =>
            have HR : Hid (d = false) := Lib.hid (HS.out.2 (by rw [HF.out false false true hb0 hb1 hb2]; rfl))
            go_wp2_with fail
            go_ret
            exact ⟨by rw [HR.out]; rfl, rfl⟩
          | false =>
            have HN : Hid ((L.take (k + 1)).all (inRb V) = true) := Lib.hid (by rw [HS.out.1, HF.out false false false hb0 hb1 hb2]; rfl)
            go_wp2_with fail
            go_roundg (n - (k + 1))
            case measure => rw [HI.out.1]; omega
            case rel => exact ⟨k + 1, rfl, rfl, by omega, rfl, HN.out⟩
    · have hke : k = n := by omega
      subst hke
      have f1 : decide (k < k) = false := by simp
      have HR : Hid (d = true) := Lib.hid (by rw [← HD.out]; have := HI.out.2; rwa [← HH.out.2, List.take_length] at this)
      go_wp2_with fail
      go_ret
      exact ⟨by rw [HR.out]; rfl, rfl⟩
end Go.Proofs.Ythkemajekkilmaa
/- The reference's Ints and Valid; the law's small and fits. -/
namespace Go.Proofs.Ythkemajekkilmaa
open Go.RowKit
set_option maxHeartbeats 1000000 in

theorem box_at (w : World) (u0 u1 : Value) {W : World} (hW : w.alloc (.cells #[u0, u1] 24) = W) : W.cell? ⟨w.heap.size, 0, none⟩ = some u0 ∧ W.cell? ⟨w.heap.size, 1, none⟩ = some u1 ∧ w.grownBy W none := by
  subst hW
  exact ⟨(one_cells w u0 u1 24).2.1, (one_cells w u0 u1 24).2.2.1, World.grownBy_alloc w _ none⟩
theorem ctake {C : List (List Int)} {k : Nat} {z : List Int} (hz : C[k]? = some z) (f : List Int → Bool) : (C.take (k + 1)).all f = ((C.take k).all f && f z) := by
  obtain ⟨hlt, e⟩ := List.getElem?_eq_some_iff.1 hz
  rw [List.take_succ_eq_append_getElem hlt, e, List.all_append]; simp
theorem all_no {C : List (List Int)} {z : List Int} {f : List Int → Bool} (hz : z ∈ C) (h : f z = false) : C.all f = false := by
  cases ha : C.all f with
  | false => rfl
  | true => rw [List.all_eq_true] at ha; rw [ha z hz] at h; cases h
def validB (V : Int) (C : List (List Int)) : Bool := decide (0 ≤ V) && C.all (fun c => c.all (inRb V))
set_option maxHeartbeats 4000000 in
theorem valid_calls (V : Int) (C : List (List Int)) (ca : Option Addr) (cc : Nat) (w : World) (h : ClsW w ca cc C) (hV : V ≤ 20000) (hC : C.length ≤ 60000) (hL : ∀ c ∈ C, c.length ≤ 100000) :
    Calls Try.prog 33 #[.agg #[.int .i64 V, .slice ca C.length cc]] w fun e w' => e = .returned (.bool (validB V C)) ∧ w.grownBy w' none := by
  obtain ⟨n, hn⟩ : ∃ n, C.length = n := ⟨_, rfl⟩
  obtain ⟨W1, hW1⟩ : ∃ z, w.alloc (.cells #[.int .i64 V, .slice ca n cc] 24) = z := ⟨_, rfl⟩
  obtain ⟨q0, q1, hg1⟩ := box_at w _ _ hW1
  have HH := Lib.hid (And.intro (h.grown hg1) (And.intro hL (And.intro hn hg1)))
  rw [hn] at hC ⊢
  obtain ⟨bf, hbf⟩ : ∃ z, w.heap.size = z := ⟨_, rfl⟩
  rw [hbf] at q0 q1
  obtain ⟨d, hd⟩ : ∃ d, validB V C = d := ⟨_, rfl⟩
  rw [hd]
  have HD := Lib.hid hd
  clear h hL hn hg1 hd
  have g1 : decide ((20000 : Int) < V) = false := decide_eq_false (by omega)
  have g2 : decide ((60000 : Int) < (n : Int)) = false := decide_eq_false (by omega)
  have g2' : decide (60000 < n) = false := decide_eq_false (by omega)
  by_cases hv0 : V < 0
  · have g0 : decide (V < 0) = true := decide_eq_true hv0
    have HR : Hid (d = false) := Lib.hid (by rw [← HD.out]; unfold validB; rw [decide_eq_false (by omega)]; rfl)
    go_enter Try.func33, Try.ntmps33
    go_wp2_with fail
    go_ret
    exact ⟨by rw [HR.out]; rfl, HH.out.2.2.2⟩
  have g0 : decide (V < 0) = false := decide_eq_false hv0
  go_enter Try.func33, Try.ntmps33
  go_wp2_with fail
  clear hW1
  go_loopg [3] n (fun gk s3 w' => ∃ k : Nat, s3 = .int .i64 (k : Int) ∧ gk = n - k ∧ k ≤ n ∧ (∃ q, w' = W1.drewN q) ∧ (C.take k).all (fun c => c.all (inRb V)) = true)
  case atStart => exact ⟨0, rfl, rfl, by omega, ⟨0, rfl⟩, by simp⟩
  case round =>
    obtain ⟨k, rfl, hgk, hk, ⟨q, rfl⟩, hbef⟩ := hrel
    have HI := Lib.hid (And.intro hgk hbef)
    clear hgk hbef
    by_cases hkn : k < n
    · have f1 : decide ((k : Int) < (n : Int)) = true := decide_eq_true (by omega)
      have f1' : decide (k < n) = true := decide_eq_true hkn
      have i0 : (0 : Int) ≤ (k : Int) := by omega
      have i1 : (k : Int) < (n : Int) := by omega
      have k1 : IntKind.i64.wrap ((k : Int) + 1) = (k : Int) + 1 := IntWalk.i64_in _ (by omega)
      obtain ⟨z, hz⟩ : ∃ z, C[k]? = some z := ⟨_, List.getElem?_eq_getElem (by rw [HH.out.2.2.1]; exact hkn)⟩
      obtain ⟨b, o, a', c', rfl, hcell, hints⟩ := HH.out.1.at hz
      have HC := Lib.hid (fun m => within_calls V z a' c' (W1.drewN m) ((hints.grown (grown_drewN _ _ none))) (HH.out.2.1 z (List.mem_of_getElem? hz)) (by omega))
      have HZ := Lib.hid hz
      clear hz hints
      obtain ⟨l, hl⟩ : ∃ l, z.length = l := ⟨_, rfl⟩
      rw [hl] at hcell HC
      obtain ⟨p, hp⟩ : ∃ p, z.all (inRb V) = p := ⟨_, rfl⟩
      rw [hp] at HC
      have HP := Lib.hid hp
      clear hl hp
      go_wp2_with fail
      go_quiet ((go_at_call 22; exact (HC.out _).mono fun _ _ h => ⟨h.1, _, h.2⟩))
      clear hcell HC
      cases p with
      | false =>
        have HR : Hid (d = false) := Lib.hid (by rw [← HD.out]; unfold validB; rw [all_no (List.mem_of_getElem? HZ.out) HP.out, Bool.and_false])
        go_wp2_with fail
        go_ret
        exact ⟨by rw [HR.out]; rfl, World.grownBy.trans HH.out.2.2.2 (grown_drewN _ _ _)⟩
      | true =>
        have HN : Hid ((C.take (k + 1)).all (fun c => c.all (inRb V)) = true) := Lib.hid (by rw [ctake HZ.out, HI.out.2, HP.out]; rfl)
        go_wp2_with fail
        go_roundg (n - (k + 1))
        case measure => rw [HI.out.1]; omega
        case rel => exact ⟨k + 1, rfl, rfl, by omega, ⟨_, rfl⟩, HN.out⟩
    · have hke : k = n := by omega
      subst hke
      have f1 : decide (k < k) = false := by simp
      have HR : Hid (d = true) := Lib.hid (by rw [← HD.out]; unfold validB; have := HI.out.2; rw [← HH.out.2.2.1, List.take_length] at this; rw [this, decide_eq_true (by omega)]; rfl)
      go_wp2_with fail
      go_ret
      exact ⟨by rw [HR.out]; rfl, World.grownBy.trans HH.out.2.2.2 (grown_drewN _ _ _)⟩
end Go.Proofs.Ythkemajekkilmaa
/- The law's small and fits. -/
namespace Go.Proofs.Ythkemajekkilmaa
open Go.RowKit
def smallB (V : Int) (C : List (List Int)) : Bool := decide (V ≤ 8) && decide (C.length ≤ 40) && C.all (fun c => decide (c.length ≤ 12)) && validB V C
set_option maxHeartbeats 4000000 in
theorem small_calls (V : Int) (C : List (List Int)) (ca : Option Addr) (cc : Nat) (w : World) (h : ClsW w ca cc C) :
    Calls Try.prog 11 #[.agg #[.int .i64 V, .slice ca C.length cc]] w fun e w' => e = .returned (.bool (smallB V C)) ∧ w.grownBy w' none := by
  obtain ⟨n, hn⟩ : ∃ n, C.length = n := ⟨_, rfl⟩
  obtain ⟨W1, hW1⟩ : ∃ z, w.alloc (.cells #[.int .i64 V, .slice ca n cc] 24) = z := ⟨_, rfl⟩
  obtain ⟨q0, q1, hg1⟩ := box_at w _ _ hW1
  have HH := Lib.hid (And.intro (h.grown hg1) (And.intro trivial (And.intro hn hg1)))
  rw [hn]
  obtain ⟨bf, hbf⟩ : ∃ z, w.heap.size = z := ⟨_, rfl⟩
  rw [hbf] at q0 q1
  obtain ⟨d, hd⟩ : ∃ d, smallB V C = d := ⟨_, rfl⟩
  rw [hd]
  have HD := Lib.hid hd
  clear h hn hg1 hd
  by_cases hv : 8 < V
  · have g0 : decide (8 < V) = true := decide_eq_true hv
    have HR : Hid (d = false) := Lib.hid (by rw [← HD.out]; unfold smallB; rw [decide_eq_false (by omega : ¬ V ≤ 8)]; rfl)
    go_enter Try.func11, Try.ntmps11
    go_wp2_with fail
    go_ret
    exact ⟨by rw [HR.out]; rfl, HH.out.2.2.2⟩
  have g0 : decide (8 < V) = false := decide_eq_false hv
  by_cases hc : 40 < n
  · have g1 : decide ((40 : Int) < (n : Int)) = true := decide_eq_true (by omega)
    have g1' : decide (40 < n) = true := decide_eq_true (by omega)
    have HR : Hid (d = false) := Lib.hid (by rw [← HD.out]; unfold smallB; rw [HH.out.2.2.1, decide_eq_false (by omega : ¬ n ≤ 40), Bool.and_false]; rfl)
    go_enter Try.func11, Try.ntmps11
    go_wp2_with fail
    go_ret
    exact ⟨by rw [HR.out]; rfl, HH.out.2.2.2⟩
  have g1 : decide ((40 : Int) < (n : Int)) = false := decide_eq_false (by omega)
  have g1' : decide (40 < n) = false := decide_eq_false (by omega)
  go_enter Try.func11, Try.ntmps11
  go_wp2_with fail
  clear hW1
  go_loopg [3] n (fun gk s3 w' => ∃ k : Nat, s3 = .int .i64 (k : Int) ∧ gk = n - k ∧ k ≤ n ∧ w' = W1 ∧ (C.take k).all (fun c => decide (c.length ≤ 12)) = true)
  case atStart => exact ⟨0, rfl, rfl, by omega, rfl, by simp⟩
  case round =>
    obtain ⟨k, rfl, hgk, hk, rfl, hbef⟩ := hrel
    have HI := Lib.hid (And.intro hgk hbef)
    clear hgk hbef
    by_cases hkn : k < n
    · have f1 : decide ((k : Int) < (n : Int)) = true := decide_eq_true (by omega)
      have f1' : decide (k < n) = true := decide_eq_true hkn
      have i0 : (0 : Int) ≤ (k : Int) := by omega
      have i1 : (k : Int) < (n : Int) := by omega
      have k1 : IntKind.i64.wrap ((k : Int) + 1) = (k : Int) + 1 := IntWalk.i64_in _ (by omega)
      obtain ⟨z, hz⟩ : ∃ z, C[k]? = some z := ⟨_, List.getElem?_eq_getElem (by rw [HH.out.2.2.1]; exact hkn)⟩
      obtain ⟨b, o, a', c', rfl, hcell, hints⟩ := HH.out.1.at hz
      have HZ := Lib.hid hz
      clear hz hints
      obtain ⟨l, hl⟩ : ∃ l, z.length = l := ⟨_, rfl⟩
      rw [hl] at hcell
      have HLL := Lib.hid hl
      clear hl
      by_cases hl12 : 12 < l
      · have t1 : decide ((12 : Int) < (l : Int)) = true := decide_eq_true (by omega)
        have t1' : decide (12 < l) = true := decide_eq_true hl12
        have HR : Hid (d = false) := Lib.hid (by rw [← HD.out]; unfold smallB; rw [all_no (List.mem_of_getElem? HZ.out) (show decide (z.length ≤ 12) = false from by rw [HLL.out]; exact decide_eq_false (by omega)), Bool.and_false]; rfl)
        go_wp2_with fail
        go_ret
        exact ⟨by rw [HR.out]; rfl, HH.out.2.2.2⟩
      · have t1 : decide ((12 : Int) < (l : Int)) = false := decide_eq_false (by omega)
        have t1' : decide (12 < l) = false := decide_eq_false hl12
        have HN : Hid ((C.take (k + 1)).all (fun c => decide (c.length ≤ 12)) = true) := Lib.hid (by rw [ctake HZ.out, HI.out.2, Bool.true_and, HLL.out]; exact decide_eq_true (by omega))
        go_wp2_with fail
        go_roundg (n - (k + 1))
        case measure => rw [HI.out.1]; omega
        case rel => exact ⟨k + 1, rfl, rfl, by omega, rfl, HN.out⟩
    · have hke : k = n := by omega
      subst hke
      have f1 : decide (k < k) = false := by simp
      have HV := Lib.hid (valid_calls V C ca cc wr HH.out.1 (by omega) (by rw [HH.out.2.2.1]; omega) (fun c hc => by have h1 := HI.out.2; rw [← HH.out.2.2.1, List.take_length] at h1; have := of_decide_eq_true (List.all_eq_true.1 h1 c hc); omega))
      rw [HH.out.2.2.1] at HV
      have HR : Hid (d = validB V C) := Lib.hid (by rw [← HD.out]; unfold smallB; have := HI.out.2; rw [← HH.out.2.2.1, List.take_length] at this; rw [this, HH.out.2.2.1, decide_eq_true (by omega : V ≤ 8), decide_eq_true (by omega : k ≤ 40)]; rfl)
      go_wp2_with fail
      refine HV.out.mono ?_
      rintro e w2 ⟨rfl, hg2⟩
      have HG2 := Lib.hid hg2
      clear hg2 HV q0 q1
      go_wp2_with fail
      go_ret
      exact ⟨by rw [HR.out]; rfl, World.grownBy.trans HH.out.2.2.2 HG2.out⟩
def fitsB (V : Int) (L : List Int) : Bool := decide (L.length ≤ 12) && L.all (inRb V)
set_option maxHeartbeats 4000000 in
theorem fits_calls (V : Int) (ca : Option Addr) (cn cc : Nat) (L : List Int) (a : Option Addr) (c : Nat) (w : World) (h : IntsW w a c L) (hV : -1000000 ≤ V ∧ V ≤ 9000000000000000000) :
    Calls Try.prog 12 #[.agg #[.int .i64 V, .slice ca cn cc], .slice a L.length c] w fun e w' => e = .returned (.bool (fitsB V L)) ∧ w.grownBy w' none := by
  obtain ⟨n, hn⟩ : ∃ n, L.length = n := ⟨_, rfl⟩
  obtain ⟨W1, hW1⟩ : ∃ z, w.alloc (.cells #[.int .i64 V, .slice ca cn cc] 24) = z := ⟨_, rfl⟩
  obtain ⟨q0, q1, hg1⟩ := box_at w _ _ hW1
  have HH := Lib.hid (And.intro (h.grown hg1) (And.intro hn hg1))
  rw [hn]
  obtain ⟨bf, hbf⟩ : ∃ z, w.heap.size = z := ⟨_, rfl⟩
  rw [hbf] at q0 q1
  obtain ⟨d, hd⟩ : ∃ d, fitsB V L = d := ⟨_, rfl⟩
  rw [hd]
  have HD := Lib.hid hd
  clear h hn hg1 hd
  by_cases hn12 : n ≤ 12
  · have g1 : decide ((n : Int) ≤ 12) = true := decide_eq_true (by omega)
    have g1' : decide (n ≤ 12) = true := decide_eq_true hn12
    have HW := Lib.hid (within_calls V L a c W1 HH.out.1 (by rw [HH.out.2.1]; omega) hV)
    rw [HH.out.2.1] at HW
    have HR : Hid (d = L.all (inRb V)) := Lib.hid (by rw [← HD.out]; unfold fitsB; rw [HH.out.2.1, g1', Bool.true_and])
    go_enter Try.func12, Try.ntmps12
    go_wp2_with fail
    refine HW.out.mono ?_
    rintro e w2 ⟨rfl, hw2⟩
    rw [hw2]
    clear hw2 w2 HW
    go_wp2_with fail
    go_ret
    exact ⟨by rw [HR.out]; rfl, HH.out.2.2⟩
  · have g1 : decide ((n : Int) ≤ 12) = false := decide_eq_false (by omega)
    have g1' : decide (n ≤ 12) = false := decide_eq_false hn12
    have HR : Hid (d = false) := Lib.hid (by rw [← HD.out]; unfold fitsB; rw [HH.out.2.1, g1', Bool.false_and])
    go_enter Try.func12, Try.ntmps12
    go_wp2_with fail
    go_ret
    exact ⟨by rw [HR.out]; rfl, HH.out.2.2⟩
end Go.Proofs.Ythkemajekkilmaa

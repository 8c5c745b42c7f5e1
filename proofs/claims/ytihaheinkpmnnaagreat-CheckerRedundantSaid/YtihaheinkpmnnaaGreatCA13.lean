/- Texts of the proof: V1 X1 V3 Z2 X2 X3. -/
import Derived.Test.YtihaheinkpmnnaaGreatCA12
import Derived.BigQuiet
import Derived.Test.YtihaheinkpmnnaaGreatCA01
import Derived.LoopTactic
namespace Go.Proofs.YtihaheinkpmnnaaGreat
set_option maxRecDepth 200000
open Go.RowKit
theorem irow_le {B : Nat} {w : World} {a : Option Addr} {c : Nat} {l : List Int} (h : IRow B w a c l) : l.length ≤ c := by
  rcases h.2 with ⟨_, h0⟩ | ⟨_, _, _, e, _, _, hnc, _⟩
  · omega
  · injection e with _ _ e; omega
end Go.Proofs.YtihaheinkpmnnaaGreat

namespace Go.Proofs.YtihaheinkpmnnaaGreat
set_option maxRecDepth 200000
open Go.RowKit
/-- What undetermined answers: a literal and a count. -/
def unP (tr c : List Int) : Int × Int :=
  if hot tr c = true then (match c.find? (und tr) with | some x => (x, 1) | none => (0, 0)) else (0, 2)
theorem hot_nil (tr : List Int) : hot tr [] = true := by rw [hot_iff]; exact ⟨fun y hy => (by cases hy), fun x hx => (by cases hx)⟩
theorem take_snoc {L : List Int} {k : Nat} {z : Int} (hz : L[k]? = some z) : L.take (k + 1) = L.take k ++ [z] := by
  obtain ⟨hk, e⟩ := List.getElem?_eq_some_iff.1 hz
  rw [List.take_succ_eq_append_getElem hk, e]
theorem hot_true {tr c : List Int} {y : Int} (hy : y ∈ c) (h : y ∈ tr) : unP tr c = (0, 2) := by
  unfold unP
  rw [if_neg]
  intro hh
  exact (hot_iff tr c).1 hh |>.1 y hy h
theorem hot_two {tr c : List Int} {x y : Int} (hx : x ∈ c) (hy : y ∈ c) (ux : und tr x = true) (uy : und tr y = true) (hne : y ≠ x) : unP tr c = (0, 2) := by
  unfold unP
  rw [if_neg]
  intro hh
  exact hne ((hot_iff tr c).1 hh |>.2 y hy x hx uy ux)
/-- Behind the first literals: none is true, the open ones are one. -/
def UnI (tr c : List Int) (k : Nat) (u n : Int) : Prop := hot tr (c.take k) = true ∧ ((n = 0 ∧ u = 0 ∧ (c.take k).find? (und tr) = none) ∨ (n = 1 ∧ (c.take k).find? (und tr) = some u))
theorem UnI.start (tr c : List Int) : UnI tr c 0 0 0 := ⟨by simp [hot_nil], .inl ⟨rfl, rfl, by simp⟩⟩
theorem UnI.skip {tr c : List Int} {k : Nat} {u n z : Int} (h : UnI tr c k u n) (hz : c[k]? = some z) (h1 : z ∉ tr) (h2 : und tr z = false) : UnI tr c (k + 1) u n := by
  unfold UnI
  rw [take_snoc hz, List.find?_append]
  have hf : List.find? (und tr) [z] = none := by simp [h2]
  rw [hf]
  refine ⟨?_, ?_⟩
  · rw [hot_iff]
    have hh := (hot_iff tr _).1 h.1
    refine ⟨fun y hy => ?_, fun x hx y hy ux uy => ?_⟩
    · rcases List.mem_append.1 hy with hy | hy
      · exact hh.1 y hy
      · rw [List.mem_singleton.1 hy]; exact h1
    · rcases List.mem_append.1 hx with hx | hx
      · rcases List.mem_append.1 hy with hy | hy
        · exact hh.2 x hx y hy ux uy
        · rw [List.mem_singleton.1 hy, h2] at uy; cases uy
      · rw [List.mem_singleton.1 hx, h2] at ux; cases ux
  · rcases h.2 with ⟨a, b, e⟩ | ⟨a, e⟩
    · exact .inl ⟨a, b, by rw [e]; rfl⟩
    · exact .inr ⟨a, by rw [e]; rfl⟩
theorem UnI.open_ {tr c : List Int} {k : Nat} {u n z : Int} (h : UnI tr c k u n) (hz : c[k]? = some z) (h2 : und tr z = true) (hs : n = 1 → z = u) : UnI tr c (k + 1) z 1 := by
  unfold UnI
  rw [take_snoc hz, List.find?_append]
  have hf : List.find? (und tr) [z] = some z := by simp [h2]
  rw [hf]
  have hh := (hot_iff tr _).1 h.1
  have hall : ∀ y ∈ c.take k, und tr y = true → y = z := fun y hy uy => by
    rcases h.2 with ⟨a, b, e⟩ | ⟨a, e⟩
    · rw [List.find?_eq_none] at e; exact absurd uy (e y hy)
    · rw [hs a]
      have hu := List.find?_some e
      exact hh.2 y hy u (List.mem_of_find?_eq_some e) uy hu
  refine ⟨?_, .inr ⟨rfl, ?_⟩⟩
  · rw [hot_iff]
    refine ⟨fun y hy => ?_, fun x hx y hy ux uy => ?_⟩
    · rcases List.mem_append.1 hy with hy | hy
      · exact hh.1 y hy
      · rw [List.mem_singleton.1 hy]; exact ((und_iff tr z).1 h2).1
    · have e1 : x = z := by
        rcases List.mem_append.1 hx with hx | hx
        · exact hall x hx ux
        · exact List.mem_singleton.1 hx
      have e2 : y = z := by
        rcases List.mem_append.1 hy with hy | hy
        · exact hall y hy uy
        · exact List.mem_singleton.1 hy
      rw [e1, e2]
  · rcases h.2 with ⟨a, b, e⟩ | ⟨a, e⟩
    · rw [e]; rfl
    · rw [e, ← hs a]; rfl
theorem UnI.two {tr c : List Int} {k : Nat} {u z : Int} (h : UnI tr c k u 1) (hz : c[k]? = some z) (h2 : und tr z = true) (hne : z ≠ u) : unP tr c = (0, 2) := by
  rcases h.2 with ⟨a, _⟩ | ⟨_, e⟩
  · omega
  · exact hot_two (List.mem_of_mem_take (List.mem_of_find?_eq_some e)) (List.mem_of_getElem? hz) (List.find?_some e) h2 hne
theorem UnI.done {tr c : List Int} {u n : Int} (h : UnI tr c c.length u n) : unP tr c = (u, n) := by
  unfold UnI at h
  rw [List.take_length] at h
  unfold unP
  rw [if_pos h.1]
  rcases h.2 with ⟨a, b, e⟩ | ⟨a, e⟩
  · rw [e, a, b]
  · rw [e, a]
/-- The values of a trail, in a row. -/
def VR (B V vb : Nat) (tr : List Int) (w : World) : Prop := w.ownsRow B 126 1 (.slice (some ⟨vb, 0, none⟩) (V + 1) (V + 1)) (V + 1) ((valsP V tr).map (Value.int .i8))
theorem VR.cell {B V vb : Nat} {tr : List Int} {w : World} (h : VR B V vb tr w) {v : Nat} (hv : v ≤ V) (h0 : v ≠ 0) : w.cell? ⟨vb, v, none⟩ = some (.int .i8 (valL tr (v : Int))) := by
  have hc := @World.ownsRow.cells w B 126 1 _ (V + 1) _ h (g := vb) rfl v (.int .i8 (valL tr (v : Int))) (by rw [List.getElem?_map, vals_get hv h0]; rfl)
  rwa [add_at] at hc
theorem VR.fr {B V vb : Nat} {tr : List Int} {w : World} (h : VR B V vb tr w) (v : Nat) : w.frozen? ⟨vb, v, none⟩ = false := World.ownsRow.frozenAt h v
theorem VR.grown {B V vb : Nat} {tr : List Int} {w w' : World} (h : VR B V vb tr w) (hg : w.grownBy w' none) : VR B V vb tr w' := own_grown h hg
theorem VR.store {B V vb : Nat} {tr tr' : List Int} {w : World} (h : VR B V vb tr w) (v : Nat) (z : Int) (he : (valsP V tr).set v z = valsP V tr') : VR B V vb tr' (w.setCell ⟨vb, v, none⟩ (.int .i8 z)) := by
  have := (World.ownsRow.stored h v (.int .i8 z)).1
  rw [← List.map_set, he] at this
  exact this
end Go.Proofs.YtihaheinkpmnnaaGreat

namespace Go.Proofs.YtihaheinkpmnnaaGreat
set_option maxRecDepth 200000
open Go.RowKit

set_option maxHeartbeats 1000000 in
theorem box_at (w : World) (u0 u1 : Value) {W : World} (hW : w.alloc (.cells #[u0, u1] 24) = W) : W.cell? ⟨w.heap.size, 0, none⟩ = some u0 ∧ W.cell? ⟨w.heap.size, 1, none⟩ = some u1 ∧ w.grownBy W none := by
  subst hW
  exact ⟨(one_cells w u0 u1 24).2.1, (one_cells w u0 u1 24).2.2.1, World.grownBy_alloc w _ none⟩
theorem ctake {C : List (List Int)} {k : Nat} {z : List Int} (hz : C[k]? = some z) (f : List Int → Bool) : (C.take (k + 1)).all f = ((C.take k).all f && f z) := by
  obtain ⟨hlt, e⟩ := List.getElem?_eq_some_iff.1 hz
  rw [List.take_succ_eq_append_getElem hlt, e, List.all_append]; simp
theorem all_no {C : List (List Int)} {z : List Int} {f : List Int → Bool} (hz : z ∈ C) (h : f z = false) : C.all f = false := by
  cases ha : C.all f with
  | false => rfl
  | true => rw [List.all_eq_true] at ha; rw [ha z hz] at h; cases h
def validB (V : Int) (C : List (List Int)) : Bool := decide (0 ≤ V) && C.all (fun c => c.all (inRb V))
set_option maxHeartbeats 4000000 in
theorem valid_calls (V : Int) (C : List (List Int)) (ca : Option Addr) (cc : Nat) (w : World) (h : ClsW w ca cc C) (hV : V ≤ 20000) (hC : C.length ≤ 60000) (hL : ∀ c ∈ C, c.length ≤ 100000) :
    Calls Tryz.prog 24 #[.agg #[.int .i64 V, .slice ca C.length cc]] w fun e w' => e = .returned (.bool (validB V C)) ∧ w.grownBy w' none := by
  obtain ⟨n, hn⟩ : ∃ n, C.length = n := ⟨_, rfl⟩
  obtain ⟨W1, hW1⟩ : ∃ z, w.alloc (.cells #[.int .i64 V, .slice ca n cc] 24) = z := ⟨_, rfl⟩
  obtain ⟨q0, q1, hg1⟩ := box_at w _ _ hW1
  have HH := Lib.hid (And.intro (h.grown hg1) (And.intro hL (And.intro hn hg1)))
  rw [hn] at hC ⊢
  obtain ⟨bf, hbf⟩ : ∃ z, w.heap.size = z := ⟨_, rfl⟩
  rw [hbf] at q0 q1
  obtain ⟨d, hd⟩ : ∃ d, validB V C = d := ⟨_, rfl⟩
  rw [hd]
  have HD := Lib.hid hd
  clear h hL hn hg1 hd
  have g1 : decide ((20000 : Int) < V) = false := decide_eq_false (by omega)
  have g2 : decide ((60000 : Int) < (n : Int)) = false := decide_eq_false (by omega)
  have g2' : decide (60000 < n) = false := decide_eq_false (by omega)
  by_cases hv0 : V < 0
  · have g0 : decide (V < 0) = true := decide_eq_true hv0
    have HR : Hid (d = false) := Lib.hid (by rw [← HD.out]; unfold validB; rw [decide_eq_false (by omega)]; rfl)
    go_enter Tryz.func24, Tryz.ntmps24
    go_wp2_with fail
    go_ret
    exact ⟨by rw [HR.out]; rfl, HH.out.2.2.2⟩
  have g0 : decide (V < 0) = false := decide_eq_false hv0
  go_enter Tryz.func24, Tryz.ntmps24
  go_wp2_with fail
  clear hW1
  go_loopg [3] n (fun gk s3 w' => ∃ k : Nat, s3 = .int .i64 (k : Int) ∧ gk = n - k ∧ k ≤ n ∧ (∃ q, w' = W1.drewN q) ∧ (C.take k).all (fun c => c.all (inRb V)) = true)
  case atStart => exact ⟨0, rfl, rfl, by omega, ⟨0, rfl⟩, by simp⟩
  case round =>
    obtain ⟨k, rfl, hgk, hk, ⟨q, rfl⟩, hbef⟩ := hrel
    have HI := Lib.hid (And.intro hgk hbef)
    clear hgk hbef
    by_cases hkn : k < n
    · have f1 : decide ((k : Int) < (n : Int)) = true := decide_eq_true (by omega)
      have f1' : decide (k < n) = true := decide_eq_true hkn
      have i0 : (0 : Int) ≤ (k : Int) := by omega
      have i1 : (k : Int) < (n : Int) := by omega
      have k1 : IntKind.i64.wrap ((k : Int) + 1) = (k : Int) + 1 := IntWalk.i64_in _ (by omega)
      obtain ⟨z, hz⟩ : ∃ z, C[k]? = some z := ⟨_, List.getElem?_eq_getElem (by rw [HH.out.2.2.1]; exact hkn)⟩
      obtain ⟨b, o, a', c', rfl, hcell, hints⟩ := HH.out.1.at hz
      have HC := Lib.hid (fun m => within_calls V z a' c' (W1.drewN m) ((hints.grown (grown_drewN _ _ none))) (HH.out.2.1 z (List.mem_of_getElem? hz)) (by omega))
      have HZ := Lib.hid hz
      clear hz hints
      obtain ⟨l, hl⟩ : ∃ l, z.length = l := ⟨_, rfl⟩
      rw [hl] at hcell HC
      obtain ⟨p, hp⟩ : ∃ p, z.all (inRb V) = p := ⟨_, rfl⟩
      rw [hp] at HC
      have HP := Lib.hid hp
      clear hl hp
      go_wp2_with fail
      go_quiet ((go_at_call 42; exact (HC.out _).mono fun _ _ h => ⟨h.1, _, h.2⟩))
      clear hcell HC
      cases p with
      | false =>
        have HR : Hid (d = false) := Lib.hid (by rw [← HD.out]; unfold validB; rw [all_no (List.mem_of_getElem? HZ.out) HP.out, Bool.and_false])
        go_wp2_with fail
        go_ret
        exact ⟨by rw [HR.out]; rfl, World.grownBy.trans HH.out.2.2.2 (grown_drewN _ _ _)⟩
      | true =>
        have HN : Hid ((C.take (k + 1)).all (fun c => c.all (inRb V)) = true) := Lib.hid (by rw [ctake HZ.out, HI.out.2, HP.out]; rfl)
        go_wp2_with fail
        go_roundg (n - (k + 1))
        case measure => rw [HI.out.1]; omega
        case rel => exact ⟨k + 1, rfl, rfl, by omega, ⟨_, rfl⟩, HN.out⟩
    · have hke : k = n := by omega
      subst hke
      have f1 : decide (k < k) = false := by simp
      have HR : Hid (d = true) := Lib.hid (by rw [← HD.out]; unfold validB; have := HI.out.2; rw [← HH.out.2.2.1, List.take_length] at this; rw [this, decide_eq_true (by omega)]; rfl)
      go_wp2_with fail
      go_ret
      exact ⟨by rw [HR.out]; rfl, World.grownBy.trans HH.out.2.2.2 (grown_drewN _ _ _)⟩
end Go.Proofs.YtihaheinkpmnnaaGreat

namespace Go.Proofs.YtihaheinkpmnnaaGreat
set_option maxRecDepth 200000
open Go.RowKit
/-- A row of bools that is read. -/
def BW (w : World) (a : Option Addr) (c : Nat) (vs : List Bool) : Prop :=
  vs.length ≤ c ∧ (vs = [] ∨ ∃ b o, a = some ⟨b, o, none⟩ ∧ ∀ (j : Nat) (z : Bool), vs[j]? = some z → w.cell? ⟨b, o + j, none⟩ = some (.bool z))
theorem BW.grown {w w' : World} {a : Option Addr} {c : Nat} {vs : List Bool} (h : BW w a c vs) (hg : w.grownBy w' none) : BW w' a c vs := by
  obtain ⟨hc, h | ⟨b, o, ha, hz⟩⟩ := h
  · exact ⟨hc, .inl h⟩
  · exact ⟨hc, .inr ⟨b, o, ha, fun j z hj => hg.cell (hz j z hj) (by simp)⟩⟩
theorem BW.at {w : World} {a : Option Addr} {c : Nat} {vs : List Bool} (h : BW w a c vs) {i : Nat} {z : Bool} (hz : vs[i]? = some z) : ∃ b o, a = some ⟨b, o, none⟩ ∧ w.cell? ⟨b, o + i, none⟩ = some (.bool z) := by
  rcases h.2 with rfl | ⟨b, o, ha, hc⟩
  · simp at hz
  · exact ⟨b, o, ha, hc i z hz⟩
end Go.Proofs.YtihaheinkpmnnaaGreat

namespace Go.Proofs.YtihaheinkpmnnaaGreat
set_option maxRecDepth 200000
open Go.RowKit
set_option maxHeartbeats 8000000 in
set_option maxRecDepth 100000 in
theorem undet_calls {B V vb : Nat} {tr : List Int} {w : World} (h : VR B V vb tr w) (hc : Cons tr) (hV : V ≤ 400) {a : Option Addr} {c : Nat} {L : List Int} (hL : IntsW w a c L) (hr : ∀ y ∈ L, InR V y) (hn : L.length ≤ 100000) :
    Calls Tryz.prog 103 #[.slice (some ⟨vb, 0, none⟩) (V + 1) (V + 1), .slice a L.length c] w fun e w' => e = .returned (.tuple #[.int .i64 (unP tr L).1, .int .i64 (unP tr L).2]) ∧ w' = w := by
  obtain ⟨n, hnn⟩ : ∃ n, L.length = n := ⟨_, rfl⟩
  have HH := Lib.hid (And.intro hL (And.intro hnn (And.intro h hc)))
  rw [hnn] at hn ⊢
  clear h hc hL hnn
  obtain ⟨ru, hru⟩ : ∃ z, unP tr L = z := ⟨_, rfl⟩
  rw [hru]
  have HR := Lib.hid hru
  clear hru
  obtain ⟨M, hM⟩ : ∃ z, V + 1 = z := ⟨_, rfl⟩
  rw [hM]
  have HM := Lib.hid hM
  clear hM
  have fin : ∀ (tmps : Array Value) (w : World) (x y : Value), tmps.getD 4 undef = x → tmps.getD 5 undef = y → (results Tryz.f103 tmps).run Tryz.prog w = .ok (.tuple #[x, y]) w := fun tmps w x y e1 e2 => by
    have e1' : tmps[4]?.getD undef = x := by simpa using e1
    have e2' : tmps[5]?.getD undef = y := by simpa using e2
    simp [results, e1', e2', go_sem]
  have HF := Lib.hid fin
  clear fin
  go_enter Tryz.func103, Tryz.ntmps103
  go_wp2_with fail
  go_loopg [4, 5, 7, 8, 11] n (fun gk s4 s5 _s7 _s8 s11 w' => ∃ (k : Nat) (u m : Int), s4 = .int .i64 u ∧ s5 = .int .i64 m ∧ s11 = .int .i64 (k : Int) ∧ gk = n - k ∧ k ≤ n ∧ w' = w ∧ UnI tr L k u m)
  case atStart => exact ⟨0, 0, 0, rfl, rfl, rfl, rfl, by omega, rfl, UnI.start tr L⟩
  case round =>
    obtain ⟨k, u, m, rfl, rfl, rfl, hgk, hk, rfl, hun⟩ := hrel
    have HI := Lib.hid (And.intro hgk hun)
    have hm01 : m = 0 ∨ m = 1 := hun.2.elim (fun h => .inl h.1) (fun h => .inr h.1)
    clear hgk hun
    by_cases hkn : k < n
    · have f1 : decide ((k : Int) < (n : Int)) = true := decide_eq_true (by omega)
      have f1' : decide (k < n) = true := decide_eq_true hkn
      have i0 : (0 : Int) ≤ (k : Int) := by omega
      have i1 : (k : Int) < (n : Int) := by omega
      have k1 : IntKind.i64.wrap ((k : Int) + 1) = (k : Int) + 1 := IntWalk.i64_in _ (by omega)
      obtain ⟨z, hz⟩ : ∃ z, L[k]? = some z := ⟨_, List.getElem?_eq_getElem (by rw [HH.out.2.1]; exact hkn)⟩
      have hzm : z ∈ L := List.mem_of_getElem? hz
      obtain ⟨h0, h1, h2⟩ := hr z hzm
      obtain ⟨b, o, rfl, hcell⟩ := HH.out.1.at hz
      obtain ⟨v, hv⟩ : ∃ v : Nat, max z (-z) = (v : Int) := ⟨z.natAbs, by omega⟩
      have kz : IntKind.i64.wrap (-z) = -z := IntWalk.i64_in _ (by omega)
      have hvV : v ≤ V := by omega
      have hv0 : v ≠ 0 := by omega
      have cv := HH.out.2.2.1.cell hvV hv0
      obtain ⟨y, hy⟩ : ∃ y, valL tr (v : Int) = y := ⟨_, rfl⟩
      rw [hy] at cv
      have j0 : (0 : Int) ≤ (v : Int) := by omega
      have j1 : (v : Int) < (M : Int) := by have := HM.out; omega
      have hy01 : y = -1 ∨ y = 0 ∨ y = 1 := by rw [← hy]; unfold valL; split <;> (try split) <;> omega
      have kn : IntKind.i8.wrap (-y) = -y := by rcases hy01 with rfl | rfl | rfl <;> rfl
      have hval : valL tr z = if z < 0 then -y else y := by
        by_cases hz0 : z < 0
        · rw [if_pos hz0, ← hy, ← val_neg HH.out.2.2.2, show -(v : Int) = z from by omega]
        · rw [if_neg hz0, ← hy, show (v : Int) = z from by omega]
      have HZ := Lib.hid (And.intro hz (And.intro hzm hval))
      have HV := Lib.hid (And.intro hv (And.intro hy (And.intro hy01 (And.intro h0 (And.intro h1 h2)))))
      clear hz hzm hval hv0 hvV hy h0 h1 h2
      have step : ∀ q : Int, valL tr z = q → (q = 1 → ru = (0, 2)) ∧ (q = 0 → m = 1 → z ≠ u → ru = (0, 2)) ∧ (q = 0 → (m = 1 → z = u) → UnI tr L (k + 1) z 1) ∧ (q = -1 → UnI tr L (k + 1) u m) := by
        intro q hq
        have hin : z ∈ tr ↔ q = 1 := by
          rw [← hq]; unfold valL
          by_cases e1 : tr.contains z = true
          · rw [if_pos e1]; simpa using e1
          · rw [if_neg e1]; constructor
            · intro hm; exact absurd (by simpa using hm) e1
            · intro hh; split at hh <;> omega
        have hu : und tr z = true ↔ q = 0 := by rw [← und_val, hq]; simp
        refine ⟨fun e => by rw [← HR.out]; exact hot_true HZ.out.2.1 (hin.2 e), fun e em hne => ?_, fun e hs => HI.out.2.open_ HZ.out.1 (hu.2 e) hs, fun e => ?_⟩
        · have h1 := HI.out.2
          rw [em] at h1
          rw [← HR.out]
          exact h1.two HZ.out.1 (hu.2 e) hne
        · refine HI.out.2.skip HZ.out.1 (fun hm => by have := hin.1 hm; omega) ?_
          cases hb : und tr z with
          | false => rfl
          | true => have := hu.1 hb; omega
      have HST := Lib.hid step
      clear step hr
      have bod : ∀ q : Int, valL tr z = q → q = -1 ∨ q = 0 ∨ q = 1 := fun q hq => by rw [← hq]; unfold valL; split <;> (try split) <;> omega
      have HB := Lib.hid bod
      clear bod
      by_cases hz0 : z < 0
      · have t0 : decide (z < 0) = true := decide_eq_true hz0
        obtain ⟨q, hq⟩ : ∃ q, -y = q := ⟨_, rfl⟩
        have HQ : Hid (valL tr z = q) := Lib.hid (by rw [HZ.out.2.2, if_pos hz0, hq])
        rw [hq] at kn
        have kz' : IntKind.i64.wrap (-z) = (v : Int) := by rw [kz]; omega
        have t1 : decide (z < (v : Int)) = true := decide_eq_true (by omega)
        have t2 : max z (v : Int) = (v : Int) := by omega
        have t3 : z < (v : Int) := by omega
        obtain rfl : y = -q := by omega
        clear kz hv hq hy01
        rcases HB.out q HQ.out with rfl | rfl | rfl
        · have HN : Hid (UnI tr L (k + 1) u m) := Lib.hid ((HST.out _ HQ.out).2.2.2 rfl)
          go_wp2_with fail
          go_roundg (n - (k + 1))
          case measure => rw [HI.out.1]; omega
          case rel => exact ⟨k + 1, u, m, rfl, rfl, rfl, rfl, by omega, rfl, HN.out⟩
        · rcases hm01 with rfl | rfl
          · have HN : Hid (UnI tr L (k + 1) z 1) := Lib.hid ((HST.out _ HQ.out).2.2.1 rfl (fun e => absurd e (by decide)))
            go_wp2_with fail
            go_roundg (n - (k + 1))
            case measure => rw [HI.out.1]; omega
            case rel => exact ⟨k + 1, z, 1, rfl, rfl, rfl, rfl, by omega, rfl, HN.out⟩
          · by_cases hzu : z = u
            · have b1 : (z != u) = false := by simp [hzu]
              have HN : Hid (UnI tr L (k + 1) z 1) := Lib.hid ((HST.out _ HQ.out).2.2.1 rfl (fun _ => hzu))
              clear hzu
              go_wp2_with fail
              go_roundg (n - (k + 1))
              case measure => rw [HI.out.1]; omega
              case rel => exact ⟨k + 1, z, 1, rfl, rfl, rfl, rfl, by omega, rfl, HN.out⟩
            · have b1 : (z != u) = true := by simpa using hzu
              have HE : Hid (ru = (0, 2)) := Lib.hid ((HST.out _ HQ.out).2.1 rfl rfl hzu)
              clear hzu
              go_wp2_with fail
              refine bodyPost_ret (v := .tuple #[.int .i64 0, .int .i64 2]) (HF.out _ _ _ _ rfl rfl) rfl ?_
              exact ⟨by rw [HE.out], rfl⟩
        · have HE : Hid (ru = (0, 2)) := Lib.hid ((HST.out _ HQ.out).1 rfl)
          go_wp2_with fail
          refine bodyPost_ret (v := .tuple #[.int .i64 0, .int .i64 2]) (HF.out _ _ _ _ rfl rfl) rfl ?_
          exact ⟨by rw [HE.out], rfl⟩
      · have t0 : decide (z < 0) = false := decide_eq_false hz0
        have HQ : Hid (valL tr z = y) := Lib.hid (by rw [HZ.out.2.2, if_neg hz0])
        obtain rfl : z = (v : Int) := by omega
        have t1 : decide ((v : Int) < -(v : Int)) = false := decide_eq_false (by omega)
        have t2 : max (v : Int) (-(v : Int)) = (v : Int) := by omega
        have t3 : ¬ (v : Int) < -(v : Int) := by omega
        clear hv hy01 kn
        obtain ⟨q, hq⟩ : ∃ q, y = q := ⟨_, rfl⟩
        subst hq
        rcases HB.out y HQ.out with rfl | rfl | rfl
        · have HN : Hid (UnI tr L (k + 1) u m) := Lib.hid ((HST.out _ HQ.out).2.2.2 rfl)
          go_wp2_with fail
          go_roundg (n - (k + 1))
          case measure => rw [HI.out.1]; omega
          case rel => exact ⟨k + 1, u, m, rfl, rfl, rfl, rfl, by omega, rfl, HN.out⟩
        · rcases hm01 with rfl | rfl
          · have HN : Hid (UnI tr L (k + 1) (v : Int) 1) := Lib.hid ((HST.out _ HQ.out).2.2.1 rfl (fun e => absurd e (by decide)))
            go_wp2_with fail
            go_roundg (n - (k + 1))
            case measure => rw [HI.out.1]; omega
            case rel => exact ⟨k + 1, (v : Int), 1, rfl, rfl, rfl, rfl, by omega, rfl, HN.out⟩
          · by_cases hzu : (v : Int) = u
            · have b1 : ((v : Int) != u) = false := by simp [hzu]
              have HN : Hid (UnI tr L (k + 1) (v : Int) 1) := Lib.hid ((HST.out _ HQ.out).2.2.1 rfl (fun _ => hzu))
              clear hzu
              go_wp2_with fail
              go_roundg (n - (k + 1))
              case measure => rw [HI.out.1]; omega
              case rel => exact ⟨k + 1, (v : Int), 1, rfl, rfl, rfl, rfl, by omega, rfl, HN.out⟩
            · have b1 : ((v : Int) != u) = true := by simpa using hzu
              have HE : Hid (ru = (0, 2)) := Lib.hid ((HST.out _ HQ.out).2.1 rfl rfl hzu)
              clear hzu
              go_wp2_with fail
              refine bodyPost_ret (v := .tuple #[.int .i64 0, .int .i64 2]) (HF.out _ _ _ _ rfl rfl) rfl ?_
              exact ⟨by rw [HE.out], rfl⟩
        · have HE : Hid (ru = (0, 2)) := Lib.hid ((HST.out _ HQ.out).1 rfl)
          go_wp2_with fail
          refine bodyPost_ret (v := .tuple #[.int .i64 0, .int .i64 2]) (HF.out _ _ _ _ rfl rfl) rfl ?_
          exact ⟨by rw [HE.out], rfl⟩
    · have hke : k = n := by omega
      subst hke
      have f1 : decide (k < k) = false := by simp
      have HE : Hid (ru = (u, m)) := Lib.hid (by rw [← HR.out]; have h := HI.out.2; rw [← HH.out.2.1] at h; exact h.done)
      go_wp2_with fail
      refine bodyPost_ret (v := .tuple #[.int .i64 u, .int .i64 m]) (HF.out _ _ _ _ rfl rfl) rfl ?_
      exact ⟨by rw [HE.out], rfl⟩
end Go.Proofs.YtihaheinkpmnnaaGreat

namespace Go.Proofs.YtihaheinkpmnnaaGreat
set_option maxRecDepth 200000
open Go.RowKit
theorem set_same {l : List Int} {v : Nat} {z : Int} (h : l[v]? = some z) : l.set v z = l := by
  apply List.ext_getElem?
  intro j
  rw [List.getElem?_set]
  by_cases e : v = j
  · subst e
    rw [if_pos rfl, if_pos (List.getElem?_eq_some_iff.1 h).1, h]
  · rw [if_neg e]
def addP (tr : List Int) (x : Int) : List Int := if und tr x = true then tr ++ [x] else tr
theorem val_mem {tr : List Int} {x : Int} (h : x ∈ tr) : valL tr x = 1 := by unfold valL; rw [if_pos (by simpa using h)]
structure SW (w : World) (B bf tb vb V : Nat) (ca : Option Addr) (cn cc : Nat) (tr : List Int) (W : World) : Prop where
  vr : VR B V vb tr W
  tb0 : W.cell? ⟨tb, 0, none⟩ = some (.slice (some ⟨vb, 0, none⟩) (V + 1) (V + 1))
  f0 : W.cell? ⟨bf, 0, none⟩ = some (.int .i64 (V : Int))
  f1 : W.cell? ⟨bf, 1, none⟩ = some (.slice ca cn cc)
  gr : w.grownBy W none
  low : w.heap.size ≤ vb
  n1 : tb ≠ vb
  n2 : bf ≠ vb
theorem SW.store {w : World} {B bf tb vb V : Nat} {ca : Option Addr} {cn cc : Nat} {tr tr' : List Int} {W : World} (h : SW w B bf tb vb V ca cn cc tr W) (v : Nat) (z : Int) (he : (valsP V tr).set v z = valsP V tr') : SW w B bf tb vb V ca cn cc tr' (W.setCell ⟨vb, v, none⟩ (.int .i8 z)) := by
  have hg := grown_set W vb v (.int .i8 z)
  exact ⟨h.vr.store v z he, hg.cell h.tb0 (by simpa using h.n1), hg.cell h.f0 (by simpa using h.n2), hg.cell h.f1 (by simpa using h.n2), grown_own h.gr hg (fun k e => by have := Option.some.inj e; have := h.low; omega), h.low, h.n1, h.n2⟩
set_option maxHeartbeats 4000000 in
theorem set_calls {w : World} {B bf tb vb V : Nat} {ca : Option Addr} {cn cc : Nat} {tr : List Int} {W : World} (h : SW w B bf tb vb V ca cn cc tr W) (hc : Cons tr) (hV : V ≤ 400) {x : Int} (hx : InR V x) (hm : x ∈ tr ∨ und tr x = true) :
    Calls Tryz.prog 102 #[.int .i64 x, .pointer (some ⟨tb, 0, none⟩)] W fun e w' => e = .returned (.tuple #[]) ∧ SW w B bf tb vb V ca cn cc (addP tr x) w' := by
  obtain ⟨h0, h1, h2⟩ := hx
  have HS := Lib.hid h
  have q0 := h.tb0
  obtain ⟨M, hM⟩ : ∃ z, V + 1 = z := ⟨_, rfl⟩
  rw [hM] at q0
  by_cases hx0 : x < 0
  · obtain ⟨v, rfl⟩ : ∃ v : Nat, x = -(v : Int) := ⟨x.natAbs, by omega⟩
    have t0 : decide (-(v : Int) < 0) = true := decide_eq_true hx0
    have t0' : decide (0 < v) = true := decide_eq_true (by omega)
    have t0'' : decide ((0 : Int) < (v : Int)) = true := decide_eq_true (by omega)
    have kz : IntKind.i64.wrap (v : Int) = (v : Int) := IntWalk.i64_in _ (by omega)
    have c := h.vr.cell (v := v) (by omega) (by omega)
    have z := h.vr.fr v
    have j1 : (v : Int) < (M : Int) := by omega
    have j0 : (0 : Int) ≤ (v : Int) := by omega
    have HE : Hid ((valsP V tr).set v (-1) = valsP V (addP tr (-(v : Int)))) := Lib.hid (by
      unfold addP
      rcases hm with hm | hm
      · rw [if_neg (by rw [und_iff]; exact fun hh => hh.1 hm)]
        refine set_same ?_
        rw [vals_get (by omega) (by omega)]
        have := val_neg hc (-(v : Int))
        rw [Int.neg_neg, val_mem hm] at this
        rw [this]
      · rw [if_pos hm]
        exact vals_neg (by omega) hm)
    clear h hx0 h0 h1 h2 hm hM
    go_enter Tryz.func102, Tryz.ntmps102
    go_wp2_with fail
    first
    | go_end0
    | refine bodyPost_ret (results_none rfl _ _ _) rfl ?_
    exact ⟨rfl, HS.out.store v (-1) HE.out⟩
  · obtain ⟨v, rfl⟩ : ∃ v : Nat, x = (v : Int) := ⟨x.natAbs, by omega⟩
    have t0 : decide ((v : Int) < 0) = false := decide_eq_false hx0
    have c := h.vr.cell (v := v) (by omega) (by omega)
    have z := h.vr.fr v
    have j1 : (v : Int) < (M : Int) := by omega
    have j0 : (0 : Int) ≤ (v : Int) := by omega
    have HE : Hid ((valsP V tr).set v 1 = valsP V (addP tr (v : Int))) := Lib.hid (by
      unfold addP
      rcases hm with hm | hm
      · rw [if_neg (by rw [und_iff]; exact fun hh => hh.1 hm)]
        refine set_same ?_
        rw [vals_get (by omega) (by omega), val_mem hm]
      · rw [if_pos hm]
        exact vals_pos (by omega) hm)
    clear h hx0 h0 h1 h2 hm hM
    go_enter Tryz.func102, Tryz.ntmps102
    go_wp2_with fail
    first
    | go_end0
    | refine bodyPost_ret (results_none rfl _ _ _) rfl ?_
    exact ⟨rfl, HS.out.store v 1 HE.out⟩
end Go.Proofs.YtihaheinkpmnnaaGreat

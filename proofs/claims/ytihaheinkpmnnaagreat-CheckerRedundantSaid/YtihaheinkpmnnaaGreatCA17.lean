/- Texts of the proof: CM CX. -/
import Derived.Test.YtihaheinkpmnnaaGreatCA01
import Derived.Test.YtihaheinkpmnnaaGreatCA16
import Derived.RangeFuncNested
import Derived.RangeFuncLeaves
import Derived.RangeFuncBound
import Derived.RangeFuncOwn
import Derived.RangeFuncFrom
import Derived.Shelf.Abstract
import Derived.Shelf.RegionOpen
import Derived.Sort.LoopGhostIn
import Derived.TacticsInMore
import Derived.LoopNIn
import Derived.LoopIn
import Derived.OwnWalkIn
import Derived.RegionIn
namespace Go.Proofs.YtihaheinkpmnnaaGreat
set_option maxRecDepth 200000
open Go.RowKit
def cmpL : List Int → List Int → Int
  | [], [] => 0
  | [], _ :: _ => -1
  | _ :: _, [] => 1
  | x :: l, y :: m => if x < y then -1 else if y < x then 1 else cmpL l m
theorem cmpL_swap : ∀ (l m : List Int), cmpL m l = -(cmpL l m)
  | [], [] => rfl
  | [], _ :: _ => rfl
  | _ :: _, [] => rfl
  | x :: l, y :: m => by
    unfold cmpL
    by_cases h : x < y
    · rw [if_pos h, if_neg (by omega), if_pos h]; rfl
    · by_cases h' : y < x
      · rw [if_pos h', if_neg h, if_pos h']
      · rw [if_neg h', if_neg h, if_neg h, if_neg h', cmpL_swap l m]
theorem cmpL_zero : ∀ (l m : List Int), cmpL l m = 0 ↔ l = m
  | [], [] => by simp [cmpL]
  | [], _ :: _ => by simp [cmpL]
  | _ :: _, [] => by simp [cmpL]
  | x :: l, y :: m => by
    unfold cmpL
    by_cases h : x < y
    · rw [if_pos h]; exact ⟨fun h => by omega, fun e => by injection e; omega⟩
    · by_cases h' : y < x
      · rw [if_neg h, if_pos h']; exact ⟨fun h => by omega, fun e => by injection e; omega⟩
      · rw [if_neg h, if_neg h', cmpL_zero l m]
        have : x = y := by omega
        rw [this]; simp
theorem cmpL_trans : ∀ (l m k : List Int), cmpL l m < 0 → cmpL m k < 0 → cmpL l k < 0
  | [], [], _, h, _ => by simp [cmpL] at h
  | _ :: _, [], _, h, _ => by simp [cmpL] at h
  | _, _ :: _, [], _, h => by simp [cmpL] at h
  | [], _ :: _, _ :: _, _, _ => by simp [cmpL]
  | x :: l, y :: m, z :: k, h, h' => by
    unfold cmpL at h h' ⊢
    by_cases h1 : x < y
    · by_cases h2 : y < z
      · rw [if_pos (by omega)]; decide
      · rw [if_neg h2] at h'
        by_cases h3 : z < y
        · rw [if_pos h3] at h'; omega
        · rw [if_pos (by omega)]; decide
    · rw [if_neg h1] at h
      by_cases h2 : y < x
      · rw [if_pos h2] at h; omega
      · rw [if_neg h2] at h
        have : x = y := by omega
        subst this
        by_cases h3 : x < z
        · rw [if_pos h3]; decide
        · rw [if_neg h3] at h' ⊢
          by_cases h4 : z < x
          · rw [if_pos h4] at h'; omega
          · rw [if_neg h4] at h' ⊢
            exact cmpL_trans l m k h h'
theorem isNaN_calls (x : Int) (w : World) : Calls Tryz.prog 86 #[.int .i64 x] w fun e w' => e = .returned (.bool false) ∧ w' = w := by
  have hb : (x != x) = false := by simp
  go_enter Tryz.func86, Tryz.ntmps86
  go_wp2_with fail
  go_ret
  exact ⟨rfl, rfl⟩
theorem compare_calls (x y : Int) (w : World) : Calls Tryz.prog 60 #[.int .i64 x, .int .i64 y] w fun e w' => e = .returned (.int .i64 (if x < y then -1 else if y < x then 1 else 0)) ∧ w' = w := by
  by_cases h : x < y
  · have f1 : decide (x < y) = true := decide_eq_true h
    rw [if_pos h]
    clear h
    go_enter Tryz.func60, Tryz.ntmps60
    go_wp2_with (go_at_call 86; refine (isNaN_calls _ _).mono ?_; rintro e w' ⟨rfl, hw⟩; rw [hw]; clear hw w')
    go_ret
    exact ⟨rfl, rfl⟩
  · have f1 : decide (x < y) = false := decide_eq_false h
    rw [if_neg h]
    by_cases h' : y < x
    · have f2 : decide (x > y) = true := decide_eq_true h'
      have f3 : decide (y < x) = true := decide_eq_true h'
      rw [if_pos h']
      clear h h'
      go_enter Tryz.func60, Tryz.ntmps60
      go_wp2_with (go_at_call 86; refine (isNaN_calls _ _).mono ?_; rintro e w' ⟨rfl, hw⟩; rw [hw]; clear hw w')
      go_ret
      exact ⟨rfl, rfl⟩
    · have f2 : decide (x > y) = false := decide_eq_false h'
      have f3 : decide (y < x) = false := decide_eq_false h'
      rw [if_neg h']
      clear h h'
      go_enter Tryz.func60, Tryz.ntmps60
      go_wp2_with (go_at_call 86; refine (isNaN_calls _ _).mono ?_; rintro e w' ⟨rfl, hw⟩; rw [hw]; clear hw w')
      go_ret
      exact ⟨rfl, rfl⟩
set_option maxHeartbeats 4000000 in
theorem cmpI_calls (L M : List Int) (a a' : Option Addr) (c c' : Nat) (w : World) (h : IntsW w a c L) (h' : IntsW w a' c' M) (hl : L.length ≤ 100000) (hl' : M.length ≤ 100000) :
    Calls Tryz.prog 38 #[.slice a L.length c, .slice a' M.length c'] w fun e w' => e = .returned (.int .i64 (cmpL L M)) ∧ w' = w := by
  obtain ⟨n, hn⟩ : ∃ n, L.length = n := ⟨_, rfl⟩
  obtain ⟨m, hm⟩ : ∃ n, M.length = n := ⟨_, rfl⟩
  have HH := Lib.hid (And.intro h (And.intro h' (And.intro hn hm)))
  rw [hn] at hl ⊢
  rw [hm] at hl' ⊢
  clear h h' hn hm
  go_enter Tryz.func38, Tryz.ntmps38
  go_wp2_with fail
  go_loopg [11] n (fun gk s11 w' => ∃ k : Nat, s11 = .int .i64 (k : Int) ∧ gk = n - k ∧ k ≤ n ∧ k ≤ m ∧ w' = w ∧ cmpL L M = cmpL (L.drop k) (M.drop k))
  case atStart => exact ⟨0, rfl, rfl, by omega, by omega, rfl, rfl⟩
  case round =>
    obtain ⟨k, rfl, hgk, hk, hkm, rfl, hcm⟩ := hrel
    have HI := Lib.hid (And.intro hgk hcm)
    clear hgk hcm
    by_cases hkn : k < n
    · have f1 : decide ((k : Int) < (n : Int)) = true := decide_eq_true (by omega)
      have f1' : decide (k < n) = true := decide_eq_true hkn
      have i0 : (0 : Int) ≤ (k : Int) := by omega
      have i1 : (k : Int) < (n : Int) := by omega
      have k1 : IntKind.i64.wrap ((k : Int) + 1) = (k : Int) + 1 := IntWalk.i64_in _ (by omega)
      obtain ⟨x, hx⟩ : ∃ x, L[k]? = some x := ⟨_, List.getElem?_eq_getElem (by rw [HH.out.2.2.1]; exact hkn)⟩
      obtain ⟨b, o, rfl, hc⟩ := HH.out.1.at hx
      have hdl : L.drop k = x :: L.drop (k + 1) := by
        obtain ⟨h1, h2⟩ := List.getElem?_eq_some_iff.1 hx
        rw [List.drop_eq_getElem_cons h1, h2]
      have HX := Lib.hid hdl
      clear hdl hx
      by_cases hkm2 : k < m
      · have f2 : decide ((k : Int) ≥ (m : Int)) = false := decide_eq_false (by omega)
        have f2' : decide (m ≤ k) = false := decide_eq_false (by omega)
        have f2'' : decide ((m : Int) ≤ (k : Int)) = false := decide_eq_false (by omega)
        have i2 : (k : Int) < (m : Int) := by omega
        obtain ⟨y, hy⟩ : ∃ x, M[k]? = some x := ⟨_, List.getElem?_eq_getElem (by rw [HH.out.2.2.2]; exact hkm2)⟩
        obtain ⟨b', o', rfl, hc'⟩ := HH.out.2.1.at hy
        have hdm : M.drop k = y :: M.drop (k + 1) := by
          obtain ⟨h1, h2⟩ := List.getElem?_eq_some_iff.1 hy
          rw [List.drop_eq_getElem_cons h1, h2]
        have HR : Hid (cmpL L M = if x < y then -1 else if y < x then 1 else cmpL (L.drop (k + 1)) (M.drop (k + 1))) := Lib.hid (by rw [HI.out.2, HX.out, hdm]; rfl)
        clear hdm hy
        go_wp2_with fail
        refine (compare_calls x y wr).mono ?_
        rintro e w1 ⟨rfl, rfl⟩
        obtain ⟨d, hd⟩ : ∃ d : Int, (if x < y then -1 else if y < x then 1 else 0) = d := ⟨_, rfl⟩
        rw [hd]
        have HD := Lib.hid hd
        clear hd
        by_cases hd0 : d = 0
        · subst hd0
          go_wp2_with fail
          go_roundg (n - (k + 1))
          case measure => rw [HI.out.1]; omega
          case rel => exact ⟨k + 1, rfl, rfl, by omega, by omega, rfl, by
            have h1 := HD.out
            have h2 := HR.out
            by_cases p1 : x < y
            · rw [if_pos p1] at h1; omega
            · rw [if_neg p1] at h1 h2
              by_cases p2 : y < x
              · rw [if_pos p2] at h1; omega
              · rw [if_neg p2] at h2; exact h2⟩
        · have e1 : (d != 0) = true := by simpa using hd0
          have HV : Hid (cmpL L M = d) := Lib.hid (by
            have h1 := HD.out
            rw [HR.out]
            by_cases p1 : x < y
            · rw [if_pos p1] at h1 ⊢; exact h1
            · rw [if_neg p1] at h1 ⊢
              by_cases p2 : y < x
              · rw [if_pos p2] at h1 ⊢; exact h1
              · rw [if_neg p2] at h1; omega)
          clear hd0
          go_wp2_with fail
          go_ret
          exact ⟨by rw [HV.out]; rfl, rfl⟩
      · have f2 : decide ((k : Int) ≥ (m : Int)) = true := decide_eq_true (by omega)
        have f2' : decide (m ≤ k) = true := decide_eq_true (by omega)
        have f2'' : decide ((m : Int) ≤ (k : Int)) = true := decide_eq_true (by omega)
        have HV : Hid (cmpL L M = 1) := Lib.hid (by
          have hdm : M.drop k = [] := List.drop_eq_nil_of_le (by rw [HH.out.2.2.2]; omega)
          rw [HI.out.2, HX.out, hdm]; rfl)
        go_wp2_with fail
        go_ret
        exact ⟨by rw [HV.out]; rfl, rfl⟩
    · have hkn' : k = n := by omega
      subst hkn'
      have f1 : decide ((k : Int) < (k : Int)) = false := decide_eq_false (by omega)
      have f1' : decide (k < k) = false := decide_eq_false (by omega)
      have hdl : L.drop k = [] := List.drop_eq_nil_of_le (by rw [HH.out.2.2.1]; exact Nat.le_refl _)
      by_cases hkm2 : k < m
      · have f2 : decide ((k : Int) < (m : Int)) = true := decide_eq_true (by omega)
        have f2' : decide (k < m) = true := decide_eq_true (by omega)
        have HV : Hid (cmpL L M = -1) := Lib.hid (by
          rw [HI.out.2, hdl, List.drop_eq_getElem_cons (by rw [HH.out.2.2.2]; exact hkm2)]; rfl)
        clear hdl
        go_wp2_with fail
        go_ret
        exact ⟨by rw [HV.out]; rfl, rfl⟩
      · have f2 : decide ((k : Int) < (m : Int)) = false := decide_eq_false (by omega)
        have f2' : decide (k < m) = false := decide_eq_false (by omega)
        have HV : Hid (cmpL L M = 0) := Lib.hid (by
          have hdm : M.drop k = [] := List.drop_eq_nil_of_le (by rw [HH.out.2.2.2]; omega)
          rw [HI.out.2, hdl, hdm]; rfl)
        clear hdl
        go_wp2_with fail
        go_ret
        exact ⟨by rw [HV.out]; rfl, rfl⟩
end Go.Proofs.YtihaheinkpmnnaaGreat

namespace Go.Proofs.YtihaheinkpmnnaaGreat
set_option maxRecDepth 200000
open Go.RowKit Go.Shelf
/-- An iterator that offers one thing after the other: J between two rounds, A where x is offered, Z where it has ended; b is what the state stands for, R how a round turns it. -/
def IterX {α β : Type} (vals : α → Array Value) (F : Fence) (P : Program) (gf : Nat) (la lb : Array Value) (J : β → World → Prop) (A : β → α → World → Prop) (Z : β → World → Prop) (R : β → α → β → Prop) (b0 : β) (w : World) : Prop :=
  ∀ (n l : Nat) (Ext X : World → Prop),
    (∀ b x W, A b x W → Ext W → YieldAt F (n - 1) P l (vals x) W fun e W' => (e = .returned (.bool true) ∧ ∃ b', R b x b' ∧ J b' W' ∧ Ext W') ∨ (e = .returned (.bool false) ∧ X W')) →
    J b0 w → Ext w → CallsIn F n P gf (la ++ #[.func (.yield l) #[] #[]] ++ lb) w fun e W' => (∃ v, e = .returned v) ∧ ((∃ b', Z b' W') ∧ Ext W' ∨ X W')
/-- How the body of a round is left: off its end, or by an exit. -/
def postX {β : Type} (J : β → World → Prop) (R : β → Prop) (X : Nat → World → Prop) (W : World) : Exit → Act → World → Prop
  | .normal, _, W' => KeepsOthers W W' ∧ ∃ b', R b' ∧ J b' W'
  | .exit id, _, W' => KeepsOthers W W' ∧ X id W'
  | _, _, _ => False
variable {F : Fence} {n : Nat} {P : Program}
theorem rangeX {α β : Type} {vals : α → Array Value} {g : Operand} {ps : Array Tmp} {assign body : Code} {Q : Exit → Act → World → Prop} {a : Act} {w : World} (hro : F.round = none) (h1 : 1 ≤ n)
    {gf : Nat} {la lb : Array Value} (hg : a.eval g = .func (.func gf) la lb) (hFg : F.fn gf) (eg : ∀ args w, (callFunc gf args).run P w = .ok (.enter gf args) w)
    (hps : ∀ x, (vals x).size = ps.size) {J : β → World → Prop} {A : β → α → World → Prop} {Z : β → World → Prop} {R : β → α → β → Prop} {b0 : β} (hseq : ∀ W, w.grownBy W none → IterX vals F P gf la lb J A Z R b0 W)
    (hJ : OwnFrom w.heap.size J) (hA : OwnFrom w.heap.size (fun (p : β × α) W => A p.1 p.2 W)) (hZ : OwnFrom w.heap.size Z) (X : Nat → World → Prop) (hX : OwnFrom w.heap.size X) (h0 : J b0 w)
    (hround : ∀ (l : Nat) (b : β) (x : α) (W : World), A b x W → assign.wpIn (F.inRound l) (n - 1 - 1) P
      (Exit.then (fun a' W' => W' = W ∧ ∀ W2, A b x W2 → body.wpIn (F.inRound l) (n - 1 - 1) P (postX J (R b x) X W2) a' W2) (fun _ _ _ => False)) { tmps := (ps.zip (vals x)).foldl (fun t (p, v) => t.setIfInBounds p v) a.tmps, defers := [] } W)
    (hdone : ∀ (D : Nat) (b : β) (W : World), w.heap.size ≤ D → Z b W → W.heap[D]? = some (.deferred (some [])) → Q .normal { a with defers := { target := .collected D, args := #[] } :: a.defers } W)
    (hstop : ∀ (D id : Nat) (W : World), w.heap.size ≤ D → X id W → W.heap[D]? = some (.deferred (some [])) → (Code.exit id).wpIn F n P Q { a with defers := { target := .collected D, args := #[] } :: a.defers } W) :
    (Code.rangeFunc g ps assign body).wpIn F n P Q a w := by
  refine wpIn_rangeFunc fun fn hfn => ?_
  rw [hro]
  obtain ⟨rec, hrec⟩ : ∃ rec : LoopState → Option Code → Loop, rec = fun st pe => { state := st, pending := pe, fn, tmps := a.tmps, params := ps, assign, body, defers := w.heap.size } := ⟨_, rfl⟩
  obtain ⟨W1, hW1⟩ : ∃ W1, (w.alloc (.deferred (some []))).alloc (.loop (rec .ready none)) = W1 := ⟨_, rfl⟩
  have hL1 : W1.heap[w.heap.size + 1]? = some (.loop (rec .ready none)) := by
    rw [← hW1]; have := World.alloc_heap_new (w.alloc (.deferred (some []))) (.loop (rec .ready none)); rwa [World.size_alloc] at this
  have hK1 : W1.heap[w.heap.size]? = some (.deferred (some [])) := by
    rw [← hW1]; exact (Below.heap_alloc _ _ _ (by simp)).trans (World.alloc_heap_new w _)
  have hI1 : J b0 W1 := by rw [← hW1]; exact hJ.alloc _ (hJ.alloc _ h0)
  have hg1 : w.grownBy W1 none := by rw [← hW1]; exact (World.grownBy_alloc w _ none).trans (World.grownBy_alloc _ _ none)
  refine ⟨w.heap.size + 1, [{ target := .collected w.heap.size, args := #[] }], W1, { target := .fn (.func gf) lb, args := la ++ #[.func (.yield (w.heap.size + 1)) #[] #[]] }, W1, gf,
    la ++ #[.func (.yield (w.heap.size + 1)) #[] #[]] ++ lb, W1, ?_, ?_, ?_, ?_, fun _ => h1, ?_⟩
  · rw [← hW1, hrec]; exact run_enterLoop_outer _ _ _ _ _
  · simp only [resolve, hg]
    simp [go_sem]
  · intro f' hf'; simp [Target.leads] at hf'; subst hf'; exact hFg
  · simp [invoke, go_sem, eg]
  · refine (hseq W1 hg1 (n - 1) (w.heap.size + 1)
      (fun W => W.heap[w.heap.size + 1]? = some (.loop (rec .ready none)) ∧ W.heap[w.heap.size]? = some (.deferred (some [])))
      (fun W => ∃ id, X id W ∧ W.heap[w.heap.size + 1]? = some (.loop (rec .done (some (.exit id)))) ∧ W.heap[w.heap.size]? = some (.deferred (some [])))
      ?_ hI1 ⟨hL1, hK1⟩).mono ?_
    · rintro b x W hi ⟨hl, hk⟩
      have hlt : w.heap.size + 1 < W.heap.size := (Array.getElem?_eq_some_iff.1 hl).1
      have hy := run_yield (P := P) (args := vals x) hl (by rw [hrec]; exact hps x)
      rw [hrec] at hy
      refine ⟨fn, _, assign, body, hy, roundIn_of_wpIn hfn ?_⟩
      refine wpIn_mono (hround _ b x W hi) ?_
      rintro e a1 W1' h1'
      cases e with
      | normal => ?_
      | _ => exact h1'.elim
      obtain ⟨rfl, hb⟩ := h1'
      refine ⟨_, run_beginRound hl (by rw [hrec]), ?_⟩
      have hl2 : (W1'.putObj (w.heap.size + 1) (.loop { rec .ready none with state := .busy })).heap[w.heap.size + 1]? = some (.loop { rec .ready none with state := .busy }) := World.putObj_heap_same hlt
      have hk2 : (W1'.putObj (w.heap.size + 1) (.loop { rec .ready none with state := .busy })).heap[w.heap.size]? = some (.deferred (some [])) := (World.putObj_heap_other (by omega)).trans hk
      refine wpIn_mono (hb _ (hA.putObj (s := (b, x)) _ hi (by omega) hl rfl)) ?_
      have fin : ∀ (jump : Option Code) (W3 : World), KeepsOthers (W1'.putObj (w.heap.size + 1) (.loop { rec .ready none with state := .busy })) W3 →
          (Instr.endRound (w.heap.size + 1) jump).run P W3 = .ok (.bool jump.isNone) (W3.putObj (w.heap.size + 1) (.loop (rec (if jump.isNone then .ready else .done) jump))) ∧
          W3.heap[w.heap.size + 1]? = some (.loop { rec .ready none with state := .busy }) ∧
          (W3.putObj (w.heap.size + 1) (.loop (rec (if jump.isNone then .ready else .done) jump))).heap[w.heap.size + 1]? = some (.loop (rec (if jump.isNone then .ready else .done) jump)) ∧
          (W3.putObj (w.heap.size + 1) (.loop (rec (if jump.isNone then .ready else .done) jump))).heap[w.heap.size]? = some (.deferred (some [])) := fun jump W3 hk3 => by
        have hl3 := hk3.same _ _ hl2 rfl
        have := run_endRound (P := P) jump hl3
        rw [hrec] at this ⊢
        exact ⟨this, by rw [hrec] at hl3; exact hl3, World.putObj_heap_same (Array.getElem?_eq_some_iff.1 hl3).1, (World.putObj_heap_other (by omega)).trans (hk3.same _ _ hk2 rfl)⟩
      rintro e a3 W3 hp
      cases e with
      | normal =>
        obtain ⟨hk3, b', hlt', hi3⟩ := hp
        obtain ⟨hr, hl3, hl4, hk4⟩ := fin none W3 hk3
        exact ⟨_, _, hr, .inl ⟨rfl, b', hlt', hJ.putObj _ hi3 (by omega) hl3 rfl, hl4, hk4⟩⟩
      | exit id =>
        obtain ⟨hk3, hi3⟩ := hp
        obtain ⟨hr, hl3, hl4, hk4⟩ := fin (some (.exit id)) W3 hk3
        exact ⟨_, _, hr, .inr ⟨rfl, id, hX.putObj _ hi3 (by omega) hl3 rfl, hl4, hk4⟩⟩
      | _ => exact hp.elim
    · rintro e W2 ⟨⟨v, rfl⟩, (⟨⟨b', hz⟩, hl, hk⟩ | ⟨id, hi, hl, hk⟩)⟩
      · exact ⟨none, _, by have := run_endLoop (P := P) hl (by rw [hrec]; simp); rw [hrec] at this; exact this, hdone _ b' _ (Nat.le_refl _) (hZ.putObj _ hz (by omega) hl rfl) ((World.putObj_heap_other (by omega)).trans hk)⟩
      · exact ⟨some (.exit id), _, by have := run_endLoop (P := P) hl (by rw [hrec]; simp); rw [hrec] at this; exact this, hstop _ id _ (Nat.le_refl _) (hX.putObj _ hi (by omega) hl rfl) ((World.putObj_heap_other (by omega)).trans hk)⟩
end Go.Proofs.YtihaheinkpmnnaaGreat

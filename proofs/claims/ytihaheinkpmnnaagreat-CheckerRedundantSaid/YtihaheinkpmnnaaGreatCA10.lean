/- Texts of the proof: C0 C1 S1. -/
import Derived.Test.YtihaheinkpmnnaaGreatCA01
import Derived.RangeFuncNested
import Derived.RangeFuncLeaves
import Derived.RangeFuncBound
import Derived.RangeFuncOwn
import Derived.RangeFuncFrom
import Derived.Shelf.Abstract
import Derived.Shelf.RegionOpen
import Derived.Sort.LoopGhostIn
import Derived.TacticsInMore
import Derived.LoopNIn
import Derived.LoopIn
import Derived.OwnWalkIn
import Derived.RegionIn
import Derived.Test.YtihaheinkpmnnaaGreatCA05
import Derived.Test.YtihaheinkpmnnaaGreatCA07
import Derived.Test.YtihaheinkpmnnaaGreatCA00
import Derived.Maps.OwnSet
import Derived.Maps.OwnIn
import Derived.Maps.Views
namespace Go.Proofs.YtihaheinkpmnnaaGreat
set_option maxRecDepth 200000
open Go.RowKit Go.Shelf
/-- The blocks below B, and what is no cells, lie as they lay. -/
def Kp (B : Nat) (W W' : World) : Prop := (W'.os = W.os ∧ W'.tape = W.tape ∧ W'.output = W.output) ∧ W.heap.size ≤ W'.heap.size ∧ ∀ k, k < W.heap.size → (k < B ∨ ∃ o : Obj, W.heap[k]? = some o ∧ o.isCells = false) → W'.heap[k]? = W.heap[k]?
theorem Kp.others {B : Nat} {W W' : World} (h : Kp B W W') : KeepsOthers W W' := ⟨h.2.1, fun k o hk ho => (h.2.2 k (Array.getElem?_eq_some_iff.1 hk).1 (.inr ⟨o, hk, ho⟩)).trans hk⟩
/-- An iterator that offers one thing after the other: J between two rounds, A where x is offered, Z where it has ended; b is what the state stands for, falling by μ. -/
def IterN {α β : Type} (vals : α → Array Value) (F : Fence) (P : Program) (gf : Nat) (la lb : Array Value) (B : Nat) (J : β → World → Prop) (A : β → α → World → Prop) (Z : β → World → Prop) (μ : β → Nat) (w : World) : Prop :=
  ∀ (n l : Nat) (Ext X : World → Prop), (∀ W W', Ext W → Kp B W W' → Ext W') →
    (∀ b x W, A b x W → Ext W → YieldAt F (n - 1) P l (vals x) W fun e W' => (e = .returned (.bool true) ∧ ∃ b', μ b' < μ b ∧ J b' W' ∧ Ext W') ∨ (e = .returned (.bool false) ∧ X W')) →
    ∀ b, J b w → Ext w → CallsIn F n P gf (la ++ #[.func (.yield l) #[] #[]] ++ lb) w fun e W' => (∃ v, e = .returned v) ∧ ((∃ b', Z b' W') ∧ Ext W' ∨ X W')
/-- How the body of a round is left: off its end, or by an exit. -/
def postN {β : Type} (J : β → World → Prop) (μ : β → Nat) (b : β) (X : Nat → World → Prop) (W : World) : Exit → Act → World → Prop
  | .normal, _, W' => KeepsOthers W W' ∧ ∃ b', μ b' < μ b ∧ J b' W'
  | .exit id, _, W' => KeepsOthers W W' ∧ X id W'
  | _, _, _ => False
variable {F : Fence} {n : Nat} {P : Program}
theorem rangeN {α β : Type} {vals : α → Array Value} {g : Operand} {ps : Array Tmp} {assign body : Code} {Q : Exit → Act → World → Prop} {a : Act} {w : World} (hro : F.round = none) (h1 : 1 ≤ n)
    {gf : Nat} {la lb : Array Value} (hg : a.eval g = .func (.func gf) la lb) (hFg : F.fn gf) (eg : ∀ args w, (callFunc gf args).run P w = .ok (.enter gf args) w)
    (hps : ∀ x, (vals x).size = ps.size) {B : Nat} {J : β → World → Prop} {A : β → α → World → Prop} {Z : β → World → Prop} {μ : β → Nat} (hseq : ∀ W, w.grownBy W none → IterN vals F P gf la lb B J A Z μ W)
    (hJ : OwnFrom w.heap.size J) (hA : OwnFrom w.heap.size (fun (p : β × α) W => A p.1 p.2 W)) (hZ : OwnFrom w.heap.size Z) (X : Nat → World → Prop) (hX : OwnFrom w.heap.size X) {b0 : β} (h0 : J b0 w)
    (hround : ∀ (l : Nat) (b : β) (x : α) (W : World), A b x W → assign.wpIn (F.inRound l) (n - 1 - 1) P
      (Exit.then (fun a' W' => W' = W ∧ ∀ W2, A b x W2 → body.wpIn (F.inRound l) (n - 1 - 1) P (postN J μ b X W2) a' W2) (fun _ _ _ => False)) { tmps := (ps.zip (vals x)).foldl (fun t (p, v) => t.setIfInBounds p v) a.tmps, defers := [] } W)
    (hdone : ∀ (D : Nat) (b : β) (W : World), w.heap.size ≤ D → Z b W → W.heap[D]? = some (.deferred (some [])) → Q .normal { a with defers := { target := .collected D, args := #[] } :: a.defers } W)
    (hstop : ∀ (D id : Nat) (W : World), w.heap.size ≤ D → X id W → W.heap[D]? = some (.deferred (some [])) → (Code.exit id).wpIn F n P Q { a with defers := { target := .collected D, args := #[] } :: a.defers } W) :
    (Code.rangeFunc g ps assign body).wpIn F n P Q a w := by
  refine wpIn_rangeFunc fun fn hfn => ?_
  rw [hro]
  obtain ⟨rec, hrec⟩ : ∃ rec : LoopState → Option Code → Loop, rec = fun st pe => { state := st, pending := pe, fn, tmps := a.tmps, params := ps, assign, body, defers := w.heap.size } := ⟨_, rfl⟩
  obtain ⟨W1, hW1⟩ : ∃ W1, (w.alloc (.deferred (some []))).alloc (.loop (rec .ready none)) = W1 := ⟨_, rfl⟩
  have hL1 : W1.heap[w.heap.size + 1]? = some (.loop (rec .ready none)) := by
    rw [← hW1]; have := World.alloc_heap_new (w.alloc (.deferred (some []))) (.loop (rec .ready none)); rwa [World.size_alloc] at this
  have hK1 : W1.heap[w.heap.size]? = some (.deferred (some [])) := by
    rw [← hW1]; exact (Below.heap_alloc _ _ _ (by simp)).trans (World.alloc_heap_new w _)
  have hI1 : J b0 W1 := by rw [← hW1]; exact hJ.alloc _ (hJ.alloc _ h0)
  have hg1 : w.grownBy W1 none := by rw [← hW1]; exact (World.grownBy_alloc w _ none).trans (World.grownBy_alloc _ _ none)
  refine ⟨w.heap.size + 1, [{ target := .collected w.heap.size, args := #[] }], W1, { target := .fn (.func gf) lb, args := la ++ #[.func (.yield (w.heap.size + 1)) #[] #[]] }, W1, gf,
    la ++ #[.func (.yield (w.heap.size + 1)) #[] #[]] ++ lb, W1, ?_, ?_, ?_, ?_, fun _ => h1, ?_⟩
  · rw [← hW1, hrec]; exact run_enterLoop_outer _ _ _ _ _
  · simp only [resolve, hg]
    simp [go_sem]
  · intro f' hf'; simp [Target.leads] at hf'; subst hf'; exact hFg
  · simp [invoke, go_sem, eg]
  · refine (hseq W1 hg1 (n - 1) (w.heap.size + 1)
      (fun W => W.heap[w.heap.size + 1]? = some (.loop (rec .ready none)) ∧ W.heap[w.heap.size]? = some (.deferred (some [])))
      (fun W => ∃ id, X id W ∧ W.heap[w.heap.size + 1]? = some (.loop (rec .done (some (.exit id)))) ∧ W.heap[w.heap.size]? = some (.deferred (some [])))
      (fun W W' he hk => ⟨hk.others.same _ _ he.1 rfl, hk.others.same _ _ he.2 rfl⟩) ?_ b0 hI1 ⟨hL1, hK1⟩).mono ?_
    · rintro b x W hi ⟨hl, hk⟩
      have hlt : w.heap.size + 1 < W.heap.size := (Array.getElem?_eq_some_iff.1 hl).1
      have hy := run_yield (P := P) (args := vals x) hl (by rw [hrec]; exact hps x)
      rw [hrec] at hy
      refine ⟨fn, _, assign, body, hy, roundIn_of_wpIn hfn ?_⟩
      refine wpIn_mono (hround _ b x W hi) ?_
      rintro e a1 W1' h1'
      cases e with
      | normal => ?_
      | _ => exact h1'.elim
      obtain ⟨rfl, hb⟩ := h1'
      refine ⟨_, run_beginRound hl (by rw [hrec]), ?_⟩
      have hl2 : (W1'.putObj (w.heap.size + 1) (.loop { rec .ready none with state := .busy })).heap[w.heap.size + 1]? = some (.loop { rec .ready none with state := .busy }) := World.putObj_heap_same hlt
      have hk2 : (W1'.putObj (w.heap.size + 1) (.loop { rec .ready none with state := .busy })).heap[w.heap.size]? = some (.deferred (some [])) := (World.putObj_heap_other (by omega)).trans hk
      refine wpIn_mono (hb _ (hA.putObj (s := (b, x)) _ hi (by omega) hl rfl)) ?_
      have fin : ∀ (jump : Option Code) (W3 : World), KeepsOthers (W1'.putObj (w.heap.size + 1) (.loop { rec .ready none with state := .busy })) W3 →
          (Instr.endRound (w.heap.size + 1) jump).run P W3 = .ok (.bool jump.isNone) (W3.putObj (w.heap.size + 1) (.loop (rec (if jump.isNone then .ready else .done) jump))) ∧
          W3.heap[w.heap.size + 1]? = some (.loop { rec .ready none with state := .busy }) ∧
          (W3.putObj (w.heap.size + 1) (.loop (rec (if jump.isNone then .ready else .done) jump))).heap[w.heap.size + 1]? = some (.loop (rec (if jump.isNone then .ready else .done) jump)) ∧
          (W3.putObj (w.heap.size + 1) (.loop (rec (if jump.isNone then .ready else .done) jump))).heap[w.heap.size]? = some (.deferred (some [])) := fun jump W3 hk3 => by
        have hl3 := hk3.same _ _ hl2 rfl
        have := run_endRound (P := P) jump hl3
        rw [hrec] at this ⊢
        exact ⟨this, by rw [hrec] at hl3; exact hl3, World.putObj_heap_same (Array.getElem?_eq_some_iff.1 hl3).1, (World.putObj_heap_other (by omega)).trans (hk3.same _ _ hk2 rfl)⟩
      rintro e a3 W3 hp
      cases e with
      | normal =>
        obtain ⟨hk3, b', hlt', hi3⟩ := hp
        obtain ⟨hr, hl3, hl4, hk4⟩ := fin none W3 hk3
        exact ⟨_, _, hr, .inl ⟨rfl, b', hlt', hJ.putObj _ hi3 (by omega) hl3 rfl, hl4, hk4⟩⟩
      | exit id =>
        obtain ⟨hk3, hi3⟩ := hp
        obtain ⟨hr, hl3, hl4, hk4⟩ := fin (some (.exit id)) W3 hk3
        exact ⟨_, _, hr, .inr ⟨rfl, id, hX.putObj _ hi3 (by omega) hl3 rfl, hl4, hk4⟩⟩
      | _ => exact hp.elim
    · rintro e W2 ⟨⟨v, rfl⟩, (⟨⟨b', hz⟩, hl, hk⟩ | ⟨id, hi, hl, hk⟩)⟩
      · exact ⟨none, _, by have := run_endLoop (P := P) hl (by rw [hrec]; simp); rw [hrec] at this; exact this, hdone _ b' _ (Nat.le_refl _) (hZ.putObj _ hz (by omega) hl rfl) ((World.putObj_heap_other (by omega)).trans hk)⟩
      · exact ⟨some (.exit id), _, by have := run_endLoop (P := P) hl (by rw [hrec]; simp); rw [hrec] at this; exact this, hstop _ id _ (Nat.le_refl _) (hX.putObj _ hi (by omega) hl rfl) ((World.putObj_heap_other (by omega)).trans hk)⟩
end Go.Proofs.YtihaheinkpmnnaaGreat

namespace Go.Proofs.YtihaheinkpmnnaaGreat
set_option maxRecDepth 200000
open Go.RowKit Go.Shelf
attribute [local go_sem] Oper.semAt_some
theorem kp_off {K : PK} {W W' : World} {vs : List Int} {ns kf : Int} {R : Nat → Rw} (h : PW K W vs ns kf R) (ho : Off (PM K R) W W') : Kp K.B W W' := by
  refine ⟨⟨ho.os, ho.tape, ho.output⟩, ho.size, fun k hk hc => ho.block k hk fun hM => ?_⟩
  obtain ⟨h1, h2, h3⟩ := h.below k hM
  rcases hc with hc | ⟨o, ho, hc⟩
  · omega
  · rw [h3 o ho] at hc; cases hc
/-- What the loop is in the midst of: trail, reasons, how many steps are left at most. -/
abbrev Gh := List Int × List Int × Nat
structure JC (K : PK) (C : List (List Int)) (ns : Int) (RES : List Int × List Int × Int) (Base : World → Prop) (rest : List Nat) (b : Gh) (W : World) : Prop where
  ps : ∃ R, PSr K C W b.1 rest ns (-1) R ∧ (R 1).l = b.2.1
  run : prop C b.2.2 b.1 b.2.1 = RES
  fuel : free K.V b.1 < b.2.2
  base : Base W
def ciV (i : Nat) : Array Value := #[.int .i64 (i : Int)]
def JA (K : PK) (C : List (List Int)) (ns : Int) (RES : List Int × List Int × Int) (Base : World → Prop) (b : Gh) (i : Nat) (W : World) : Prop := JC K C ns RES Base [i] b W ∧ C.findIdx? (hot b.1) = some i
def JZ (K : PK) (C : List (List Int)) (ns : Int) (RES : List Int × List Int × Int) (Base : World → Prop) (b : Gh) (W : World) : Prop := JC K C ns RES Base [] b W ∧ RES = (b.1, b.2.1, -1)
theorem prop_none {C : List (List Int)} {m : Nat} {tr rs : List Int} (h : C.findIdx? (hot tr) = none) (hm : 0 < m) : prop C m tr rs = (tr, rs, -1) := by
  obtain ⟨k, rfl⟩ : ∃ k, m = k + 1 := ⟨m - 1, by omega⟩
  unfold prop; rw [h]
set_option maxHeartbeats 16000000 in
set_option maxRecDepth 100000 in
theorem cand_gives {K : PK} {C : List (List Int)} {ns : Int} {RES : List Int × List Int × Int} {Base : World → Prop} (hBase : ∀ W W', Base W → Kp K.B W W' → Base W') (hV : K.V ≤ 400) (hC : C.length ≤ 1000) (w : World) :
    IterN ciV Fence.wide Tryz.prog 108 #[.pointer (some ⟨K.p, 0, none⟩)] #[] K.B (JC K C ns RES Base []) (JA K C ns RES Base) (JZ K C ns RES Base) (fun b => b.2.2) w := by
  intro nn l Ext X hExt hY b hj hext
  have HY := Lib.hid (And.intro hExt (And.intro hY hBase))
  have HJ0 := Lib.hid (And.intro hj hext)
  clear hExt hY hj hext hBase
  refine callsIn_of_wp Tryz.func108 rfl trivial ?_ rfl
  simp only [Tryz.ntmps108, List.size_toArray, List.length_cons, List.length_nil, Nat.reduceAdd, Nat.reduceSub, Array.replicate_succ, Array.replicate_zero, List.push_toArray, List.append_toArray, List.nil_append, List.cons_append]
  gi_wp2_with fail
  gi_loopg [4, 5] (b.2.2 * 500000 + 500000) (fun gk _s4 _s5 wr => ∃ (b : Gh) (R : Nat → Rw), (R 6).l.length < 500000 ∧ b.2.2 * 500000 + (R 6).l.length ≤ gk ∧ PSr K C wr b.1 [] ns (-1) R ∧ (R 1).l = b.2.1 ∧ prop C b.2.2 b.1 b.2.1 = RES ∧ free K.V b.1 < b.2.2 ∧ Base wr ∧ Ext wr)
  case atStart =>
    obtain ⟨R, hps, hrs⟩ := HJ0.out.1.ps
    have hq : (R 6).l.length < 500000 := by
      have h1 := hps.ql
      have h2 := hps.free
      have h3 : C.length * (1 + b.1.length) ≤ 1000 * 402 := Nat.mul_le_mul hC (by omega)
      omega
    exact ⟨b, R, hq, by omega, hps, hrs, HJ0.out.1.run, HJ0.out.1.fuel, HJ0.out.1.base, HJ0.out.2⟩
  case round =>
    obtain ⟨b, R, hq, hgk, hps, hrs, hrun, hfuel, hbase, hext⟩ := hrel
    obtain ⟨wo, hwo⟩ : ∃ z, z = wr := ⟨_, rfl⟩
    rw [← hwo] at hps hbase hext ⊢
    clear hwo
    have HI := Lib.hid (And.intro hq (And.intro hgk (And.intro hps (And.intro hrs (And.intro hrun (And.intro hfuel (And.intro hbase hext)))))))
    clear hgk hrs hrun hfuel hbase hext
    obtain ⟨N, hN⟩ : ∃ N, (R 6).l.length = N := ⟨_, rfl⟩
    have q11 := hps.pw.f11
    rw [Rw.val, hN] at q11
    rcases Nat.eq_zero_or_pos N with hN0 | hN0
    · subst hN0
      have hnil : (R 6).l = [] := List.eq_nil_of_length_eq_zero hN
      have HZ : Hid (∃ b', JZ K C ns RES Base b' wo) := Lib.hid ⟨b, ⟨⟨R, hps, HI.out.2.2.2.1⟩, HI.out.2.2.2.2.1, HI.out.2.2.2.2.2.1, HI.out.2.2.2.2.2.2.1⟩, by
        have hqn := hps.q
        rw [hnil] at hqn
        rw [← HI.out.2.2.2.2.1, prop_none hqn.none (by have := HI.out.2.2.2.2.2.1; omega)]⟩
      clear hps hN hnil
      gi_wp2_with fail
      go_end0
      exact ⟨⟨_, rfl⟩, .inl ⟨HZ.out, HI.out.2.2.2.2.2.2.2⟩⟩
    · obtain ⟨n, rfl⟩ : ∃ n, N = n + 1 := ⟨N - 1, by omega⟩
      obtain ⟨g, ha, _, _, _⟩ := irow_head (hps.pw.rows 6 (by omega)) (by rw [hN]; omega)
      have hg1 : decide (0 < n + 1) = true := decide_eq_true (by omega)
      have hg2 : decide ((0 : Int) < (n : Int) + 1) = true := decide_eq_true (by omega)
      have hrow := hps.pw.rows 6 (by omega)
      rw [ha] at q11 hrow
      have hb6 : (R 6).blk = some g := by unfold Rw.blk; simp only [Rw.val, ha, Value.ownBlock]
      have HPOP := Lib.hid (hpop_calls K.B K.p 11 g (R 6).c n (R 6).l wo hN q11 (hps.pw.fr 11) hrow (by omega) (fun e => hps.pw.offp 6 (by omega) (by rw [hb6, e])) (by have := hps.q.heap; rwa [hN] at this))
      obtain ⟨i, hi0, hiC, hcase⟩ : ∃ i : Nat, at_ (R 6).l 0 = (i : Int) ∧ i < C.length ∧ ∀ hp', (R 6).l.Perm (at_ (R 6).l 0 :: hp') → Heap hp'.length hp' → (hot b.1 (C.getD i []) = true ∧ C.findIdx? (hot b.1) = some i ∧ QOk C b.1 [i] hp') ∨ (hot b.1 (C.getD i []) = false ∧ satN b.1 (C.getD i []) ≠ 0 ∧ QOk C b.1 [] hp') := by
        have hm0 : at_ (R 6).l 0 ∈ (R 6).l := List.mem_of_getElem? (at_some (by omega))
        obtain ⟨i, e, hi, _⟩ := hps.q.num _ hm0
        refine ⟨i, e, hi, fun hp' hper hh => ?_⟩
        obtain ⟨i', e', hi', hc⟩ := hps.q.pop (by omega) hper hh
        have : i' = i := by rw [e] at e'; omega
        subst this
        exact hc
      rw [hi0] at HPOP
      have HCASE := Lib.hid (And.intro hiC (And.intro hcase hi0))
      have hta := assert_int (i : Int)
      have HB6 := Lib.hid (And.intro hb6 ha)
      clear hps hcase hrow hb6 ha
      gi_wp2_with fail
      refine ⟨trivial, fun h => (by cases h), (callsIn_wide.2 HPOP.out).mono ?_⟩
      rintro e w1 ⟨rfl, hp', hper, hlen', hheap, hrow', hqf⟩
      clear HPOP q11
      have hval : (⟨some ⟨g, 0, none⟩, (R 6).c, hp'⟩ : Rw).val = .slice (some ⟨g, 0, none⟩) n (R 6).c := by simp only [Rw.val, hlen']
      have hblk : (⟨some ⟨g, 0, none⟩, (R 6).c, hp'⟩ : Rw).blk = (R 6).blk := by rw [HB6.out.1]; unfold Rw.blk; simp only [Value.ownBlock]
      have hoff : Off (fun k => k = K.p ∨ (R 6).blk = some k) wo w1 := by rw [HB6.out.1]; exact hqf.off
      have hpw1 := HI.out.2.2.1.pw.turn (i := 6) (by omega) ⟨some ⟨g, 0, none⟩, (R 6).c, hp'⟩ hoff (by rw [hval]; exact hqf.blk) hrow' (.inl hblk)
      have hoff2 : Off (PM K R) wo w1 := hoff.mono (fun k _ hk => hk.elim (fun e => .inl e) (fun e => .inr (.inr ⟨6, by omega, e⟩)))
      have hkp := kp_off HI.out.2.2.1.pw hoff2
      obtain ⟨R', hR'⟩ : ∃ z, upd R 6 ⟨some ⟨g, 0, none⟩, (R 6).c, hp'⟩ = z := ⟨_, rfl⟩
      rw [hR'] at hpw1
      have HR' : Hid ((∀ j, j ≠ 6 → R' j = R j) ∧ (R' 6).l = hp') := Lib.hid ⟨fun j hj => by rw [← hR', upd_other hj], by rw [← hR', upd_same]⟩
      have HBE := Lib.hid (And.intro (HY.out.2.2 _ _ HI.out.2.2.2.2.2.2.1 hkp) (HY.out.1 _ _ HI.out.2.2.2.2.2.2.2 hkp))
      have hpsr : ∀ rest, QOk C b.1 rest hp' → PSr K C w1 b.1 rest ns (-1) R' := fun rest hqq => by
        have h0 := HI.out.2.2.1
        exact ⟨hpw1, by rw [HR'.out.1 0 (by decide)]; exact h0.t, by rw [HR'.out.1 2 (by decide)]; exact h0.s, by rw [HR'.out.1 3 (by decide)]; exact h0.o, by rw [HR'.out.1 4 (by decide), HR'.out.1 5 (by decide)]; exact h0.occ, by rw [HR'.out.1 5 (by decide)]; exact h0.cl, by rw [HR'.out.2]; exact hqq, by rw [HR'.out.2, hlen']; have := h0.ql; omega, h0.cons, h0.free⟩
      have HPSR := Lib.hid hpsr
      have HRS : Hid ((R' 1).l = b.2.1) := Lib.hid (by rw [HR'.out.1 1 (by decide)]; exact HI.out.2.2.2.1)
      have hcs := HCASE.out.2.1 hp' (by rw [HCASE.out.2.2]; exact hper) (by rw [hlen']; exact hheap)
      obtain ⟨g2, ha2, hv2, _, hr2⟩ := hpw1.row (i := 2) (by omega) (n := C.length) (by rw [HR'.out.1 2 (by decide), HI.out.2.2.1.s]; simp [satsP]) (by have := HCASE.out.1; omega)
      have q7 := hpw1.f7
      rw [hv2] at q7
      have c2 := irow_cell hr2 (i := i) (by rw [HR'.out.1 2 (by decide), HI.out.2.2.1.s]; simp [satsP]; exact HCASE.out.1)
      have hs2 : at_ (R' 2).l i = (satN b.1 (C.getD i []) : Int) := by rw [HR'.out.1 2 (by decide), HI.out.2.2.1.s]; unfold at_ satsP; rw [getD_map HCASE.out.1]
      obtain ⟨s, hs⟩ : ∃ z : Nat, satN b.1 (C.getD i []) = z := ⟨_, rfl⟩
      rw [hs2, hs] at c2
      obtain ⟨cn, hcn⟩ : ∃ z, C.length = z := ⟨_, rfl⟩
      rw [hcn] at q7
      have i1 : (i : Int) < (cn : Int) := by have := HCASE.out.1; omega
      have HS := Lib.hid hs
      have HLE := Lib.hid hlen'
      clear hper hheap hrow' hqf hval hblk hoff hpw1 hoff2 hkp hR' hpsr hr2 hs2 hs hlen' hv2 ha2 hcn
      rcases hcs with ⟨hhot, hfi, hqo⟩ | ⟨hhot, hsn, hqo⟩
      · have hs0 : s = 0 := by
          have h1 := hhot
          unfold hot at h1
          simp only [Bool.and_eq_true, beq_iff_eq] at h1
          rw [← HS.out]; exact h1.1
        subst hs0
        have t1 : (((0 : Nat) : Int) == 0) = true := rfl
        have hJA : JA K C ns RES Base b i w1 := ⟨⟨⟨R', HPSR.out [i] hqo, HRS.out⟩, HI.out.2.2.2.2.1, HI.out.2.2.2.2.2.1, HBE.out.1⟩, hfi⟩
        obtain ⟨fn, tmps, assign, body, hy, hRI⟩ := HY.out.2.1 b i w1 hJA HBE.out.2
        simp only [ciV] at hy
        have HRI := Lib.hid hRI
        clear hRI hJA hhot hfi hqo
        gi_wp2_with fail
        clear hy q7 c2
        refine ⟨fun h => (by cases h), ?_⟩
        refine HRI.out.mono ?_
        rintro e W3 (⟨rfl, b', hb', hj', he'⟩ | ⟨rfl, hx⟩)
        · obtain ⟨R3, hps3, hrs3⟩ := hj'.ps
          have hq3 : (R3 6).l.length < 500000 := by
            have h1 := hps3.ql
            have h2 := hps3.free
            have h3 : C.length * (1 + b'.1.length) ≤ 1000 * 402 := Nat.mul_le_mul hC (by omega)
            omega
          have HN3 := Lib.hid (And.intro hps3 (And.intro hrs3 (And.intro hj' he')))
          have hmu : b'.2.2 * 500000 + (R3 6).l.length < gk := by
            have h1 := HI.out.2.1
            have h2 : (b'.2.2 + 1) * 500000 ≤ b.2.2 * 500000 := Nat.mul_le_mul hb' (Nat.le_refl _)
            omega
          clear hj' he' hps3 hrs3
          gi_wp2_with fail
          gi_roundg (b'.2.2 * 500000 + (R3 6).l.length)
          case measure => exact hmu
          case rel => exact ⟨b', R3, hq3, Nat.le_refl _, HN3.out.1, HN3.out.2.1, HN3.out.2.2.1.run, HN3.out.2.2.1.fuel, HN3.out.2.2.1.base, HN3.out.2.2.2⟩
        · gi_wp2_with fail
          first
          | (refine bodyPost_ret (results_none rfl _ _ _) rfl ?_; exact ⟨⟨_, rfl⟩, .inr hx⟩)
          | trace_state
      · have hs0 : ((s : Int) == 0) = false := by rw [beq_eq_false_iff_ne]; have := HS.out; omega
        have hs1 : (s == 0) = false := by rw [beq_eq_false_iff_ne]; have := HS.out; omega
        have HP := Lib.hid (HPSR.out [] hqo)
        clear hhot hsn hqo
        gi_wp2_with fail
        clear q7 c2
        refine ⟨fun _ h => (by cases h), ?_⟩
        gi_wp2_with fail
        gi_roundg (b.2.2 * 500000 + n)
        case measure => have h1 := HI.out.2.1; omega
        case rel => exact ⟨b, R', by rw [HR'.out.2, HLE.out]; omega, by rw [HR'.out.2, HLE.out]; exact Nat.le_refl _, HP.out, HRS.out, HI.out.2.2.2.2.1, HI.out.2.2.2.2.2.1, HBE.out.1, HBE.out.2⟩
end Go.Proofs.YtihaheinkpmnnaaGreat

namespace Go.Proofs.YtihaheinkpmnnaaGreat
set_option maxRecDepth 200000
open Go.RowKit Go.Maps
def SetM (w : World) (b : Nat) (S : List Int) : Prop :=
  w.ownsMap (H := Unit) Tryz.prog 3 (plainElem Tryz.prog 4) b S.length (Maps.setOf (.lit (.bool true)) (S.map (Lit.int .i64))) ∧ ∀ x ∈ S, (Lit.int .i64 x).wf = true

theorem SetM.grown {w w' : World} {b : Nat} {S : List Int} {r : Option Nat} (h : SetM w b S) (hg : w.grownBy w' r) (hr : some b ≠ r) : SetM w' b S := ⟨h.1.kept hg hr, h.2⟩
theorem SetM.lt {w : World} {b : Nat} {S : List Int} (h : SetM w b S) : b < w.heap.size := h.1.lt
theorem SetM.new (w : World) : SetM (w.alloc (.map #[] 0)) w.heap.size [] := ⟨World.ownsMap_made w _ _ _, fun x hx => by cases hx⟩
theorem isKey_ints (S : List Int) : ∀ x ∈ S.map (Lit.int .i64), Go.WideAt.IsKeyLit x := fun x hx => by
  obtain ⟨y, _, rfl⟩ := List.mem_map.1 hx
  trivial

theorem atKey_setOf (u z : DataW Unit) (k : Int) : ∀ S : List Int, (Maps.setOf u (S.map (Lit.int .i64))).atKey (.int .i64 k) z = if k ∈ S then u else z := by
  intro S
  rw [← List.reverse_reverse S]
  generalize S.reverse = R
  induction R with
  | nil => simp [Maps.setOf, DataW.atKey]
  | cons x R ih =>
    rw [List.reverse_cons, List.map_append, List.map_singleton, Maps.setOf_snoc]
    by_cases hx : k = x
    · subst hx
      rw [Maps.atKey_put_same ((Maps.tidy_setOf u _ (isKey_ints _)).isMap) (by trivial : Go.WideAt.IsKeyLit (.int .i64 k))]
      simp
    · rw [Maps.atKey_put_other (by simpa using hx), ih]
      simp [hx]

theorem wf64 {k : Int} (h0 : -9223372036854775808 ≤ k) (h1 : k ≤ 9223372036854775807) : (Lit.int .i64 k).wf = true := WalkArith.wf_i64 (by omega)

set_option maxRecDepth 100000 in
theorem plainElem_bool_inv {v : Value} {z : DataW Unit × List MemPlace} (h : plainElem Tryz.prog 4 v = some z) : ∃ b, v = .bool b ∧ z = (.lit (.bool b), []) := by
  unfold plainElem at h
  rw [Tryz.underlying4] at h
  cases v <;> simp at h
  exact ⟨_, rfl, h.symm⟩

theorem zero4 (w : World) : (zeroValue 4).run Tryz.prog w = .ok (.bool false) w := by kernel_rfl

/-- The look-up. -/
theorem SetM.look {w : World} {b : Nat} {S : List Int} (h : SetM w b S) {k : Int} (hk : (Lit.int .i64 k).wf = true) : (Instr.lookup 50 (.map (some b)) (.int .i64 k) false).run Tryz.prog w = .ok (.bool (decide (k ∈ S))) w := by
  obtain ⟨v, ps, hr, hv⟩ := h.1.lookup (Maps.int_keyed Tryz.underlying3) Tryz.underlying50 (zero4 w) (plainElem_bool Tryz.underlying4 false) (Maps.keyOf_int_mk Tryz.underlying3 hk)
  rw [atKey_setOf] at hv
  obtain ⟨x, rfl, hx⟩ := plainElem_bool_inv hv
  rw [hr]
  by_cases hm : k ∈ S
  · rw [if_pos hm] at hx
    simp at hx
    simp [hm, hx.1]
  · rw [if_neg hm] at hx
    simp at hx
    simp [hm, hx.1]

/-- The store. -/
theorem SetM.store {w : World} {b : Nat} {S : List Int} (h : SetM w b S) (hl : S.length ≤ 1000000) {k : Int} (hk : (Lit.int .i64 k).wf = true) :
    ∃ w', (Instr.mapUpdate 50 (.map (some b)) (.int .i64 k) (.bool true)).run Tryz.prog w = .ok () w' ∧ SetM w' b (S ++ [k]) ∧ w.grownBy w' (some b) := by
  obtain ⟨w', hr, ho, ht⟩ := h.1.store (Maps.int_keyed Tryz.underlying3) Tryz.underlying50 (by unfold maxLen; omega) (Maps.keyOf_int_mk Tryz.underlying3 hk) (plainElem_bool Tryz.underlying4 true)
  refine ⟨w', hr, ⟨?_, ?_⟩, ht.grown⟩
  · rw [List.map_append, List.map_singleton, Maps.setOf_snoc, List.length_append]
    exact ho
  · intro x hx
    rcases List.mem_append.1 hx with hx | hx
    · exact h.2 x hx
    · rw [List.mem_singleton.1 hx]; exact hk

/-- The store, elsewhere. -/
theorem wpList_setM {ops : Array Oper} {rest : List Oper} {o : Oper} {a : Act} {Q : Exit → Act → World → Prop} {w : World} (hg : o.guard = none) (m x : Operand) (hop : o.op = Op.mapUpdate 50 m x (.const (.bool true)))
    (b : Nat) (S : List Int) (hm : a.eval m = .map (some b)) (hown : SetM w b S) (hl : S.length ≤ 1000000) (k : Int) (hx : a.eval x = .int .i64 k) (hk : (Lit.int .i64 k).wf = true)
    (hK : ∀ w', SetM w' b (S ++ [k]) → w.grownBy w' (some b) → wpList Tryz.prog ops Q rest (a.put o.dst undef) w') : wpList Tryz.prog ops Q (o :: rest) a w := by
  refine wpList_plain hg fun K' hK' => ?_
  obtain ⟨w', hr, h2, h3⟩ := hown.store hl hk
  unfold Oper.wp
  have hv : a.eval (.const (.bool true)) = .bool true := rfl
  simp [execOp, hop, hm, hx, hv, hr, Result.andThen]
  exact hK' _ _ (hK w' h2 h3)
end Go.Proofs.YtihaheinkpmnnaaGreat

/- Stage 20, joined: C0, C1, S2, W0, W1, W1c. -/
import Derived.RangeFuncNested
import Derived.RangeFuncLeaves
import Derived.RangeFuncBound
import Derived.RangeFuncOwn
import Derived.RangeFuncFrom
import Derived.Shelf.Abstract
import Derived.Shelf.RegionOpen
import Derived.Sort.LoopGhostIn
import Derived.TacticsInMore
import Derived.LoopNIn
import Derived.LoopIn
import Derived.OwnWalkIn
import Derived.RegionIn
import Derived.Test.YthkemajekkilmaaGA00
import Derived.Test.YthkemajekkilmaaGA02
import Derived.Test.YthkemajekkilmaaGA03
import Derived.DefersIn
import Derived.Test.YthkemajekkilmaaGA04
import Derived.RecoverIn
/- A loop over an iterator that turns what it reads from, and that the rounds may leave: what the iterator owes, what the loop owes. -/
namespace Go.Proofs.Ythkemajekkilmaa
open Go.RowKit Go.Shelf
/-- The blocks below B, and what is no cells, lie as they lay. -/
def Kp (B : Nat) (W W' : World) : Prop := (W'.os = W.os ∧ W'.tape = W.tape ∧ W'.output = W.output) ∧ W.heap.size ≤ W'.heap.size ∧ ∀ k, k < W.heap.size → (k < B ∨ ∃ o : Obj, W.heap[k]? = some o ∧ o.isCells = false) → W'.heap[k]? = W.heap[k]?
theorem Kp.others {B : Nat} {W W' : World} (h : Kp B W W') : KeepsOthers W W' := ⟨h.2.1, fun k o hk ho => (h.2.2 k (Array.getElem?_eq_some_iff.1 hk).1 (.inr ⟨o, hk, ho⟩)).trans hk⟩
/-- An iterator that offers one thing after the other: J between two rounds, A where x is offered, Z where it has ended; b is what the state stands for, falling by μ. -/
def IterN {α β : Type} (vals : α → Array Value) (F : Fence) (P : Program) (gf : Nat) (la lb : Array Value) (B : Nat) (J : β → World → Prop) (A : β → α → World → Prop) (Z : β → World → Prop) (μ : β → Nat) (w : World) : Prop :=
  ∀ (n l : Nat) (Ext X : World → Prop), (∀ W W', Ext W → Kp B W W' → Ext W') →
    (∀ b x W, A b x W → Ext W → YieldAt F (n - 1) P l (vals x) W fun e W' => (e = .returned (.bool true) ∧ ∃ b', μ b' < μ b ∧ J b' W' ∧ Ext W') ∨ (e = .returned (.bool false) ∧ X W')) →
    ∀ b, J b w → Ext w → CallsIn F n P gf (la ++ #[.func (.yield l) #[] #[]] ++ lb) w fun e W' => (∃ v, e = .returned v) ∧ ((∃ b', Z b' W') ∧ Ext W' ∨ X W')
/-- How the body of a round is left: off its end, or by an exit. -/
def postN {β : Type} (J : β → World → Prop) (μ : β → Nat) (b : β) (X : Nat → World → Prop) (W : World) : Exit → Act → World → Prop
  | .normal, _, W' => KeepsOthers W W' ∧ ∃ b', μ b' < μ b ∧ J b' W'
  | .exit id, _, W' => KeepsOthers W W' ∧ X id W'
  | _, _, _ => False
variable {F : Fence} {n : Nat} {P : Program}
theorem rangeN {α β : Type} {vals : α → Array Value} {g : Operand} {ps : Array Tmp} {assign body : Code} {Q : Exit → Act → World → Prop} {a : Act} {w : World} (hro : F.round = none) (h1 : 1 ≤ n)
    {gf : Nat} {la lb : Array Value} (hg : a.eval g = .func (.func gf) la lb) (hFg : F.fn gf) (eg : ∀ args w, (callFunc gf args).run P w = .ok (.enter gf args) w)
    (hps : ∀ x, (vals x).size = ps.size) {B : Nat} {J : β → World → Prop} {A : β → α → World → Prop} {Z : β → World → Prop} {μ : β → Nat} (hseq : ∀ W, w.grownBy W none → IterN vals F P gf la lb B J A Z μ W)
    (hJ : OwnFrom w.heap.size J) (hA : OwnFrom w.heap.size (fun (p : β × α) W => A p.1 p.2 W)) (hZ : OwnFrom w.heap.size Z) (X : Nat → World → Prop) (hX : OwnFrom w.heap.size X) {b0 : β} (h0 : J b0 w)
    (hround : ∀ (l : Nat) (b : β) (x : α) (W : World), A b x W → assign.wpIn (F.inRound l) (n - 1 - 1) P
      (Exit.then (fun a' W' => W' = W ∧ ∀ W2, A b x W2 → body.wpIn (F.inRound l) (n - 1 - 1) P (postN J μ b X W2) a' W2) (fun _ _ _ => False)) { tmps := (ps.zip (vals x)).foldl (fun t (p, v) => t.setIfInBounds p v) a.tmps, defers := [] } W)
    (hdone : ∀ (D : Nat) (b : β) (W : World), w.heap.size ≤ D → Z b W → W.heap[D]? = some (.deferred (some [])) → Q .normal { a with defers := { target := .collected D, args := #[] } :: a.defers } W)
    (hstop : ∀ (D id : Nat) (W : World), w.heap.size ≤ D → X id W → W.heap[D]? = some (.deferred (some [])) → (Code.exit id).wpIn F n P Q { a with defers := { target := .collected D, args := #[] } :: a.defers } W) :
    (Code.rangeFunc g ps assign body).wpIn F n P Q a w := by
  refine wpIn_rangeFunc fun fn hfn => ?_
  rw [hro]
  obtain ⟨rec, hrec⟩ : ∃ rec : LoopState → Option Code → Loop, rec = fun st pe => { state := st, pending := pe, fn, tmps := a.tmps, params := ps, assign, body, defers := w.heap.size } := ⟨_, rfl⟩
  obtain ⟨W1, hW1⟩ : ∃ W1, (w.alloc (.deferred (some []))).alloc (.loop (rec .ready none)) = W1 := ⟨_, rfl⟩
  have hL1 : W1.heap[w.heap.size + 1]? = some (.loop (rec .ready none)) := by
    rw [← hW1]; have := World.alloc_heap_new (w.alloc (.deferred (some []))) (.loop (rec .ready none)); rwa [World.size_alloc] at this
  have hK1 : W1.heap[w.heap.size]? = some (.deferred (some [])) := by
    rw [← hW1]; exact (Below.heap_alloc _ _ _ (by simp)).trans (World.alloc_heap_new w _)
  have hI1 : J b0 W1 := by rw [← hW1]; exact hJ.alloc _ (hJ.alloc _ h0)
  have hg1 : w.grownBy W1 none := by rw [← hW1]; exact (World.grownBy_alloc w _ none).trans (World.grownBy_alloc _ _ none)
  refine ⟨w.heap.size + 1, [{ target := .collected w.heap.size, args := #[] }], W1, { target := .fn (.func gf) lb, args := la ++ #[.func (.yield (w.heap.size + 1)) #[] #[]] }, W1, gf,
    la ++ #[.func (.yield (w.heap.size + 1)) #[] #[]] ++ lb, W1, ?_, ?_, ?_, ?_, fun _ => h1, ?_⟩
  · rw [← hW1, hrec]; exact run_enterLoop_outer _ _ _ _ _
  · simp only [resolve, hg]
    simp [go_sem]
  · intro f' hf'; simp [Target.leads] at hf'; subst hf'; exact hFg
  · simp [invoke, go_sem, eg]
  · refine (hseq W1 hg1 (n - 1) (w.heap.size + 1)
      (fun W => W.heap[w.heap.size + 1]? = some (.loop (rec .ready none)) ∧ W.heap[w.heap.size]? = some (.deferred (some [])))
      (fun W => ∃ id, X id W ∧ W.heap[w.heap.size + 1]? = some (.loop (rec .done (some (.exit id)))) ∧ W.heap[w.heap.size]? = some (.deferred (some [])))
      (fun W W' he hk => ⟨hk.others.same _ _ he.1 rfl, hk.others.same _ _ he.2 rfl⟩) ?_ b0 hI1 ⟨hL1, hK1⟩).mono ?_
    · rintro b x W hi ⟨hl, hk⟩
      have hlt : w.heap.size + 1 < W.heap.size := (Array.getElem?_eq_some_iff.1 hl).1
      have hy := run_yield (P := P) (args := vals x) hl (by rw [hrec]; exact hps x)
      rw [hrec] at hy
      refine ⟨fn, _, assign, body, hy, roundIn_of_wpIn hfn ?_⟩
      refine wpIn_mono (hround _ b x W hi) ?_
      rintro e a1 W1' h1'
      cases e with
      | normal => ?_
      | _ => exact h1'.elim
      obtain ⟨rfl, hb⟩ := h1'
      refine ⟨_, run_beginRound hl (by rw [hrec]), ?_⟩
      have hl2 : (W1'.putObj (w.heap.size + 1) (.loop { rec .ready none with state := .busy })).heap[w.heap.size + 1]? = some (.loop { rec .ready none with state := .busy }) := World.putObj_heap_same hlt
      have hk2 : (W1'.putObj (w.heap.size + 1) (.loop { rec .ready none with state := .busy })).heap[w.heap.size]? = some (.deferred (some [])) := (World.putObj_heap_other (by omega)).trans hk
      refine wpIn_mono (hb _ (hA.putObj (s := (b, x)) _ hi (by omega) hl rfl)) ?_
      have fin : ∀ (jump : Option Code) (W3 : World), KeepsOthers (W1'.putObj (w.heap.size + 1) (.loop { rec .ready none with state := .busy })) W3 →
          (Instr.endRound (w.heap.size + 1) jump).run P W3 = .ok (.bool jump.isNone) (W3.putObj (w.heap.size + 1) (.loop (rec (if jump.isNone then .ready else .done) jump))) ∧
          W3.heap[w.heap.size + 1]? = some (.loop { rec .ready none with state := .busy }) ∧
          (W3.putObj (w.heap.size + 1) (.loop (rec (if jump.isNone then .ready else .done) jump))).heap[w.heap.size + 1]? = some (.loop (rec (if jump.isNone then .ready else .done) jump)) ∧
          (W3.putObj (w.heap.size + 1) (.loop (rec (if jump.isNone then .ready else .done) jump))).heap[w.heap.size]? = some (.deferred (some [])) := fun jump W3 hk3 => by
        have hl3 := hk3.same _ _ hl2 rfl
        have := run_endRound (P := P) jump hl3
        rw [hrec] at this ⊢
        exact ⟨this, by rw [hrec] at hl3; exact hl3, World.putObj_heap_same (Array.getElem?_eq_some_iff.1 hl3).1, (World.putObj_heap_other (by omega)).trans (hk3.same _ _ hk2 rfl)⟩
      rintro e a3 W3 hp
      cases e with
      | normal =>
        obtain ⟨hk3, b', hlt', hi3⟩ := hp
        obtain ⟨hr, hl3, hl4, hk4⟩ := fin none W3 hk3
        exact ⟨_, _, hr, .inl ⟨rfl, b', hlt', hJ.putObj _ hi3 (by omega) hl3 rfl, hl4, hk4⟩⟩
      | exit id =>
        obtain ⟨hk3, hi3⟩ := hp
        obtain ⟨hr, hl3, hl4, hk4⟩ := fin (some (.exit id)) W3 hk3
        exact ⟨_, _, hr, .inr ⟨rfl, id, hX.putObj _ hi3 (by omega) hl3 rfl, hl4, hk4⟩⟩
      | _ => exact hp.elim
    · rintro e W2 ⟨⟨v, rfl⟩, (⟨⟨b', hz⟩, hl, hk⟩ | ⟨id, hi, hl, hk⟩)⟩
      · exact ⟨none, _, by have := run_endLoop (P := P) hl (by rw [hrec]; simp); rw [hrec] at this; exact this, hdone _ b' _ (Nat.le_refl _) (hZ.putObj _ hz (by omega) hl rfl) ((World.putObj_heap_other (by omega)).trans hk)⟩
      · exact ⟨some (.exit id), _, by have := run_endLoop (P := P) hl (by rw [hrec]; simp); rw [hrec] at this; exact this, hstop _ id _ (Nat.le_refl _) (hX.putObj _ hi (by omega) hl rfl) ((World.putObj_heap_other (by omega)).trans hk)⟩
end Go.Proofs.Ythkemajekkilmaa
/- The clauses that are falsified or unit are offered one after the other. -/
namespace Go.Proofs.Ythkemajekkilmaa
open Go.RowKit Go.Shelf
attribute [local go_sem] Oper.semAt_some
theorem kp_off {K : PK} {W W' : World} {vs : List Int} {ns kf : Int} {R : Nat → Rw} (h : PW K W vs ns kf R) (ho : Off (PM K R) W W') : Kp K.B W W' := by
  refine ⟨⟨ho.os, ho.tape, ho.output⟩, ho.size, fun k hk hc => ho.block k hk fun hM => ?_⟩
  obtain ⟨h1, h2, h3⟩ := h.below k hM
  rcases hc with hc | ⟨o, ho, hc⟩
  · omega
  · rw [h3 o ho] at hc; cases hc
/-- What the loop is in the midst of: trail, reasons, how many steps are left at most. -/
abbrev Gh := List Int × List Int × Nat
structure JC (K : PK) (C : List (List Int)) (ns : Int) (RES : List Int × List Int × Int) (Base : World → Prop) (rest : List Nat) (b : Gh) (W : World) : Prop where
  ps : ∃ R, PSr K C W b.1 rest ns (-1) R ∧ (R 1).l = b.2.1
  run : prop C b.2.2 b.1 b.2.1 = RES
  fuel : free K.V b.1 < b.2.2
  base : Base W
def ciV (i : Nat) : Array Value := #[.int .i64 (i : Int)]
def JA (K : PK) (C : List (List Int)) (ns : Int) (RES : List Int × List Int × Int) (Base : World → Prop) (b : Gh) (i : Nat) (W : World) : Prop := JC K C ns RES Base [i] b W ∧ C.findIdx? (hot b.1) = some i
def JZ (K : PK) (C : List (List Int)) (ns : Int) (RES : List Int × List Int × Int) (Base : World → Prop) (b : Gh) (W : World) : Prop := JC K C ns RES Base [] b W ∧ RES = (b.1, b.2.1, -1)
theorem prop_none {C : List (List Int)} {m : Nat} {tr rs : List Int} (h : C.findIdx? (hot tr) = none) (hm : 0 < m) : prop C m tr rs = (tr, rs, -1) := by
  obtain ⟨k, rfl⟩ : ∃ k, m = k + 1 := ⟨m - 1, by omega⟩
  unfold prop; rw [h]
set_option maxHeartbeats 16000000 in
set_option maxRecDepth 100000 in
theorem cand_gives {K : PK} {C : List (List Int)} {ns : Int} {RES : List Int × List Int × Int} {Base : World → Prop} (hBase : ∀ W W', Base W → Kp K.B W W' → Base W') (hV : K.V ≤ 40) (hC : C.length ≤ 1000) (w : World) :
    IterN ciV Fence.wide Try.prog 47 #[.pointer (some ⟨K.p, 0, none⟩)] #[] K.B (JC K C ns RES Base []) (JA K C ns RES Base) (JZ K C ns RES Base) (fun b => b.2.2) w := by
  intro nn l Ext X hExt hY b hj hext
  have HY := Lib.hid (And.intro hExt (And.intro hY hBase))
  have HJ0 := Lib.hid (And.intro hj hext)
  clear hExt hY hj hext hBase
  refine callsIn_of_wp Try.func47 rfl trivial ?_ rfl
  simp only [Try.ntmps47, List.size_toArray, List.length_cons, List.length_nil, Nat.reduceAdd, Nat.reduceSub, Array.replicate_succ, Array.replicate_zero, List.push_toArray, List.append_toArray, List.nil_append, List.cons_append]
  gi_wp2_with fail
  gi_loopg [4, 5] (b.2.2 * 50000 + 50000) (fun gk _s4 _s5 wr => ∃ (b : Gh) (R : Nat → Rw), (R 6).l.length < 50000 ∧ b.2.2 * 50000 + (R 6).l.length ≤ gk ∧ PSr K C wr b.1 [] ns (-1) R ∧ (R 1).l = b.2.1 ∧ prop C b.2.2 b.1 b.2.1 = RES ∧ free K.V b.1 < b.2.2 ∧ Base wr ∧ Ext wr)
  case atStart =>
    obtain ⟨R, hps, hrs⟩ := HJ0.out.1.ps
    have hq : (R 6).l.length < 50000 := by
      have h1 := hps.ql
      have h2 := hps.free
      have h3 : C.length * (1 + b.1.length) ≤ 1000 * 42 := Nat.mul_le_mul hC (by omega)
      omega
    exact ⟨b, R, hq, by omega, hps, hrs, HJ0.out.1.run, HJ0.out.1.fuel, HJ0.out.1.base, HJ0.out.2⟩
  case round =>
    obtain ⟨b, R, hq, hgk, hps, hrs, hrun, hfuel, hbase, hext⟩ := hrel
    obtain ⟨wo, hwo⟩ : ∃ z, z = wr := ⟨_, rfl⟩
    rw [← hwo] at hps hbase hext ⊢
    clear hwo
    have HI := Lib.hid (And.intro hq (And.intro hgk (And.intro hps (And.intro hrs (And.intro hrun (And.intro hfuel (And.intro hbase hext)))))))
    clear hgk hrs hrun hfuel hbase hext
    obtain ⟨N, hN⟩ : ∃ N, (R 6).l.length = N := ⟨_, rfl⟩
    have q11 := hps.pw.f11
    rw [Rw.val, hN] at q11
    rcases Nat.eq_zero_or_pos N with hN0 | hN0
    · subst hN0
      have hnil : (R 6).l = [] := List.eq_nil_of_length_eq_zero hN
      have HZ : Hid (∃ b', JZ K C ns RES Base b' wo) := Lib.hid ⟨b, ⟨⟨R, hps, HI.out.2.2.2.1⟩, HI.out.2.2.2.2.1, HI.out.2.2.2.2.2.1, HI.out.2.2.2.2.2.2.1⟩, by
        have hqn := hps.q
        rw [hnil] at hqn
        rw [← HI.out.2.2.2.2.1, prop_none hqn.none (by have := HI.out.2.2.2.2.2.1; omega)]⟩
      clear hps hN hnil
      gi_wp2_with fail
      go_end0
      exact ⟨⟨_, rfl⟩, .inl ⟨HZ.out, HI.out.2.2.2.2.2.2.2⟩⟩
    · obtain ⟨n, rfl⟩ : ∃ n, N = n + 1 := ⟨N - 1, by omega⟩
      obtain ⟨g, ha, _, _, _⟩ := irow_head (hps.pw.rows 6 (by omega)) (by rw [hN]; omega)
      have hg1 : decide (0 < n + 1) = true := decide_eq_true (by omega)
      have hg2 : decide ((0 : Int) < (n : Int) + 1) = true := decide_eq_true (by omega)
      have hrow := hps.pw.rows 6 (by omega)
      rw [ha] at q11 hrow
      have hb6 : (R 6).blk = some g := by unfold Rw.blk; simp only [Rw.val, ha, Value.ownBlock]
      have HPOP := Lib.hid (hpop_calls K.B K.p 11 g (R 6).c n (R 6).l wo hN q11 (hps.pw.fr 11) hrow (by omega) (fun e => hps.pw.offp 6 (by omega) (by rw [hb6, e])) (by have := hps.q.heap; rwa [hN] at this))
      obtain ⟨i, hi0, hiC, hcase⟩ : ∃ i : Nat, at_ (R 6).l 0 = (i : Int) ∧ i < C.length ∧ ∀ hp', (R 6).l.Perm (at_ (R 6).l 0 :: hp') → Heap hp'.length hp' → (hot b.1 (C.getD i []) = true ∧ C.findIdx? (hot b.1) = some i ∧ QOk C b.1 [i] hp') ∨ (hot b.1 (C.getD i []) = false ∧ satN b.1 (C.getD i []) ≠ 0 ∧ QOk C b.1 [] hp') := by
        have hm0 : at_ (R 6).l 0 ∈ (R 6).l := List.mem_of_getElem? (at_some (by omega))
        obtain ⟨i, e, hi, _⟩ := hps.q.num _ hm0
        refine ⟨i, e, hi, fun hp' hper hh => ?_⟩
        obtain ⟨i', e', hi', hc⟩ := hps.q.pop (by omega) hper hh
        have : i' = i := by rw [e] at e'; omega
        subst this
        exact hc
      rw [hi0] at HPOP
      have HCASE := Lib.hid (And.intro hiC (And.intro hcase hi0))
      have hta := assert_int (i : Int)
      have HB6 := Lib.hid (And.intro hb6 ha)
      clear hps hcase hrow hb6 ha
      gi_wp2_with fail
      refine ⟨trivial, fun h => (by cases h), (callsIn_wide.2 HPOP.out).mono ?_⟩
      rintro e w1 ⟨rfl, hp', hper, hlen', hheap, hrow', hqf⟩
      clear HPOP q11
      have hval : (⟨some ⟨g, 0, none⟩, (R 6).c, hp'⟩ : Rw).val = .slice (some ⟨g, 0, none⟩) n (R 6).c := by simp only [Rw.val, hlen']
      have hblk : (⟨some ⟨g, 0, none⟩, (R 6).c, hp'⟩ : Rw).blk = (R 6).blk := by rw [HB6.out.1]; unfold Rw.blk; simp only [Value.ownBlock]
      have hoff : Off (fun k => k = K.p ∨ (R 6).blk = some k) wo w1 := by rw [HB6.out.1]; exact hqf.off
      have hpw1 := HI.out.2.2.1.pw.turn (i := 6) (by omega) ⟨some ⟨g, 0, none⟩, (R 6).c, hp'⟩ hoff (by rw [hval]; exact hqf.blk) hrow' (.inl hblk)
      have hoff2 : Off (PM K R) wo w1 := hoff.mono (fun k _ hk => hk.elim (fun e => .inl e) (fun e => .inr (.inr ⟨6, by omega, e⟩)))
      have hkp := kp_off HI.out.2.2.1.pw hoff2
      obtain ⟨R', hR'⟩ : ∃ z, upd R 6 ⟨some ⟨g, 0, none⟩, (R 6).c, hp'⟩ = z := ⟨_, rfl⟩
      rw [hR'] at hpw1
      have HR' : Hid ((∀ j, j ≠ 6 → R' j = R j) ∧ (R' 6).l = hp') := Lib.hid ⟨fun j hj => by rw [← hR', upd_other hj], by rw [← hR', upd_same]⟩
      have HBE := Lib.hid (And.intro (HY.out.2.2 _ _ HI.out.2.2.2.2.2.2.1 hkp) (HY.out.1 _ _ HI.out.2.2.2.2.2.2.2 hkp))
      have hpsr : ∀ rest, QOk C b.1 rest hp' → PSr K C w1 b.1 rest ns (-1) R' := fun rest hqq => by
        have h0 := HI.out.2.2.1
        exact ⟨hpw1, by rw [HR'.out.1 0 (by decide)]; exact h0.t, by rw [HR'.out.1 2 (by decide)]; exact h0.s, by rw [HR'.out.1 3 (by decide)]; exact h0.o, by rw [HR'.out.1 4 (by decide), HR'.out.1 5 (by decide)]; exact h0.occ, by rw [HR'.out.1 5 (by decide)]; exact h0.cl, by rw [HR'.out.2]; exact hqq, by rw [HR'.out.2, hlen']; have := h0.ql; omega, h0.cons, h0.free⟩
      have HPSR := Lib.hid hpsr
      have HRS : Hid ((R' 1).l = b.2.1) := Lib.hid (by rw [HR'.out.1 1 (by decide)]; exact HI.out.2.2.2.1)
      have hcs := HCASE.out.2.1 hp' (by rw [HCASE.out.2.2]; exact hper) (by rw [hlen']; exact hheap)
      obtain ⟨g2, ha2, hv2, _, hr2⟩ := hpw1.row (i := 2) (by omega) (n := C.length) (by rw [HR'.out.1 2 (by decide), HI.out.2.2.1.s]; simp [satsP]) (by have := HCASE.out.1; omega)
      have q7 := hpw1.f7
      rw [hv2] at q7
      have c2 := irow_cell hr2 (i := i) (by rw [HR'.out.1 2 (by decide), HI.out.2.2.1.s]; simp [satsP]; exact HCASE.out.1)
      have hs2 : at_ (R' 2).l i = (satN b.1 (C.getD i []) : Int) := by rw [HR'.out.1 2 (by decide), HI.out.2.2.1.s]; unfold at_ satsP; rw [getD_map HCASE.out.1]
      obtain ⟨s, hs⟩ : ∃ z : Nat, satN b.1 (C.getD i []) = z := ⟨_, rfl⟩
      rw [hs2, hs] at c2
      obtain ⟨cn, hcn⟩ : ∃ z, C.length = z := ⟨_, rfl⟩
      rw [hcn] at q7
      have i1 : (i : Int) < (cn : Int) := by have := HCASE.out.1; omega
      have HS := Lib.hid hs
      have HLE := Lib.hid hlen'
      clear hper hheap hrow' hqf hval hblk hoff hpw1 hoff2 hkp hR' hpsr hr2 hs2 hs hlen' hv2 ha2 hcn
      rcases hcs with ⟨hhot, hfi, hqo⟩ | ⟨hhot, hsn, hqo⟩
      · have hs0 : s = 0 := by
          have h1 := hhot
          unfold hot at h1
          simp only [Bool.and_eq_true, beq_iff_eq] at h1
          rw [← HS.out]; exact h1.1
        subst hs0
        have t1 : (((0 : Nat) : Int) == 0) = true := rfl
        have hJA : JA K C ns RES Base b i w1 := ⟨⟨⟨R', HPSR.out [i] hqo, HRS.out⟩, HI.out.2.2.2.2.1, HI.out.2.2.2.2.2.1, HBE.out.1⟩, hfi⟩
        obtain ⟨fn, tmps, assign, body, hy, hRI⟩ := HY.out.2.1 b i w1 hJA HBE.out.2
        simp only [ciV] at hy
        have HRI := Lib.hid hRI
        clear hRI hJA hhot hfi hqo
        gi_wp2_with fail
        clear hy q7 c2
        refine ⟨fun h => (by cases h), ?_⟩
        refine HRI.out.mono ?_
        rintro e W3 (⟨rfl, b', hb', hj', he'⟩ | ⟨rfl, hx⟩)
        · obtain ⟨R3, hps3, hrs3⟩ := hj'.ps
          have hq3 : (R3 6).l.length < 50000 := by
            have h1 := hps3.ql
            have h2 := hps3.free
            have h3 : C.length * (1 + b'.1.length) ≤ 1000 * 42 := Nat.mul_le_mul hC (by omega)
            omega
          have HN3 := Lib.hid (And.intro hps3 (And.intro hrs3 (And.intro hj' he')))
          have hmu : b'.2.2 * 50000 + (R3 6).l.length < gk := by
            have h1 := HI.out.2.1
            have h2 : (b'.2.2 + 1) * 50000 ≤ b.2.2 * 50000 := Nat.mul_le_mul hb' (Nat.le_refl _)
            omega
          clear hj' he' hps3 hrs3
          gi_wp2_with fail
          gi_roundg (b'.2.2 * 50000 + (R3 6).l.length)
          case measure => exact hmu
          case rel => exact ⟨b', R3, hq3, Nat.le_refl _, HN3.out.1, HN3.out.2.1, HN3.out.2.2.1.run, HN3.out.2.2.1.fuel, HN3.out.2.2.1.base, HN3.out.2.2.2⟩
        · gi_wp2_with fail
          first
          | (refine bodyPost_ret (results_none rfl _ _ _) rfl ?_; exact ⟨⟨_, rfl⟩, .inr hx⟩)
          | trace_state
      · have hs0 : ((s : Int) == 0) = false := by rw [beq_eq_false_iff_ne]; have := HS.out; omega
        have hs1 : (s == 0) = false := by rw [beq_eq_false_iff_ne]; have := HS.out; omega
        have HP := Lib.hid (HPSR.out [] hqo)
        clear hhot hsn hqo
        gi_wp2_with fail
        clear q7 c2
        refine ⟨fun _ h => (by cases h), ?_⟩
        gi_wp2_with fail
        gi_roundg (b.2.2 * 50000 + n)
        case measure => have h1 := HI.out.2.1; omega
        case rel => exact ⟨b, R', by rw [HR'.out.2, HLE.out]; omega, by rw [HR'.out.2, HLE.out]; exact Nat.le_refl _, HP.out, HRS.out, HI.out.2.2.2.2.1, HI.out.2.2.2.2.2.1, HBE.out.1, HBE.out.2⟩
end Go.Proofs.Ythkemajekkilmaa
/- Do literals contain a literal and its opposite? -/
namespace Go.Proofs.Ythkemajekkilmaa
open Go.RowKit Go.Maps
theorem contra_snoc {l : List Int} {x : Int} (h0 : x ≠ 0) : contraP (l ++ [x]) = (contraP l || l.contains (-x)) := by
  unfold contraP
  rw [Bool.eq_iff_iff]
  simp only [List.any_eq_true, Bool.or_eq_true, List.contains_iff_mem, List.mem_append, List.mem_singleton]
  constructor
  · rintro ⟨y, hy | rfl, hn | hn⟩
    · exact .inl ⟨y, hy, hn⟩
    · right; rw [← hn, Int.neg_neg]; exact hy
    · exact .inr hn
    · omega
  · rintro (⟨y, hy, hn⟩ | hn)
    · exact ⟨y, .inl hy, .inl hn⟩
    · exact ⟨x, .inr rfl, .inl hn⟩
theorem contra_mono {l m : List Int} (h : contraP l = true) : contraP (l ++ m) = true := by
  unfold contraP at h ⊢
  simp only [List.any_eq_true, List.contains_iff_mem, List.mem_append] at h ⊢
  obtain ⟨y, hy, hn⟩ := h
  exact ⟨y, .inl hy, .inl hn⟩
set_option maxHeartbeats 4000000 in
theorem contradict_calls (A : List Int) (a : Option Addr) (c : Nat) (w : World) (h : IntsW w a c A) (hl : A.length ≤ 10000) (hb : ∀ x ∈ A, x ≠ 0 ∧ -100000 ≤ x ∧ x ≤ 100000) :
    Calls Try.prog 40 #[.slice a A.length c] w fun e w' => e = .returned (.bool (contraP A)) ∧ w.grownBy w' none := by
  obtain ⟨n, hn⟩ : ∃ n, A.length = n := ⟨_, rfl⟩
  rw [hn] at hl ⊢
  have HH := Lib.hid (And.intro h (And.intro hn hb))
  clear h hn hb
  have hmm := @run_makeMap Try.prog
  have hg0 := World.grownBy_alloc w (.map #[] 0) none
  have hs0 := SetM.new w
  obtain ⟨W1, hW1⟩ : ∃ z, w.alloc (.map #[] 0) = z := ⟨_, rfl⟩
  obtain ⟨bm, hbm⟩ : ∃ z, w.heap.size = z := ⟨_, rfl⟩
  rw [hW1] at hg0 hs0
  rw [hbm] at hs0
  have HG := Lib.hid (And.intro hg0 (And.intro hs0 hbm))
  clear hg0 hs0
  go_enter Try.func40, Try.ntmps40
  go_wp2_with fail
  clear hmm hW1 hbm
  go_loopg [9] n (fun gk s9 wr => ∃ k : Nat, s9 = .int .i64 (k : Int) ∧ gk = n - k ∧ k ≤ n ∧ SetM wr bm (A.take k) ∧ contraP (A.take k) = false ∧ w.grownBy wr none)
  case atStart => exact ⟨0, rfl, rfl, Nat.zero_le _, by rw [List.take_zero]; exact HG.out.2.1, rfl, HG.out.1⟩
  case round =>
    obtain ⟨k, rfl, hgk, hk, hset, hct, hgr⟩ := hrel
    obtain ⟨wo, hwo⟩ : ∃ z, z = wr := ⟨_, rfl⟩
    rw [← hwo] at hset hgr ⊢
    clear hwo
    have HI := Lib.hid (And.intro hgk (And.intro hset (And.intro hct hgr)))
    clear hgk hset hct hgr
    by_cases hkn : k < n
    · have f1 : decide (k < n) = true := decide_eq_true hkn
      have f2 : decide ((k : Int) < (n : Int)) = true := decide_eq_true (by omega)
      have f3 : (k : Int) < (n : Int) := by omega
      obtain ⟨x, hx⟩ : ∃ x, A[k]? = some x := ⟨_, List.getElem?_eq_getElem (by rw [HH.out.2.1]; exact hkn)⟩
      have hxb := HH.out.2.2 x (List.mem_of_getElem? hx)
      obtain ⟨b, o, rfl, cx⟩ := (HH.out.1.grown HI.out.2.2.2).at hx
      have htake : A.take (k + 1) = A.take k ++ [x] := by
        have h1 := List.getElem?_eq_some_iff.1 hx
        rw [List.take_succ_eq_append_getElem h1.1, h1.2]
      have hwf : (Lit.int .i64 (-x)).wf = true := wf64 (by omega) (by omega)
      have hwf2 : (Lit.int .i64 x).wf = true := wf64 (by omega) (by omega)
      have kx : IntKind.i64.wrap (-x) = -x := IntWalk.i64_in _ (by omega)
      obtain ⟨d, hd⟩ : ∃ d, decide (-x ∈ A.take k) = d := ⟨_, rfl⟩
      have hlk := SetM.look HI.out.2.1 hwf
      rw [hd] at hlk
      have hc1 : contraP (A.take (k + 1)) = d := by
        rw [htake, contra_snoc hxb.1, HI.out.2.2.1, Bool.false_or, ← hd]
        rw [Bool.eq_iff_iff]; simp
      have HC := Lib.hid (And.intro hc1 (And.intro htake hwf2))
      have HST := Lib.hid (And.intro HI.out.2.1 (show (A.take k).length ≤ 1000000 by rw [List.length_take]; omega))
      clear hc1 htake hx hxb hd hwf hwf2
      cases d with
      | true =>
        have HT : Hid (contraP A = true) := Lib.hid (by have h := contra_mono (m := A.drop (k + 1)) HC.out.1; rwa [List.take_append_drop] at h)
        go_wp2_with fail
        go_ret
        exact ⟨by rw [HT.out]; rfl, HI.out.2.2.2⟩
      | false =>
        go_wp2_with (at_mapUpdate; refine wpList_setM rfl _ _ rfl bm (A.take k) rfl HST.out.1 HST.out.2 x rfl HC.out.2.2 ?_)
        intro w5 hset5 hgr5
        have HN := Lib.hid (show SetM w5 bm (A.take (k + 1)) ∧ w.grownBy w5 none from ⟨by rw [HC.out.2.1]; exact hset5, grown_own HI.out.2.2.2 hgr5 (fun j e => by have := Option.some.inj e; have := HG.out.2.2; omega)⟩)
        clear hset5 hgr5 hlk
        go_wp2_with fail
        go_roundg (n - (k + 1))
        case measure => rw [HI.out.1]; omega
        case rel => exact ⟨k + 1, rfl, rfl, by omega, HN.out.1, HC.out.1, HN.out.2⟩
    · have hke : k = n := by omega
      subst hke
      have f1 : decide (k < k) = false := by simp
      have HT : Hid (contraP A = false) := Lib.hid (by have h := HI.out.2.2.1; rwa [← HH.out.2.1, List.take_length] at h)
      go_wp2_with fail
      go_ret
      exact ⟨by rw [HT.out]; rfl, HI.out.2.2.2⟩
end Go.Proofs.Ythkemajekkilmaa
/- Propagated: the deferred closure at rest, the closure that looks for an open literal, IndexFunc, the implied part. -/
namespace Go.Proofs.Ythkemajekkilmaa
open Go.RowKit
theorem idle43 (x : Value) (w : World) :
    CallsD Try.prog 43 #[x] .returning w fun e u' w' => e = .returned (.tuple #[]) ∧ u' = .returning ∧ w' = w := by
  refine callsD_of_wpS Try.func43 rfl fun c₀ cs hu => ?_
  apply wpS_seq
  apply wpS_region
  simp [wpOpsS, go_sem, recoverD, hu, Try.ntmps43, Exit.thenS]
  refine wpS_cond (t := false) (by simp [Act.eval, Array.replicate]) ?_
  simp only [Bool.false_eq_true, if_false]
  refine wpS_of_wp (wp_skip ?_)
  cases c₀
  simp_all [bodyPostS, results, Try.results43]
theorem res34 (tmps : Array Value) (w : World) (b : Nat) (v : Value) (ht : tmps.getD 4 undef = .pointer (some ⟨b, 0, none⟩)) (h0 : w.cell? ⟨b, 0, none⟩ = some v) :
    (results Try.f34 tmps).run Try.prog w = .ok v w := by
  have ht' : tmps[4]?.getD undef = .pointer (some ⟨b, 0, none⟩) := by simpa using ht
  simp [results, Try.results34, ht', go_sem, h0]
def ixOf : Option Nat → Int
  | none => -1
  | some i => (i : Int)
theorem open_calls {K : PK} {w : World} {tr : List Int} {ns kf : Int} {R : Nat → Rw} (h : PW K w (valsP K.V tr) ns kf R) (hc : Cons tr) (hV : K.V ≤ 50000) {x : Int} (hx : InR K.V x) {tb : Nat} (hb : w.cell? ⟨tb, 0, none⟩ = some (.pointer (some ⟨K.p, 0, none⟩))) :
    Calls Try.prog 49 #[.int .i64 x, .pointer (some ⟨tb, 0, none⟩)] w fun e w' => e = .returned (.bool (und tr x)) ∧ w' = w := by
  have HV := Lib.hid (value_calls h hc hV hx)
  clear h
  go_enter Try.func49, Try.ntmps49
  go_wp2_with fail
  refine HV.out.mono ?_
  rintro e w1 ⟨rfl, rfl⟩
  have hu := und_val (tr := tr) (x := x)
  go_wp2_with fail
  go_ret
  exact ⟨by rw [← hu]; rfl, rfl⟩
theorem indexF_calls {K : PK} {w : World} {tr : List Int} {ns kf : Int} {R : Nat → Rw} (h : PW K w (valsP K.V tr) ns kf R) (hc : Cons tr) (hV : K.V ≤ 50000) {tb : Nat} (hb : w.cell? ⟨tb, 0, none⟩ = some (.pointer (some ⟨K.p, 0, none⟩)))
    {a : Option Addr} {c : Nat} {L : List Int} (hL : IntsW w a c L) (hr : ∀ y ∈ L, InR K.V y) (hn : L.length ≤ 100000) :
    Calls Try.prog 48 #[.slice a L.length c, .func (.func 49) #[] #[.pointer (some ⟨tb, 0, none⟩)]] w fun e w' => e = .returned (.int .i64 (ixOf (L.findIdx? (und tr)))) ∧ w' = w := by
  obtain ⟨n, hnn⟩ : ∃ n, L.length = n := ⟨_, rfl⟩
  have HH := Lib.hid (And.intro hL hnn)
  have HOC := Lib.hid (fun x hx => open_calls (x := x) h hc hV hx hb)
  rw [hnn] at hn ⊢
  clear h hc hb hL hnn
  go_enter Try.func48, Try.ntmps48
  go_wp2_with fail
  go_loopg [8] n (fun gk s8 w' => ∃ k : Nat, s8 = .int .i64 (k : Int) ∧ gk = n - k ∧ k ≤ n ∧ w' = w ∧ ∀ j, j < k → ∃ z, L[j]? = some z ∧ und tr z = false)
  case atStart => exact ⟨0, rfl, rfl, by omega, rfl, fun j hj => by omega⟩
  case round =>
    obtain ⟨k, rfl, hgk, hk, rfl, hbef⟩ := hrel
    have HI := Lib.hid (And.intro hgk hbef)
    clear hgk hbef
    by_cases hkn : k < n
    · have f1 : decide ((k : Int) < (n : Int)) = true := decide_eq_true (by omega)
      have f1' : decide (k < n) = true := decide_eq_true hkn
      have i0 : (0 : Int) ≤ (k : Int) := by omega
      have i1 : (k : Int) < (n : Int) := by omega
      have k1 : IntKind.i64.wrap ((k : Int) + 1) = (k : Int) + 1 := IntWalk.i64_in _ (by omega)
      obtain ⟨z, hz⟩ : ∃ z, L[k]? = some z := ⟨_, List.getElem?_eq_getElem (by rw [HH.out.2]; exact hkn)⟩
      have hzm : z ∈ L := List.mem_of_getElem? hz
      obtain ⟨b, o, rfl, hcell⟩ := HH.out.1.at hz
      have HC := Lib.hid (HOC.out z (hr z hzm))
      have HZ := Lib.hid hz
      clear hz hzm
      obtain ⟨d, hd⟩ : ∃ d, und tr z = d := ⟨_, rfl⟩
      rw [hd] at HC
      have HD := Lib.hid hd
      clear hd
      go_wp2_with fail
      refine HC.out.mono ?_
      rintro e w1 ⟨rfl, rfl⟩
      cases d with
      | true =>
        have HR : Hid (L.findIdx? (und tr) = some k) := Lib.hid (by
          rw [List.findIdx?_eq_some_iff_getElem]
          obtain ⟨hlt, e⟩ := List.getElem?_eq_some_iff.1 HZ.out
          refine ⟨hlt, by rw [e]; exact HD.out, fun j hj => ?_⟩
          obtain ⟨y, hy, hf⟩ := HI.out.2 j hj
          rw [(List.getElem?_eq_some_iff.1 hy).2, hf]; simp)
        go_wp2_with fail
        go_ret
        exact ⟨by rw [HR.out]; rfl, rfl⟩
      | false =>
        go_wp2_with fail
        go_roundg (n - (k + 1))
        case measure => rw [HI.out.1]; omega
        case rel => exact ⟨k + 1, rfl, rfl, by omega, rfl, fun j hj => by
          by_cases e : j = k
          · subst e; exact ⟨z, HZ.out, HD.out⟩
          · exact HI.out.2 j (by omega)⟩
    · have hke : k = n := by omega
      subst hke
      have f1 : decide (k < k) = false := by simp
      have HR : Hid (L.findIdx? (und tr) = none) := Lib.hid (by
        rw [List.findIdx?_eq_none_iff]
        intro x hx
        obtain ⟨j, hj, e⟩ := List.mem_iff_getElem.1 hx
        obtain ⟨y, hy, hf⟩ := HI.out.2 j (by rw [← HH.out.2]; exact hj)
        rw [← e, (List.getElem?_eq_some_iff.1 hy).2]; exact hf)
      go_wp2_with fail
      go_ret
      exact ⟨by rw [HR.out]; rfl, rfl⟩
end Go.Proofs.Ythkemajekkilmaa
/- Propagated: what it answers with; the deferred closure in the fence. -/
namespace Go.Proofs.Ythkemajekkilmaa
open Go.RowKit
theorem idle43w (n : Nat) (x : Value) (w : World) :
    CallsDIn Fence.wide n Try.prog 43 #[x] .returning w fun e u' w' => e = .returned (.tuple #[]) ∧ u' = .returning ∧ w' = w := by
  refine callsDIn_of_wpSIn Try.func43 rfl trivial fun c₀ cs hu => ?_
  apply wpSIn_seq
  apply wpSIn_region
  simp [wpOpsSIn, go_sem, recoverD, hu, Try.ntmps43, Exit.thenS, Fence.wide]
  refine wpSIn_cond (t := false) (by simp [Act.eval, Array.replicate]) ?_
  simp only [Bool.false_eq_true, if_false]
  refine wpSIn_of_wpIn rfl (wpIn_skip ?_)
  cases c₀
  simp_all [bodyPostS, results, Try.results43]
/-- What a run leaves. -/
structure PropR (B : Nat) (w : World) (p : Nat) (ca : Option Addr) (cn cc : Nat) (tr rs : List Int) (ns kf : Int) : Prop where
  low : B ≤ p
  f1 : kf ≠ -2 → w.cell? ⟨p, 1, none⟩ = some (.slice ca cn cc)
  f2 : ∃ a c, w.cell? ⟨p, 2, none⟩ = some (.slice a tr.length c) ∧ IRow B w a c tr
  f3 : w.cell? ⟨p, 3, none⟩ = some (.int .i64 ns)
  f4 : ∃ a c, w.cell? ⟨p, 4, none⟩ = some (.slice a rs.length c) ∧ IRow B w a c rs
  f5 : w.cell? ⟨p, 5, none⟩ = some (.int .i64 kf)
theorem IRow.low {B B' : Nat} {w : World} {a : Option Addr} {c : Nat} {l : List Int} (h : IRow B w a c l) (hB : B' ≤ B) : IRow B' w a c l := by
  refine ⟨h.1, ?_⟩
  rcases h.2 with h1 | ⟨g, cap, cur, e, hb, rest⟩
  · exact .inl h1
  · exact .inr ⟨g, cap, cur, e, by omega, rest⟩
theorem IRow.more {B : Nat} {w w' : World} {a : Option Addr} {c : Nat} {l : List Int} (h : IRow B w a c l) (hg : w.grownBy w' none) : IRow B w' a c l := own_grown h hg
theorem PropR.grown {B : Nat} {w w' : World} {p : Nat} {ca : Option Addr} {cn cc : Nat} {tr rs : List Int} {ns kf : Int} (h : PropR B w p ca cn cc tr rs ns kf) (hg : w.grownBy w' none) : PropR B w' p ca cn cc tr rs ns kf := by
  obtain ⟨h0, h1, ⟨a, c, h2, h2'⟩, h3, ⟨a4, c4, h4, h4'⟩, h5⟩ := h
  exact ⟨h0, fun e => hg.cell (h1 e) (by simp), ⟨a, c, hg.cell h2 (by simp), h2'.more hg⟩, hg.cell h3 (by simp), ⟨a4, c4, hg.cell h4 (by simp), h4'.more hg⟩, hg.cell h5 (by simp)⟩
theorem PS.propR {K : PK} {w : World} {B : Nat} {tr vs : List Int} {ns kf : Int} {R : Nat → Rw} (h : PW K w vs ns kf R) (ht : (R 0).l = tr) (hB : B ≤ K.B) : PropR B w K.p K.ca K.cn K.cc tr (R 1).l ns kf := by
  refine ⟨Nat.le_trans hB h.low, fun _ => h.f1, ⟨(R 0).a, (R 0).c, by rw [← ht]; exact h.f2, by rw [← ht]; exact IRow.low (h.rows 0 (by omega)) hB⟩, h.f3, ⟨(R 1).a, (R 1).c, h.f4, IRow.low (h.rows 1 (by omega)) hB⟩, h.f5⟩
/-- The two boxes at the beginning. -/
theorem boxes34 (w : World) (u0 u1 : Value) {W : World} (hW : (w.alloc (.cells #[u0, u1] 24)).alloc (.cells #[.pointer none] 49) = W) :
    W.heap.size = w.heap.size + 2 ∧ W.cell? ⟨w.heap.size, 0, none⟩ = some u0 ∧ W.cell? ⟨w.heap.size, 1, none⟩ = some u1 ∧ W.cell? ⟨w.heap.size + 1, 0, none⟩ = some (.pointer none) ∧ W.frozen? ⟨w.heap.size + 1, 0, none⟩ = false ∧ w.grownBy W none := by
  subst hW
  exact ⟨by simp, by go_simp, by go_simp, by go_simp, by go_simp, World.grownBy.trans (World.grownBy_alloc w _ none) (World.grownBy_alloc _ _ none)⟩
theorem contra34 (w : World) (tb : Nat) (ht : tb < w.heap.size) {W : World} (hW : w.alloc (.cells #[.int .i64 0, .slice none 0 0, .slice none 0 0, .int .i64 0, .slice none 0 0, .int .i64 (-2), .slice none 0 0, .slice none 0 0, .slice none 0 0, .slice none 0 0, .slice none 0 0, .slice none 0 0] 55) = W) (v : Value) (ca : Option Addr) (cn cc : Nat) {B : Nat} (hB : B ≤ w.heap.size) :
    PropR B (W.setCell ⟨tb, 0, none⟩ v) w.heap.size ca cn cc [] [] 0 (-2) := by
  subst hW
  have hne : tb ≠ w.heap.size := by omega
  have hrow : ∀ U : World, IRow B U none 0 [] := fun U => ⟨by simp, .inl ⟨rfl, rfl⟩⟩
  have hc : ∀ (o : Nat) (u : Value), (w.alloc (.cells #[.int .i64 0, .slice none 0 0, .slice none 0 0, .int .i64 0, .slice none 0 0, .int .i64 (-2), .slice none 0 0, .slice none 0 0, .slice none 0 0, .slice none 0 0, .slice none 0 0, .slice none 0 0] 55)).cell? ⟨w.heap.size, o, none⟩ = some u →
      ((w.alloc (.cells #[.int .i64 0, .slice none 0 0, .slice none 0 0, .int .i64 0, .slice none 0 0, .int .i64 (-2), .slice none 0 0, .slice none 0 0, .slice none 0 0, .slice none 0 0, .slice none 0 0, .slice none 0 0] 55)).setCell ⟨tb, 0, none⟩ v).cell? ⟨w.heap.size, o, none⟩ = some u := fun o u h => (grown_set _ tb 0 v).cell h (by simp; omega)
  refine ⟨hB, fun e => absurd rfl e, ⟨none, 0, hc _ _ (by go_simp), hrow _⟩, hc _ _ (by go_simp), ⟨none, 0, hc _ _ (by go_simp), hrow _⟩, hc _ _ (by go_simp)⟩
/-- The result box and what lay before: as they were. -/
def Bx (w : World) (K : PK) (tb : Nat) (W : World) : Prop := W.cell? ⟨tb, 0, none⟩ = some (.pointer (some ⟨K.p, 0, none⟩)) ∧ w.grownBy W none ∧ W.frozen? ⟨tb, 0, none⟩ = false
theorem Bx.kp {w W W' : World} {K : PK} {tb : Nat} (h : Bx w K tb W) (ht : tb < K.B) (hw : w.heap.size ≤ K.B) (hk : Kp K.B W W') : Bx w K tb W' := by
  obtain ⟨⟨h1, h2, h3⟩, h4, h5⟩ := hk
  have hlt := lies_lt h.1
  simp only at hlt
  exact ⟨(World.cell?_of_block (h5 tb hlt (.inl ht))).trans h.1, ⟨h1.trans h.2.1.os, h2.trans h.2.1.tape, h3.trans h.2.1.output, Nat.le_trans h.2.1.size h4, fun k hk _ => (h5 k (Nat.lt_of_lt_of_le hk h.2.1.size) (.inl (by omega))).trans (h.2.1.block k hk (by simp))⟩, (World.frozen?_of_block (a := ⟨tb, 0, none⟩) (h5 tb hlt (.inl ht))).trans h.2.2⟩
theorem Bx.own {w : World} {K : PK} {tb : Nat} (ht : tb < K.B) (hw : w.heap.size ≤ K.B) {W W' : World} (h : Bx w K tb W) {vs : List Int} {ns kf : Int} {R : Nat → Rw} (hp : PW K W vs ns kf R) (ho : Off (PM K R) W W') : Bx w K tb W' := h.kp ht hw (kp_off hp ho)
/-- What may be turned behind the back: no cells, and nothing old. -/
theorem Bx.from_ {w W W' : World} {K : PK} {tb N : Nat} {row : Option Nat} (h : Bx w K tb W) (hN : w.heap.size ≤ N) (ht : tb < N) (hg : W.grownBy W' row) (hr : ∀ r, row = some r → N ≤ r) : Bx w K tb W' :=
  ⟨hg.cell h.1 (fun e => by have := hr tb e.symm; omega), grown_own h.2.1 hg (fun k e => Nat.le_trans hN (hr k e)), (World.frozen?_of_block (a := ⟨tb, 0, none⟩) (hg.block tb (lies_lt h.1) (fun e => by have := hr tb e.symm; omega))).trans h.2.2⟩
theorem PW.from_ {K : PK} {W W' : World} {vs : List Int} {ns kf : Int} {R : Nat → Rw} {row : Option Nat} (h : PW K W vs ns kf R) (hg : W.grownBy W' row) (hr : ∀ r, row = some r → ∃ o : Obj, W.heap[r]? = some o ∧ o.isCells = false) : PW K W' vs ns kf R :=
  h.kept fun k hk => hg.block k (h.below k hk).2.1 fun e => by
    obtain ⟨o, ho, hc⟩ := hr k e.symm
    have := (h.below k hk).2.2 o ho
    rw [this] at hc; cases hc
theorem JC.from_ {K : PK} {C : List (List Int)} {ns : Int} {RES : List Int × List Int × Int} {w : World} {tb N : Nat} {rest : List Nat} {b : Gh} {W W' : World} {row : Option Nat} (h : JC K C ns RES (Bx w K tb) rest b W) (hN : w.heap.size ≤ N) (ht : tb < N) (hg : W.grownBy W' row)
    (hr : ∀ r, row = some r → N ≤ r ∧ ∃ o : Obj, W.heap[r]? = some o ∧ o.isCells = false) : JC K C ns RES (Bx w K tb) rest b W' := by
  obtain ⟨⟨R, hps, h1⟩, h2, h3, h4⟩ := h
  exact ⟨⟨R, { hps with pw := hps.pw.from_ hg (fun r e => (hr r e).2) }, h1⟩, h2, h3, h4.from_ hN ht hg (fun r e => (hr r e).1)⟩
/-- The end of the run. -/
def Fin34 (w : World) (K : PK) (tb : Nat) (ns : Int) (RES : List Int × List Int × Int) (W : World) : Prop := ∃ R vs, PW K W vs ns RES.2.2 R ∧ (R 0).l = RES.1 ∧ (R 1).l = RES.2.1 ∧ Bx w K tb W
theorem Fin34.from_ {K : PK} {ns : Int} {RES : List Int × List Int × Int} {w : World} {tb N : Nat} {W W' : World} {row : Option Nat} (h : Fin34 w K tb ns RES W) (hN : w.heap.size ≤ N) (ht : tb < N) (hg : W.grownBy W' row)
    (hr : ∀ r, row = some r → N ≤ r ∧ ∃ o : Obj, W.heap[r]? = some o ∧ o.isCells = false) : Fin34 w K tb ns RES W' := by
  obtain ⟨R, vs, h1, h2, h3, h4⟩ := h
  exact ⟨R, vs, h1.from_ hg (fun r e => (hr r e).2), h2, h3, h4.from_ hN ht hg (fun r e => (hr r e).1)⟩
theorem JZ.fin {K : PK} {C : List (List Int)} {ns : Int} {RES : List Int × List Int × Int} {w : World} {tb : Nat} {b : Gh} {W : World} (h : JZ K C ns RES (Bx w K tb) b W) : Fin34 w K tb ns RES W := by
  obtain ⟨⟨⟨R, hps, h1⟩, _, _, h4⟩, h5⟩ := h
  rw [h5]
  exact ⟨R, _, hps.pw, hps.t, h1, h4⟩
theorem leave34 {Q : Ending → World → Prop} {tmps : Array Value} {b : Nat} {v : Value} {W : World} (ht : tmps.getD 4 undef = .pointer (some ⟨b, 0, none⟩)) (hc : W.cell? ⟨b, 0, none⟩ = some v) (h : Q (.returned v) W) :
    LeavesInM Fence.wide 3 Try.prog Try.f34 tmps Q [{ target := .fn (.func 43) #[.pointer (some ⟨b, 0, none⟩)], args := #[] }] .returning W := by
  refine ⟨by simp, .inr ⟨fun h => (by cases h), .func 43, #[.pointer (some ⟨b, 0, none⟩)], 43, #[.pointer (some ⟨b, 0, none⟩)], rfl, by simp [go_sem], fun _ _ => trivial, (idle43w _ _ _).mono ?_⟩⟩
  rintro e u' w' ⟨rfl, rfl, rfl⟩
  exact ⟨_, res34 _ _ b v ht hc, h⟩
/-- The end: the result is stored where it lies; the mark, the deferred closure. -/
theorem end34 {Q : Ending → World → Prop} {tmps : Array Value} {w W : World} {K : PK} {tb D : Nat} {ns : Int} {RES : List Int × List Int × Int} (hfin : Fin34 w K tb ns RES W) (hd : W.heap[D]? = some (.deferred (some []))) (hne : tb ≠ D) (htb : tb < K.B) (hw : w.heap.size ≤ K.B)
    (hwt : w.heap.size ≤ tb) (hwD : w.heap.size ≤ D) (ht : tmps.getD 4 undef = .pointer (some ⟨tb, 0, none⟩))
    (hQ : ∀ W', PropR w.heap.size W' K.p K.ca K.cn K.cc RES.1 RES.2.1 ns RES.2.2 → w.grownBy W' none → Q (.returned (.pointer (some ⟨K.p, 0, none⟩))) W') :
    LeavesInM Fence.wide 3 Try.prog Try.f34 tmps Q [{ target := .collected D, args := #[] }, { target := .fn (.func 43) #[.pointer (some ⟨tb, 0, none⟩)], args := #[] }] .returning (W.setCell ⟨tb, 0, none⟩ (.pointer (some ⟨K.p, 0, none⟩))) := by
  obtain ⟨R, vs, h1, h2, h3, h4, h5, h6⟩ := hfin
  have hpw1 : PW K (W.setCell ⟨tb, 0, none⟩ (.pointer (some ⟨K.p, 0, none⟩))) vs ns RES.2.2 R := h1.kept fun k hk => Below.heap_setCell _ _ _ _ (fun (e : k = tb) => by have := (h1.below k hk).1; omega)
  have hd1 : (W.setCell ⟨tb, 0, none⟩ (.pointer (some ⟨K.p, 0, none⟩))).heap[D]? = some (.deferred (some [])) := (Below.heap_setCell _ _ _ _ (fun (e : D = tb) => hne e.symm)).trans hd
  have hc1 : (W.setCell ⟨tb, 0, none⟩ (.pointer (some ⟨K.p, 0, none⟩))).cell? ⟨tb, 0, none⟩ = some (.pointer (some ⟨K.p, 0, none⟩)) := World.cell?_setCell_same _ _ _ h4
  have hg1 := grown_own h5 (grown_set W tb 0 (.pointer (some ⟨K.p, 0, none⟩))) (fun k e => by have := Option.some.inj e; omega)
  obtain ⟨W1, hW1⟩ : ∃ z, W.setCell ⟨tb, 0, none⟩ (.pointer (some ⟨K.p, 0, none⟩)) = z := ⟨_, rfl⟩
  rw [hW1] at hpw1 hd1 hc1 hg1 ⊢
  refine ⟨by simp, .inl ⟨D, _, rfl, run_takeDeferred hd1, ?_⟩⟩
  have hgp := grownBy_putObj' W1 D (.deferred none)
  have hpw2 : PW K (W1.putObj D (.deferred none)) vs ns RES.2.2 R := hpw1.from_ hgp (fun r e => by cases e; exact ⟨_, hd1, rfl⟩)
  refine leave34 ht (hgp.cell hc1 (by simp; exact hne)) (hQ _ ?_ (grown_own hg1 hgp (fun k e => by have := Option.some.inj e; omega)))
  rw [← h3]
  exact PS.propR hpw2 h2 hw
end Go.Proofs.Ythkemajekkilmaa
/- Propagated: the run's plain steps. -/
namespace Go.Proofs.Ythkemajekkilmaa
open Go.RowKit
theorem prop_ge (C : List (List Int)) : ∀ (n : Nat) (tr rs : List Int), rs.length ≤ (prop C n tr rs).2.1.length ∧ (prop C n tr rs).2.1.length ≤ rs.length + n
  | 0, tr, rs => by unfold prop; simp
  | n + 1, tr, rs => by
    unfold prop
    cases C.findIdx? (hot tr) with
    | none => simp
    | some i =>
      simp only
      cases (C.getD i []).find? (und tr) with
      | none => simp
      | some x =>
        have := prop_ge C n (tr ++ [x]) (rs ++ [(i : Int)])
        simp only [List.length_append, List.length_singleton] at this
        simp only
        omega
theorem find_of_ix {L : List Int} {p : Int → Bool} {j : Nat} (h : L.findIdx? p = some j) : ∃ x, L[j]? = some x ∧ L.find? p = some x ∧ p x = true := by
  rw [List.findIdx?_eq_some_iff_getElem] at h
  obtain ⟨hj, hp, hn⟩ := h
  refine ⟨L[j], List.getElem?_eq_getElem hj, ?_, hp⟩
  rw [List.find?_eq_some_iff_getElem]
  exact ⟨hp, j, hj, rfl, fun k hk => by simpa using hn k hk⟩
theorem find_no_ix {L : List Int} {p : Int → Bool} (h : L.findIdx? p = none) : L.find? p = none := by
  rw [List.findIdx?_eq_none_iff] at h
  rw [List.find?_eq_none]
  exact fun x hx => by rw [h x hx]; simp
theorem prop_stop {C : List (List Int)} {n i : Nat} {tr rs : List Int} (hn : 0 < n) (h : C.findIdx? (hot tr) = some i) (hf : (C.getD i []).find? (und tr) = none) : prop C n tr rs = (tr, rs, (i : Int)) := by
  obtain ⟨k, rfl⟩ : ∃ k, n = k + 1 := ⟨n - 1, by omega⟩
  unfold prop; rw [h]; simp only; rw [hf]
theorem prop_go {C : List (List Int)} {n i : Nat} {tr rs : List Int} {x : Int} (h : C.findIdx? (hot tr) = some i) (hf : (C.getD i []).find? (und tr) = some x) : prop C (n + 1) tr rs = prop C n (tr ++ [x]) (rs ++ [(i : Int)]) := by
  rw [show prop C (n + 1) tr rs = _ from by unfold prop; rw [h]]
  simp only; rw [hf]
theorem PSr.drew {K : PK} {C : List (List Int)} {w : World} {tr : List Int} {rest : List Nat} {ns kf : Int} {R : Nat → Rw} (h : PSr K C w tr rest ns kf R) : PSr K C w.drew tr rest ns kf R := { h with pw := h.pw.drew }
theorem PSr.reason {K : PK} {C : List (List Int)} {w w' : World} {tr : List Int} {rest : List Nat} {ns kf : Int} {R : Nat → Rw} {x : Rw} (h : PSr K C w tr rest ns kf R) (hp : PW K w' (valsP K.V tr) ns kf (upd R 1 x)) : PSr K C w' tr rest ns kf (upd R 1 x) :=
  ⟨hp, by rw [upd_other (by decide)]; exact h.t, by rw [upd_other (by decide)]; exact h.s, by rw [upd_other (by decide)]; exact h.o, by rw [upd_other (by decide), upd_other (by decide)]; exact h.occ, by rw [upd_other (by decide)]; exact h.cl, by rw [upd_other (by decide)]; exact h.q, by rw [upd_other (by decide)]; exact h.ql, h.cons, h.free⟩
theorem Bx.drew {w W : World} {K : PK} {tb : Nat} (h : Bx w K tb W) : Bx w K tb W.drew := ⟨h.1, World.grownBy.trans h.2.1 (grown_drew _ _), h.2.2⟩
theorem keeps_trans {W W1 W2 : World} (h1 : KeepsOthers W W1) (h2 : KeepsOthers W1 W2) : KeepsOthers W W2 := ⟨Nat.le_trans h1.1 h2.1, fun k o hk ho => h2.2 k o (h1.2 k o hk ho) ho⟩
theorem keeps_drew (W : World) : KeepsOthers W W.drew := ⟨Nat.le_refl _, fun _ _ hk _ => hk⟩
end Go.Proofs.Ythkemajekkilmaa

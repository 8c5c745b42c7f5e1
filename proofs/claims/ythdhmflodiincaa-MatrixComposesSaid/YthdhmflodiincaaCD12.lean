/- Texts of the proof: QP QR QT QW QU RI. -/
import Derived.Test.YthdhmflodiincaaCD09
import Derived.Test.YthdhmflodiincaaCD11
import Derived.Test.YthdhmflodiincaaCD08
set_option maxRecDepth 100000
set_option maxHeartbeats 8000000
namespace Go.Proofs.Ythdhmflodiincaa
open Lib (hid)
open Go.RowKit Go.Shelf

section
variable {F : Fence} {n : Nat} {P : Program}
theorem rangeYesA {α : Type} {vals : α → Array Value} {g : Operand} {ps : Array Tmp} {assign body : Code} {Q : Exit → Act → World → Prop} {a : Act} {w : World} (hro : F.round = none) (hd : F.depth = none)
    {gf : Nat} {lb : Array Value} (hg : a.eval g = .func (.func gf) #[] lb) (hFg : F.fn gf) (eg : ∀ args w, (callFunc gf args).run P w = .ok (.enter gf args) w)
    (hps : ∀ x, (vals x).size = ps.size) {caps : Nat → Prop} {xs : List α} (hseq : ∀ W, w.grownBy W none → GivesG vals F P gf lb caps xs W)
    (I : List α → World → Prop) (Safe : World → Nat → Prop) (hltS : ∀ W b, Safe W b → b < W.heap.size) (hI : AbideG w.heap.size I Safe) (hcap : ∀ b, caps b → Safe w b) (h0 : I [] w)
    (hround : ∀ (l : Nat) (pre : List α) (x : α) (W : World), I pre W → pre ++ [x] <+: xs → assign.wpIn (F.inRound l) (n - 1 - 1) P
      (Exit.then (fun a' W' => W.grownBy W' none ∧ ∀ W2, Quiet w.heap.size W' W2 → body.wpIn (F.inRound l) (n - 1 - 1) P (yesPostG I Safe (pre ++ [x]) W2) a' W2) (fun _ _ _ => False)) { tmps := (ps.zip (vals x)).foldl (fun t (p, v) => t.setIfInBounds p v) a.tmps, defers := [] } W)
    (hdone : ∀ (D : Nat) (W : World), w.heap.size ≤ D → I xs W → Safe W D → W.heap[D]? = some (.deferred (some [])) → Q .normal { a with defers := { target := .collected D, args := #[] } :: a.defers } W) :
    (Code.rangeFunc g ps assign body).wpIn F n P Q a w := by
  refine wpIn_rangeFunc fun fn hfn => ?_
  rw [hro]
  let R : LoopState → Loop := fun st => { state := st, pending := none, fn, tmps := a.tmps, params := ps, assign, body, defers := w.heap.size }
  obtain ⟨W1, hW1⟩ : ∃ W1, (w.alloc (.deferred (some []))).alloc (.loop (R .ready)) = W1 := ⟨_, rfl⟩
  have hz1 : W1.heap.size = w.heap.size + 2 := by rw [← hW1]; simp
  have hg1 : w.grownBy W1 none := by rw [← hW1]; exact (gAl w _ none).trans (gAl _ _ none)
  have hl1 : W1.heap[w.heap.size + 1]? = some (.loop (R .ready)) := by
    rw [← hW1]; have := World.alloc_heap_new (w.alloc (.deferred (some []))) (.loop (R .ready)); rwa [World.size_alloc] at this
  have hd1 : W1.heap[w.heap.size]? = some (.deferred (some [])) := by
    rw [← hW1]; exact (Below.heap_alloc _ _ _ (by simp)).trans (World.alloc_heap_new w _)
  refine ⟨w.heap.size + 1, [{ target := .collected w.heap.size, args := #[] }], W1, { target := .fn (.func gf) lb, args := #[.func (.yield (w.heap.size + 1)) #[] #[]] }, W1, gf,
    #[.func (.yield (w.heap.size + 1)) #[] #[]] ++ lb, W1, ?_, ?_, ?_, ?_, (fun h => by rw [hd] at h; cases h), ?_⟩
  · rw [← hW1]; exact run_enterLoop_outer _ _ _ _ _
  · simp only [resolve, hg]
    simp [go_sem]
  · intro f' hf'; simp [Target.leads] at hf'; subst hf'; exact hFg
  · simp [invoke, go_sem, eg]
  have hq1 : Quiet w.heap.size w W1 := .of_none hg1
  refine (hseq W1 hg1 (n - 1) (w.heap.size + 1) (fun pre W => I pre W ∧ W.heap[w.heap.size + 1]? = some (.loop (R .ready)) ∧ W.heap[w.heap.size]? = some (.deferred (some [])) ∧ Safe W (w.heap.size + 1) ∧ Safe W w.heap.size) Safe
    (fun b hb => hI.safe _ _ _ b h0 hq1 (hcap b hb)) ⟨?_, ?_, ?_⟩ ?_
    ⟨hI.keep _ _ _ h0 hq1, hl1, hd1, hI.fresh _ _ _ _ h0 hq1 (by omega) (by omega), hI.fresh _ _ _ _ h0 hq1 (by omega) (by omega)⟩).mono ?_
  · rintro s A A' ⟨hi, hl, hk, hsl, hsk⟩ hq
    have hq' := hq.less (B' := w.heap.size) (by omega)
    obtain ⟨row, hgr, hr⟩ := hq
    exact ⟨hI.keep _ _ _ hi hq', (hgr.block _ (Array.getElem?_eq_some_iff.1 hl).1 (fun e => by have := (hr _ e.symm).1; omega)).trans hl,
      (hgr.block _ (Array.getElem?_eq_some_iff.1 hk).1 (fun e => by have := (hr _ e.symm).1; omega)).trans hk, hI.safe _ _ _ _ hi hq' hsl, hI.safe _ _ _ _ hi hq' hsk⟩
  · rintro s A A' b ⟨hi, _⟩ hq hs
    exact hI.safe _ _ _ b hi (hq.less (by omega)) hs
  · rintro s A A' b ⟨hi, _⟩ hq h1 h2
    exact hI.fresh _ _ _ b hi (hq.less (by omega)) h1 h2
  · rintro pre x W ⟨hi, hl, hk, hsl, hsk⟩ hpre
    have hlt : w.heap.size + 1 < W.heap.size := (Array.getElem?_eq_some_iff.1 hl).1
    refine ⟨fn, _, assign, body, run_yield hl (hps x), roundIn_of_wpIn hfn ?_⟩
    refine wpIn_mono (hround _ pre x W hi hpre) ?_
    rintro e a1 W1' h1
    cases e with
    | normal => ?_
    | _ => exact h1.elim
    obtain ⟨hgW, hb⟩ := h1
    have hl' : W1'.heap[w.heap.size + 1]? = some (.loop (R .ready)) := (hgW.block _ hlt (by simp)).trans hl
    have hk' : W1'.heap[w.heap.size]? = some (.deferred (some [])) := (hgW.block _ (by omega) (by simp)).trans hk
    have hi' := hI.keep _ _ _ hi (.of_none hgW)
    have hsl' := hI.safe _ _ _ _ hi (.of_none hgW) hsl
    have hsk' := hI.safe _ _ _ _ hi (.of_none hgW) hsk
    have hlt' : w.heap.size + 1 < W1'.heap.size := Nat.lt_of_lt_of_le hlt hgW.size
    refine ⟨_, run_beginRound hl' rfl, ?_⟩
    have hqb : Quiet w.heap.size W1' (W1'.putObj (w.heap.size + 1) (.loop (R .busy))) := .put _ (by omega) hl' rfl
    refine wpIn_mono (hb _ hqb) ?_
    rintro e a3 W3 hp
    cases e with
    | normal =>
      obtain ⟨hi3, hs3⟩ := hp
      have h3 := hs3 (w.heap.size + 1) (hI.safe _ _ _ _ hi' hqb hsl')
      have k3 := hs3 w.heap.size (hI.safe _ _ _ _ hi' hqb hsk')
      have hl3 : W3.heap[w.heap.size + 1]? = some (.loop (R .busy)) := h3.1.trans (World.putObj_heap_same hlt')
      have hk3 : W3.heap[w.heap.size]? = some (.deferred (some [])) := (k3.1.trans (World.putObj_heap_other (by omega))).trans hk'
      have hq4 : Quiet w.heap.size W3 (W3.putObj (w.heap.size + 1) (.loop (R .ready))) := .put _ (by omega) hl3 rfl
      have hlt3 : w.heap.size + 1 < W3.heap.size := (Array.getElem?_eq_some_iff.1 hl3).1
      refine ⟨_, _, run_endRound (P := P) none hl3, rfl, ⟨hI.keep _ _ _ hi3 hq4, World.putObj_heap_same hlt3, (World.putObj_heap_other (by omega)).trans hk3, hI.safe _ _ _ _ hi3 hq4 h3.2, hI.safe _ _ _ _ hi3 hq4 k3.2⟩, ?_⟩
      intro b hb
      have hb0 := hI.safe _ _ _ b hi (.of_none hgW) hb
      have e0 : W1'.heap[b]? = W.heap[b]? := hgW.block b (hltS W b hb) (by simp)
      have hb2 := hI.safe _ _ _ b hi' hqb hb0
      have hb3 := hs3 b hb2
      refine ⟨?_, hI.safe _ _ _ b hi3 hq4 hb3.2⟩
      by_cases hbl : b = w.heap.size + 1
      · subst hbl
        exact (World.putObj_heap_same hlt3).trans hl.symm
      · exact (((World.putObj_heap_other hbl).trans hb3.1).trans (World.putObj_heap_other hbl)).trans e0
    | _ => exact hp.elim
  · rintro e W2 ⟨⟨v, rfl⟩, hi, hl, hk, _, hsk⟩
    exact ⟨none, _, run_endLoop hl (by simp [R]), hdone _ _ (Nat.le_refl _) (hI.keep _ _ _ hi (.put _ (by omega) hl rfl)) (hI.safe _ _ _ _ hi (.put _ (by omega) hl rfl) hsk) ((World.putObj_heap_other (by omega)).trans hk)⟩
end
end Go.Proofs.Ythdhmflodiincaa
namespace Go.Proofs.Ythdhmflodiincaa
open Lib (hid)
open Go.RowKit Go.Maps

theorem Saved.trans {Safe : World → Nat → Prop} {A B C : World} (h : Saved Safe A B) (h2 : Saved Safe B C) : Saved Safe A C := fun b hb => ⟨(h2 b (h b hb).2).1.trans (h b hb).1, (h2 b (h b hb).2).2⟩
theorem Saved.cell {p m : Nat} {A B : World} (h : Saved (SafeM p m) A B) {a : Addr} {v : Value} (hs : SafeM p m A a.block) (hc : A.cell? a = some v) : B.cell? a = some v := (World.cell?_of_block (h _ hs).1).trans hc
theorem Saved.drew (p m : Nat) (W : World) : Saved (SafeM p m) W W.drew := fun _ hb => ⟨rfl, hb⟩
theorem MSt.drew {W0 W : World} {p q m : Nat} {ar : Int} {g : List Gt} {l : List Cl} (h : MSt W0 p q m ar g l W) : MSt W0 p q m ar g l W.drew :=
 (msafe_keep (B := p) h (Quiet.of_none (A' := W.drew) ⟨rfl, rfl, rfl, Nat.le_refl _, fun _ _ _ => rfl⟩) (Nat.le_refl _)).1
theorem MB.rowOf {m : Nat} {w : World} {ar : Int} {l : List Cl} (h : MB m w ar l) {a : Option Addr} {c : Nat} (hc : w.cell? ⟨m, 1, none⟩ = some (.slice a l.length c)) : w.ownsRow (m + 1) 71 2 (.slice a l.length c) l.length (clCells l) := by
 obtain ⟨a', c', h1, h2⟩ := h.row
 rw [hc] at h1
 injection h1 with h1
 rw [h1]
 exact h2
theorem MSt.kept0 {W0 W W' : World} {p q m : Nat} {ar : Int} {g : List Gt} {l : List Cl} (h : MSt W0 p q m ar g l W) {a : Option Addr} {c : Nat} (hc : W.cell? ⟨m, 1, none⟩ = some (.slice a l.length c)) (hg : W.grownBy W' (Value.slice a l.length c).ownBlock) : Saved (SafeM p m) W W' ∧ W'.cell? ⟨m, 1, none⟩ = some (.slice a l.length c) ∧ W'.frozen? ⟨m, 1, none⟩ = false := by
 obtain ⟨hi, hx⟩ := h.gx
 have hown := h.mb.rowOf hc
 have hrow : ∀ b, (Value.slice a l.length c).ownBlock = some b → OwnB m W b := fun b e => .inr ⟨_, hc, e⟩
 have hmr : ∀ b, (Value.slice a l.length c).ownBlock = some b → m < b := fun b e => (hown.lt b e).1
 have ho : Off (OwnB m W) W W' := Off.of hg hrow
 have hm1 : some m ≠ (Value.slice a l.length c).ownBlock := fun e => by have := hmr m e.symm; omega
 have hcm : W'.cell? ⟨m, 1, none⟩ = some (.slice a l.length c) := hg.cell hc hm1
 have hfr : W'.frozen? ⟨m, 1, none⟩ = false := (World.frozen?_of_block (a := ⟨m, 1, none⟩) (hg.block m h.mb.lt hm1)).trans (h.mb.fr 1)
 refine ⟨fun b hb => ⟨ho.at_ hb.1 hb.2.2, Nat.lt_of_lt_of_le hb.1 ho.size, fun e => hb.2.1 (hx.own_kept (ho.cells (fun e => h.apart p (.inl rfl) e)) e), fun e => ?_⟩, hcm, hfr⟩
 rcases e with e | ⟨v, e, e2⟩
 · exact hb.2.2 (.inl e)
 ·
  rw [hcm] at e
  exact hb.2.2 (.inr ⟨v, by rw [hc]; exact e, e2⟩)
structure LoopI (w Wb : World) (p q m : Nat) (ar : Int) (f : List Cl → Mg → Pr (List Cl)) (gs : List Gt) (pre : List Mg) (W : World) : Prop where
 ex : ∃ g l, MSt w p q m ar g l W ∧ (foldP f pre []).run gs = (g, l) ∧ Good g ∧ gs <+: g ∧ g.length ≤ gs.length + 2 * pre.length ∧ l.length ≤ pre.length
 low : ∀ b, SafeM p m Wb b → W.heap[b]? = Wb.heap[b]? ∧ SafeM p m W b
theorem LoopI.cell {w Wb : World} {p q m : Nat} {ar : Int} {f : List Cl → Mg → Pr (List Cl)} {gs : List Gt} {pre : List Mg} {W : World} (h : LoopI w Wb p q m ar f gs pre W) {a : Addr} {v : Value} (hs : SafeM p m Wb a.block) (hc : Wb.cell? a = some v) : W.cell? a = some v := (World.cell?_of_block (h.low _ hs).1).trans hc
theorem loopI_abide {w Wb : World} {p q m : Nat} {ar : Int} {f : List Cl → Mg → Pr (List Cl)} {gs : List Gt} {B : Nat} (hp : p ≤ B) (hB : Wb.heap.size ≤ B) : AbideG B (LoopI w Wb p q m ar f gs) (SafeM p m) := by
 refine ⟨?_, ?_, ?_⟩
 ·
  rintro s A A' ⟨⟨g, l, h1, h2⟩, hl⟩ hq
  have hk := msafe_keep h1 hq hp
  refine ⟨⟨g, l, hk.1, h2⟩, fun b hb => ⟨?_, hk.2.1 b (hl b hb).2⟩⟩
  obtain ⟨row, hg, hr⟩ := hq
  exact (hg.block b (hl b hb).2.1 (fun e => by have h3 := (hr b e.symm).1; have h4 := hb.1; omega)).trans (hl b hb).1
 ·
  rintro s A A' b ⟨⟨g, l, h1, h2⟩, hl⟩ hq hs
  exact (msafe_keep h1 hq hp).2.1 b hs
 ·
  rintro s A A' b ⟨⟨g, l, h1, h2⟩, hl⟩ hq h3 h4
  exact (msafe_keep h1 hq hp).2.2 b h3 h4
theorem LoopI.next {w Wb : World} {p q m : Nat} {ar : Int} {f : List Cl → Mg → Pr (List Cl)} {gs : List Gt} {pre : List Mg} {x : Mg} {W W' : World} (h : ∀ b, SafeM p m Wb b → W.heap[b]? = Wb.heap[b]? ∧ SafeM p m W b) {g g' : List Gt} {l l' : List Cl} (hs : MSt w p q m ar g' l' W') (hv : Saved (SafeM p m) W W') (hr : (foldP f pre []).run gs = (g, l)) (hf : (f l x).run g = (g', l'))
  (hG : Good g') (hp : gs <+: g') (hl : g'.length ≤ gs.length + 2 * (pre.length + 1)) (hl' : l'.length ≤ pre.length + 1) : LoopI w Wb p q m ar f gs (pre ++ [x]) W' := by
 refine ⟨⟨g', l', hs, ?_, hG, hp, by rw [List.length_append]; exact hl, by rw [List.length_append]; exact hl'⟩, fun b hb => ?_⟩
 · rw [run_foldP_append, hr, run_foldP_cons, run_foldP_nil, hf]
 ·
  obtain ⟨h1, h2⟩ := h b hb
  obtain ⟨h3, h4⟩ := hv b h2
  exact ⟨h3.trans h1, h4⟩
theorem LoopI.begin {w Wb : World} {p q m : Nat} {ar : Int} {f : List Cl → Mg → Pr (List Cl)} {gs : List Gt} {pre : List Mg} {V W2 : World} {B : Nat} {r s : Int} {i j : Bool} (h : LoopI w Wb p q m ar f gs pre V) (hq : Quiet B (V.alloc (.cells #[.int .i64 r, .int .i64 s, .bool i, .bool j] 83)) W2) (hp : p ≤ B) (hB : Wb.heap.size ≤ B) :
  LoopI w Wb p q m ar f gs pre W2 ∧ SafeM p m W2 V.heap.size ∧ W2.cell? ⟨V.heap.size, 0, none⟩ = some (.int .i64 r) ∧ W2.cell? ⟨V.heap.size, 1, none⟩ = some (.int .i64 s) ∧ W2.cell? ⟨V.heap.size, 2, none⟩ = some (.bool i) ∧ W2.cell? ⟨V.heap.size, 3, none⟩ = some (.bool j) := by
 have hA := loopI_abide (w := w) (Wb := Wb) (q := q) (m := m) (ar := ar) (f := f) (gs := gs) hp hB
 have hg := gAl V (.cells #[.int .i64 r, .int .i64 s, .bool i, .bool j] 83) none
 have h1 := hA.keep _ _ _ h (.of_none hg)
 have hpb := PB.new V r s i j
 exact ⟨hA.keep _ _ _ h1 hq, hA.safe _ _ _ _ h1 hq (hA.fresh _ _ _ _ h (.of_none hg) (Nat.le_refl _) (by simp)), hq.cell hpb.c0, hq.cell hpb.c1, hq.cell hpb.c2, hq.cell hpb.c3⟩
theorem kept_len (l : List Cl) (k r : Int) : (keptM l k r).length ≤ l.length + 1 := by
 unfold keptM
 split
 · omega
 · rw [List.length_append]; exact Nat.le_refl _
def AnsM (w : World) (g : List Gt) (ar : Int) (m : List Cl) (e : Ending) (w' : World) : Prop := ∃ a c b n d, e = .returned (.tuple #[.agg #[.slice a g.length c], .agg #[.int .i64 ar, .slice b n d]]) ∧ m.length = n ∧ GatesW w' a c g ∧ CellsW w' b d m ∧ w.grownBy w' none
def Ty26 (w : World) (b : Nat) : Prop := ∃ cur fr, w.heap[b]? = some (.cells cur 26 fr)
theorem Ty26.grown {w w' : World} {b : Nat} {r : Option Nat} (h : Ty26 w b) (hg : w.grownBy w' r) (hr : some b ≠ r) : Ty26 w' b := by
 obtain ⟨c, f, h⟩ := h
 exact ⟨c, f, (hg.block b (Array.getElem?_eq_some_iff.1 h).1 hr).trans h⟩
theorem Ty26.of {w w' : World} {b : Nat} (h : Ty26 w b) (e : w'.heap[b]? = w.heap[b]?) : Ty26 w' b := by
 obtain ⟨c, f, h⟩ := h
 exact ⟨c, f, e.trans h⟩
theorem Ty26.set {w : World} {b : Nat} (h : Ty26 w b) (o : Nat) (v : Value) : Ty26 (w.setCell ⟨b, o, none⟩ v) b := by
 obtain ⟨c, f, h⟩ := h
 refine ⟨c.setIfInBounds o v, f, ?_⟩
 unfold World.setCell
 simp [Array.getElem?_modify, h]
theorem CellsW.span {w : World} {a : Option Addr} {c : Nat} {l : List Cl} (h : CellsW w a c l) : Span 0 w.heap.size w (fun W => CellsW W a c l) := ⟨Nat.le_refl _, fun W hW => by
 obtain ⟨hc, h | ⟨b, o, ha, hz⟩⟩ := h
 · exact ⟨hc, .inl h⟩
 · exact ⟨hc, .inr ⟨b, o, ha, fun j z hj => ⟨(World.cell?_of_block (hW b (Nat.zero_le _) (lies_lt (hz j z hj).1))).trans (hz j z hj).1, (World.cell?_of_block (hW b (Nat.zero_le _) (lies_lt (hz j z hj).1))).trans (hz j z hj).2⟩⟩⟩⟩
theorem mg_ok {g : List Gt} (hG : Good g) {a b : List Cl} (ha : Mat g a) (hb : Mat g b) {z : Mg} (hz : z ∈ mg a b) : Ok g z.2.1 ∧ Ok g z.2.2.1 := by
 rw [mg_rk ha.1 hb.1] at hz
 obtain ⟨k, _, rfl⟩ := List.mem_map.1 hz
 exact ⟨ha.at_ok hG k, hb.at_ok hG k⟩
theorem GX.setTy {p : Nat} {M : Nat → Prop} {w : World} {gs : List Gt} {hi : Int} {t o : Nat} {v : Value} (h : GX p M w gs hi) (ht : ¬ M t) (hty : Ty26 w t) : GX p M (w.setCell ⟨t, o, none⟩ v) gs hi := by
 obtain ⟨ow, a, c, b, vis, g1, g2, g3⟩ := h
 have hgs := grown_set w t o v
 have hpt : some p ≠ some t := fun e => by injection e with e; subst e; exact ht (g3 p (.inl rfl))
 refine ⟨ow, a, c, b, vis, ⟨hgs.cell g1.c0 hpt, hgs.cell g1.c1 hpt, hgs.cell g1.c2 hpt, hgs.cell g1.c3 hpt, fun o' => (World.frozen?_of_block (a := ⟨p, o', none⟩) (hgs.block p (lies_lt g1.c0) hpt)).trans (g1.fr o'), ?_, fun k e => ⟨(g1.ix k e).1, (g1.ix k e).2.kept hgs (fun e2 => by injection e2 with e2; subst e2; exact ht (g3 k (.inr (.inr e))))⟩⟩, g2, g3⟩
 have hr := g1.row
 unfold GRow at hr ⊢
 cases ow with
 | true =>
  simp only [if_true] at hr ⊢
  refine hr.kept hgs ?_
  cases a with
  | none => exact .inl rfl
  | some x => exact .inr (fun e => by injection e with e; exact ht (g3 t (.inr (.inl ⟨rfl, x, rfl, e⟩))))
 | false =>
  simp only [Bool.false_eq_true, if_false] at hr ⊢
  by_cases htp : t < p
  ·
   refine ⟨Nat.le_trans hr.1 hgs.size, fun W hW => ?_⟩
   obtain ⟨cur, fr, hty⟩ := hty
   have htw : t < w.heap.size := (Array.getElem?_eq_some_iff.1 hty).1
   have htW : t < W.heap.size := by
    have h1 := hW t (Nat.zero_le _) htp
    have h2 : t < (w.setCell ⟨t, o, none⟩ v).heap.size := Nat.lt_of_lt_of_le htw hgs.size
    rw [Array.getElem?_eq_getElem h2] at h1
    exact (Array.getElem?_eq_some_iff.1 h1).1
   have hP : GatesW (W.putObj t (.cells cur 26 fr)) a c gs := hr.2 _ (fun k _ hk => by
    by_cases hkt : k = t
    ·
     subst hkt
     exact (World.putObj_heap_same htW).trans hty.symm
    ·
     rw [World.putObj_heap_other hkt, hW k (Nat.zero_le _) hk]
     exact hgs.block k (Nat.lt_of_lt_of_le hk hr.1) (fun e => by injection e with e; exact hkt e))
   obtain ⟨hc, h0 | ⟨k, o', ha, hk, hz⟩⟩ := hP
   · exact ⟨hc, .inl h0⟩
   ·
    have hkt : k ≠ t := fun e => by
     subst e
     obtain ⟨c2, f2, h2⟩ := hk
     rw [World.putObj_heap_same htW] at h2
     injection h2 with h2
     injection h2 with _ h2 _
     cases h2
    have hb : W.heap[k]? = (W.putObj t (.cells cur 26 fr)).heap[k]? := (World.putObj_heap_other hkt).symm
    exact ⟨hc, .inr ⟨k, o', ha, hk.of hb, fun j g hj => ⟨(World.cell?_of_block (a := ⟨k, _, none⟩) hb).trans (hz j g hj).1, (World.cell?_of_block (a := ⟨k, _, none⟩) hb).trans (hz j g hj).2.1, (World.cell?_of_block (a := ⟨k, _, none⟩) hb).trans (hz j g hj).2.2⟩⟩⟩
  · exact hr.off hgs (fun x e => by injection e with e; subst e; exact .inr (Nat.le_of_not_lt htp))
def w5 (w : World) (x0 a0 a1 b0 b1 : Value) : World := ((((w.alloc (.cells #[x0] 30)).alloc (.cells #[a0, a1] 26)).alloc (.cells #[b0, b1] 26)).alloc (.cells #[.slice none 0 0] 30)).alloc (.cells #[.int .i64 0, .slice none 0 0] 26)
structure B5 (w W : World) (x0 a0 a1 b0 b1 : Value) : Prop where
 g : w.grownBy W none
 sz : W.heap.size = w.heap.size + 5
 c : W.cell? ⟨w.heap.size, 0, none⟩ = some x0
 a0 : W.cell? ⟨w.heap.size + 1, 0, none⟩ = some a0
 a1 : W.cell? ⟨w.heap.size + 1, 1, none⟩ = some a1
 b0 : W.cell? ⟨w.heap.size + 2, 0, none⟩ = some b0
 b1 : W.cell? ⟨w.heap.size + 2, 1, none⟩ = some b1
 r : W.cell? ⟨w.heap.size + 3, 0, none⟩ = some (.slice none 0 0)
 rf : W.frozen? ⟨w.heap.size + 3, 0, none⟩ = false
 s0 : W.cell? ⟨w.heap.size + 4, 0, none⟩ = some (.int .i64 0)
 s1 : W.cell? ⟨w.heap.size + 4, 1, none⟩ = some (.slice none 0 0)
 sf0 : W.frozen? ⟨w.heap.size + 4, 0, none⟩ = false
 sf1 : W.frozen? ⟨w.heap.size + 4, 1, none⟩ = false
 ty : Ty26 W (w.heap.size + 4)
theorem b5 (w : World) (x0 a0 a1 b0 b1 : Value) : B5 w (w5 w x0 a0 a1 b0 b1) x0 a0 a1 b0 b1 := by
 unfold w5
 refine ⟨((((gAl w _ none).trans (gAl _ _ none)).trans (gAl _ _ none)).trans (gAl _ _ none)).trans (gAl _ _ none), by simp, by go_simp, by go_simp, by go_simp, by go_simp, by go_simp, by go_simp, by go_simp, by go_simp, by go_simp, by go_simp, by go_simp, ?_⟩
 have hs : ((((w.alloc (.cells #[x0] 30)).alloc (.cells #[a0, a1] 26)).alloc (.cells #[b0, b1] 26)).alloc (.cells #[.slice none 0 0] 30)).heap.size = w.heap.size + 4 := by simp
 rw [← hs]
 exact ⟨_, _, (Go.MapKept.heap_alloc _ _).1⟩
theorem MB.made (w : World) (ar : Int) : MB w.heap.size (w.alloc (.cells #[.int .i64 ar, .slice none 0 0] 26)) ar [] :=
 ⟨by go_simp, ⟨none, 0, by go_simp, World.ownsRow_nil _ _ _ _⟩, fun o => by go_simp⟩
theorem unionZ_run (a b : List Cl) (F : Mg → Pr Int) (f : Int → Pr Int) (ha : UpM a) (hb : UpM b) (hF : ∀ k, F (mgOf a b k) = f k) (gs : List Gt) : (foldP (fun m (z : Mg) => (F z).bind fun r => .ret (keptM m z.1 r)) (mg a b) []).run gs = (opP f (rk a b)).run gs := by
 rw [mg_rk ha hb, foldP_map]
 unfold opP
 congr 1
 exact foldP_congr _ (fun s x _ => by show ((F (mgOf a b x)).bind fun r => Pr.ret (keptM s x r)) = _; rw [hF])
set_option maxRecDepth 100000

theorem gcircuit_off (hs : List Gt) (p : Nat) (M : Nat → Prop) (w : World) (hi : Int) (h : GX p M w hs hi) (hl : hs.length ≤ 1000) :
  Calls Try.prog 76 #[.pointer (some ⟨p, 0, none⟩)] w fun e w' => ∃ a c, e = .returned (.agg #[.slice a hs.length c]) ∧ Span (p + 1) w'.heap.size w' (fun W => GatesW W a c hs) ∧ Off (fun k => k = p) w w' := by
 obtain ⟨o, va, vc, mb, vis, g1, g2, _⟩ := h
 have hc := one_cell w (.slice none 0 0) 30
 have hg := gAl w (.cells #[.slice none 0 0] 30) none
 obtain ⟨W, hW⟩ : ∃ W, w.alloc (.cells #[.slice none 0 0] 30) = W := ⟨_, rfl⟩
 rw [hW] at hc hg
 have HSP : o = true → Hid (Span (p + 1) w.heap.size w (fun W => GatesW W va hs.length hs)) := fun ho => by
  subst ho
  have hr := g1.row
  unfold GRow at hr
  simp only [if_true] at hr
  obtain ⟨a, c, e, hs1⟩ := gates_span hr
  cases e
  exact hid (hs1.map fun W (hW : GatesW W va vc hs) => ⟨Nat.le_refl _, hW.2⟩)
 have HB := hid (show p < w.heap.size from lies_lt g1.c0)
 have HG1 := hid hg
 have HGW := hid (g1.grown hg)
 have HG := hid hg
 have HC := hid hc
 have hcs := hc
 obtain ⟨_, r0, rf⟩ := hcs
 obtain ⟨n, hn⟩ : ∃ n, hs.length = n := ⟨_, rfl⟩
 have HN := hid hn
 clear hg g1 g2 hc hn
 rw [HN.out]
 have k0 := HGW.out.c0; have k1 := HGW.out.c1; have kf := HGW.out.fr 1
 rw [HN.out] at k0
 cases o with
 | false =>
  go_enter Try.func76, Try.ntmps76
  go_wp2_with fail
  have HX := hid (clone_calls hs va vc W HGW.out.row.gates (by omega))
  rw [HN.out] at HX
  refine HX.out.mono ?_
  rintro e w2 ⟨a', c', rfl, hs2, hg2⟩
  have HG2 := hid hg2
  have r1 := hg2.cell r0 (by simp)
  have r2 : w2.frozen? ⟨w.heap.size, 0, none⟩ = false := (grown_frozen hg2 HC.out.1 0).trans rf
  have HS := hid hs2
  clear r0 rf k0 k1 kf hg2 hs2 HX
  go_wp2_with fail
  refine bodyPost_ret (results36 _ _ w.heap.size a' n c' rfl (World.cell?_setCell_same _ _ _ r1)) rfl ⟨a', c', rfl, ?_, ?_⟩
  · exact (HS.out.off (grown_set w2 w.heap.size 0 _) (fun x e => by cases e; exact .inl HC.out.1)).wide (by have h1 := HB.out; have h2 := HC.out.1; omega) (grown_set w2 w.heap.size 0 _).size (Nat.le_refl _)
  · exact Off.of (grown_own (gT HG.out HG2.out) (grown_set w2 w.heap.size 0 _) (fun k e => by cases e; exact Nat.le_refl _)) (fun k e => by cases e)
 | true =>
  have HS := (HSP rfl)
  clear HSP
  rw [HN.out] at HS
  have hvc : n ≤ vc := by rw [← HN.out]; exact HGW.out.row.gates.1
  go_enter Try.func76, Try.ntmps76
  go_wp2_with fail
  have hpn : w.heap.size ≠ p := by have := HB.out; omega
  have k0' : (W.setCell ⟨p, 1, none⟩ (.bool false)).cell? ⟨p, 0, none⟩ = some (.slice va n vc) := by rw [World.cell?_setCell_other _ _ _ _ (ne_at (by decide))]; exact k0
  have r0' : (W.setCell ⟨p, 1, none⟩ (.bool false)).cell? ⟨w.heap.size, 0, none⟩ = some (.slice none 0 0) := by rw [World.cell?_setCell_other _ _ _ _ (by intro e; injection e with e _; exact hpn e.symm)]; exact r0
  have rf' : (W.setCell ⟨p, 1, none⟩ (.bool false)).frozen? ⟨w.heap.size, 0, none⟩ = false := by rw [World.frozen?_setCell]; exact rf
  have HS1 := hid ((HS.out.grown HG1.out).off (grown_set W p 1 (.bool false)) (fun x e => by cases e; exact .inl (by omega)))
  have HG1b := hid ((Off.of HG.out (M := fun k => k = p) (fun k e => by cases e)).trans (Off.of (grown_set W p 1 (.bool false)) (M := fun k => k = p) (fun k e => by cases e; rfl)) (fun k _ e => e))
  clear k0 k1 kf r0 rf hpn HGW HC HG HG1 HS
  obtain ⟨W1, hW1⟩ : ∃ W1, W.setCell ⟨p, 1, none⟩ (.bool false) = W1 := ⟨_, rfl⟩
  rw [hW1] at k0' r0' rf' HS1 HG1b ⊢
  clear hW1
  go_wp2_with (go_at_call 117; refine (clip_calls va n vc _ hvc).mono ?_; rintro e w2 ⟨rfl, hw2⟩; rw [hw2]; clear hw2 w2)
  refine bodyPost_ret (results36 _ _ w.heap.size va n n rfl (World.cell?_setCell_same _ _ _ r0')) rfl ⟨va, n, rfl, ?_, ?_⟩
  · exact (HS1.out.off (grown_set W1 w.heap.size 0 _) (fun x e => by cases e; exact .inr (Nat.le_refl _))).wide (Nat.le_refl _) (Nat.le_trans HS1.out.1 (grown_set W1 w.heap.size 0 _).size) (Nat.le_refl _)
  · exact HG1b.out.trans (Off.of (grown_set W1 w.heap.size 0 _) (M := fun k => k = w.heap.size) (fun k e => by cases e; rfl)) (fun k hk e => by omega)
def onlyN (Q : Exit → Act → World → Prop) : Exit → Act → World → Prop
 | .normal, a, w => Q .normal a w
 | _, _, _ => False
theorem wp_onlyN {P : Program} {c : Code} {Q : Exit → Act → World → Prop} {a : Act} {w : World} (h : c.wp P (onlyN Q) a w) : c.wp P Q a w :=
 wp_mono h fun e a w hq => by
  cases e with
  | normal => exact hq
  | _ => exact hq.elim
theorem GatesW.quiet {B : Nat} {A A' : World} {a : Option Addr} {c : Nat} {gs : List Gt} (h : GatesW A a c gs) (hq : Quiet B A A') : GatesW A' a c gs := by
 obtain ⟨hc, h | ⟨b, o, ha, ⟨cur, fr, ht⟩, hz⟩⟩ := h
 · exact ⟨hc, .inl h⟩
 ·
  refine ⟨hc, .inr ⟨b, o, ha, ⟨cur, fr, ?_⟩, fun j g hj => ⟨hq.cell (hz j g hj).1, hq.cell (hz j g hj).2.1, hq.cell (hz j g hj).2.2⟩⟩⟩
  obtain ⟨row, hg, hr⟩ := hq
  refine (hg.block b (Array.getElem?_eq_some_iff.1 ht).1 (fun e => ?_)).trans ht
  obtain ⟨_, ob, h3, h4⟩ := hr b e.symm
  rw [ht] at h3
  injection h3 with h3
  subst h3
  cases h4
theorem CellsW.quiet {B : Nat} {A A' : World} {a : Option Addr} {c : Nat} {l : List Cl} (h : CellsW A a c l) (hq : Quiet B A A') : CellsW A' a c l := by
 obtain ⟨hc, h | ⟨b, o, ha, hz⟩⟩ := h
 · exact ⟨hc, .inl h⟩
 · exact ⟨hc, .inr ⟨b, o, ha, fun j x hj => ⟨hq.cell (hz j x hj).1, hq.cell (hz j x hj).2⟩⟩⟩
theorem GX.quiet {p : Nat} {M : Nat → Prop} {A A' : World} {g : List Gt} {hi : Int} {B : Nat} (hx : GX p M A g hi) (hq : Quiet B A A') (hB : p ≤ B) : GX p M A' g hi := by
 have hc : ∀ {a : Addr} {v : Value}, A.cell? a = some v → A'.cell? a = some v := fun h => hq.cell h
 obtain ⟨row, hgr, hrow⟩ := hq
 have hnc : ∀ r, row = some r → ∀ v o, A.cell? ⟨r, o, none⟩ ≠ some v := fun r e v o hv => by
  obtain ⟨_, ob, h1, h2⟩ := hrow r e
  unfold World.cell? at hv
  rw [h1] at hv
  cases ob <;> simp [loopy] at h2 hv
 obtain ⟨o, va, vc, mb, vis, g1, g2, g3⟩ := hx
 have hp : some p ≠ row := fun e => hnc p e.symm _ 0 g1.c0
 refine ⟨o, va, vc, mb, vis, ⟨hc g1.c0, hc g1.c1, hc g1.c2, hc g1.c3, fun o' => (World.frozen?_of_block (a := ⟨p, o', none⟩) (hgr.block p (lies_lt g1.c0) hp)).trans (g1.fr o'), ?_, ?_⟩, g2, g3⟩
 ·
  refine g1.row.far hgr (fun r e => ⟨Nat.le_trans hB (hrow r e).1, ?_⟩)
  rintro ⟨rfl, x, rfl, e2⟩
  obtain ⟨_, ob, h3, h4⟩ := hrow r e
  have hr := g1.row
  unfold GRow at hr
  simp only [if_true] at hr
  rcases hr.2 with ⟨h5, _⟩ | ⟨g', cap, cur, h5, _, h6, _⟩
  · cases h5
  ·
   injection h5 with h5 _ _
   injection h5 with h5
   rw [h5] at e2
   have hv' : g' = r := e2
   subst hv'
   rw [h6] at h3
   injection h3 with h3
   subst h3
   cases h4
 ·
  intro b e
  refine ⟨(g1.ix b e).1, (g1.ix b e).2.kept hgr (fun e2 => ?_)⟩
  obtain ⟨_, ob, h3, h4⟩ := hrow b e2.symm
  obtain ⟨D, ⟨es, clock, hb, _⟩, _⟩ := (g1.ix b e).2
  rw [hb] at h3
  injection h3 with h3
  subst h3
  cases h4
structure FinA (w V : World) (K : Nat → Prop) (lo : Nat) (ma : Option Addr) (mc : Nat) (l : List Cl) (cur : World) : Prop where
 kp : ∀ k, K k → k < V.heap.size → cur.heap[k]? = V.heap[k]?
 row : Span lo V.heap.size cur (fun W => CellsW W ma mc l)
 gw : w.grownBy cur none
theorem FinA.step {w V : World} {K : Nat → Prop} {lo : Nat} {ma : Option Addr} {mc : Nat} {l : List Cl} {cur cur' : World} {M : Nat → Prop} (h : FinA w V K lo ma mc l cur) (ho : Off M cur cur') (hm : ∀ k, M k → w.heap.size ≤ k ∧ ¬ K k ∧ k < lo) : FinA w V K lo ma mc l cur' := by
 refine ⟨fun k hk hv => ?_, ⟨Nat.le_trans h.row.1 ho.size, fun W hW => h.row.2 W (fun b h1 h2 => (hW b h1 h2).trans (ho.block b (Nat.lt_of_lt_of_le h2 h.row.1) (fun e => by have := (hm b e).2.2; omega)))⟩, ho.grown h.gw (fun k e => (hm k e).1)⟩
 have e := h.kp k hk hv
 exact (ho.block k (size_of_heap e hv) (fun e2 => (hm k e2).2.1 hk)).trans e
def Rc (w : World) (b o : Nat) (v : Value) : Prop := w.cell? ⟨b, o, none⟩ = some v ∧ w.frozen? ⟨b, o, none⟩ = false
theorem Rc.step {w w' : World} {b o : Nat} {v : Value} {M : Nat → Prop} (h : Rc w b o v) (ho : Off M w w') (hm : ¬ M b) : Rc w' b o v := ⟨ho.cell h.1 hm, (ho.frozen (lies_lt h.1) hm o).trans h.2⟩
theorem Rc.set {w : World} {b o : Nat} {v : Value} (h : Rc w b o v) (x : Value) : Rc (w.setCell ⟨b, o, none⟩ x) b o x := ⟨World.cell?_setCell_same _ _ _ h.1, by rw [World.frozen?_setCell]; exact h.2⟩
theorem Rc.other {w : World} {b o o' : Nat} {v : Value} (h : Rc w b o v) (ho : o' ≠ o) (x : Value) : Rc (w.setCell ⟨b, o', none⟩ x) b o v := ⟨by rw [World.cell?_setCell_other _ _ _ _ (ne_at ho)]; exact h.1, by rw [World.frozen?_setCell]; exact h.2⟩
theorem off_set (w : World) (b o : Nat) (v : Value) : Off (fun k => k = b) w (w.setCell ⟨b, o, none⟩ v) := Off.of (grown_set w b o v) (fun k e => by cases e; rfl)
theorem off_set2 (w : World) (b : Nat) (u v : Value) : Off (fun k => k = b) w ((w.setCell ⟨b, 0, none⟩ u).setCell ⟨b, 1, none⟩ v) := (off_set w b 0 u).trans (off_set _ b 1 v) (fun _ _ e => e)
theorem Span.away {lo hi : Nat} {w w' : World} {P : World → Prop} {M : Nat → Prop} (h : Span lo hi w P) (ho : Off M w w') (hm : ∀ k, M k → k < lo) : Span lo hi w' P :=
 ⟨Nat.le_trans h.1 ho.size, fun W hW => h.2 W (fun b h1 h2 => (hW b h1 h2).trans (ho.block b (Nat.lt_of_lt_of_le h2 h.1) (fun e => by have := hm b e; omega)))⟩

theorem ints_new {w : World} {B n : Nat} {a : Option Addr} {c : Nat} {l : List Int} (h : w.ownsRow B 3 1 (.slice a n c) n (intCells l)) (hn : l.length = n) {N : Nat → Prop} (hN : ∀ k, N k → k < B) : IntsN N w a c l := by
 have hc := @World.ownsRow.cells w B 3 1 (.slice a n c) n _ h
 rcases h.2 with ⟨hv, h0⟩ | ⟨g, cap, cur, e1, hb, hg, hnc, hcm, _⟩
 ·
  subst h0
  exact ⟨by omega, .inl (List.eq_nil_of_length_eq_zero hn)⟩
 ·
  injection e1 with e1 _ e2
  subst e1 e2
  refine ⟨by omega, .inr ⟨g, 0, rfl, fun e => by have := hN g e; omega, (Array.getElem?_eq_some_iff.1 hg).1, fun j z hj => ?_⟩⟩
  have h1 := hc (g := g) rfl j (.int .i64 z) (by rw [List.getElem?_map, hj]; rfl)
  rw [add_at] at h1
  rw [Nat.zero_add]
  exact h1
theorem references_new (m : List Cl) (ar : Int) (a : Option Addr) (c : Nat) (w : World) (h : CellsW w a c m) (hl : m.length ≤ 1000) :
  Calls Try.prog 89 #[.agg #[.int .i64 ar, .slice a m.length c]] w fun e w' => ∃ b d, e = .returned (.slice b m.length d) ∧ (∀ N : Nat → Prop, (∀ k, N k → k < w.heap.size) → IntsN N w' b d (m.map (·.2))) ∧ w.grownBy w' none := by
 obtain ⟨n, hn⟩ : ∃ n, m.length = n := ⟨_, rfl⟩
 have HN := hid hn
 rw [hn] at hl ⊢
 have hg1 := gAl w (.cells #[.int .i64 ar, .slice a n c] 26) none
 have hc1 := one_cells w (.int .i64 ar) (.slice a n c) 26
 obtain ⟨W1, hW1⟩ : ∃ z, w.alloc (.cells #[.int .i64 ar, .slice a n c] 26) = z := ⟨_, rfl⟩
 rw [hW1] at hg1 hc1
 obtain ⟨bM, hbM⟩ : ∃ z, w.heap.size = z := ⟨_, rfl⟩
 rw [hbM] at hc1
 have HQ := hid (And.intro hc1.2.1 hc1.2.2.1)
 have HM := hid (h.grown hg1)
 have HG := hid hg1
 obtain ⟨i0, hi0, hz0, hz1, hz2⟩ := info_parts info3
 obtain ⟨BZ, hBZ⟩ : ∃ z, W1.heap.size = z := ⟨_, rfl⟩
 have HBZ := hid hBZ
 have y0 := HQ.out.1
 have y1 := HQ.out.2
 clear h hn hg1 hc1 hBZ
 go_enter Try.func89, Try.ntmps89
 go_wp2_with fail
 clear hW1 hbM y0 y1
 go_loopg [3, 9] n (fun gk s3 s9 wr => ∃ (k : Nat) (xa : Option Addr) (xc : Nat), s3 = .slice xa k xc ∧ s9 = .int .i64 (k : Int) ∧ gk = n - k ∧ k ≤ n ∧ wr.ownsRow BZ 3 1 (.slice xa k xc) k (intCells ((m.take k).map (·.2))) ∧ W1.grownBy wr none ∧ BZ ≤ wr.heap.size)
 case atStart => exact ⟨0, _, _, rfl, rfl, rfl, Nat.zero_le _, World.ownsRow_nil _ _ _ _, grown_refl _ _, by rw [HBZ.out]; exact Nat.le_refl _⟩
 case round =>
  obtain ⟨k, xa, xc, rfl, rfl, hgk, hk, hown, hgr, hbz⟩ := hrel
  have HI := hid hgk; clear hgk
  have HOW := hid hown; clear hown
  have HGR := hid hgr; clear hgr
  have HZR := hid hbz; clear hbz
  by_cases hkn : k < n
  ·
   have f1 : decide (k < n) = true := decide_eq_true hkn
   have f2 : decide ((k : Int) < (n : Int)) = true := decide_eq_true (by omega)
   have hk1 : IntKind.i64.wrap ((k : Int) + 1) = ((k + 1 : Nat) : Int) := by rw [IntWalk.i64_in _ (by omega)]; omega
   have hj0 : (0 : Int) ≤ (k : Int) := by omega
   have hj1 : (k : Int) < (n : Int) := by omega
   obtain ⟨x, hx⟩ : ∃ r, m[k]? = some r := ⟨_, List.getElem?_eq_getElem (by rw [HN.out]; exact hkn)⟩
   obtain ⟨ba, oa, rfl, x0, x1⟩ := (HM.out.grown HGR.out).at hx
   have HST := hid (refs_snoc hx)
   obtain ⟨Lk, hLk⟩ : ∃ L, (m.take k).map (·.2) = L := ⟨_, rfl⟩
   rw [hLk] at HST HOW
   clear hx hLk
   go_upto_region 5 with fail
   have g5 := gAl wr (.cells #[.int .i64 x.1, .int .i64 x.2] 71) none
   have hc5 := one_cells wr (.int .i64 x.1) (.int .i64 x.2) 71
   obtain ⟨U, hU⟩ : ∃ z, wr.alloc (.cells #[.int .i64 x.1, .int .i64 x.2] 71) = z := ⟨_, rfl⟩
   rw [hU] at g5 hc5 ⊢
   obtain ⟨bx, hbx⟩ : ∃ z, wr.heap.size = z := ⟨_, rfl⟩
   rw [hbx] at hc5 ⊢
   have z1 := hc5.2.2.1
   have HGU := hid (gT HGR.out g5)
   have HO2 := hid (own_grown HOW.out g5)
   have HZ2 := hid (Nat.le_trans HZR.out g5.size)
   clear hU hbx g5 hc5 x0 x1
   go_wp2_with (at_builtin; refine wpList_append_own_at _ rfl _ _ 31 rfl BZ 3 i0 (.int .i64 0) 1 8 Try.underlying31 hi0 hz0 hz1 hz2 rfl (by decide) _ k (intCells Lk) rfl (HO2.out.alloc _) ⟨U.heap.size, 0, none⟩ 1 1 [.int .i64 x.2] rfl rfl (cell_one_new _ _ _) (fun u hu => by simp at hu; subst hu; rfl) (by unfold maxLen; omega) (by omega) (by have := HZ2.out; simp; omega) ?_)
   intro v' w6 hown' hgrow6 _ hat6
   obtain ⟨rgA, rcA, rfl⟩ := own_shape hown'
   have haA := gAl U (.cells #[.int .i64 x.2] 3) none
   have HG6 := hid (grown_own (gT HGU.out haA) hgrow6 (fun x e => by have h1 := (HO2.out.lt x e).1; have h2 := HBZ.out; omega))
   have HO6 := hid (show w6.ownsRow BZ 3 1 (.slice rgA (k + 1) rcA) (k + 1) (intCells ((m.take (k + 1)).map (·.2))) from by rw [HST.out, intCells, List.map_append]; exact hown')
   have HZ6 := hid (Nat.le_trans HZ2.out (Nat.le_trans haA.size hgrow6.size))
   clear hown' hgrow6 haA hat6 z1
   go_wp2_with fail
   go_roundg (n - (k + 1))
   case measure => rw [HI.out]; omega
   case rel => exact ⟨k + 1, rgA, rcA, rfl, rfl, rfl, by omega, HO6.out, HG6.out, HZ6.out⟩
  ·
   have f1 : decide (k < n) = false := decide_eq_false hkn
   have f2 : decide ((k : Int) < (n : Int)) = false := decide_eq_false (by omega)
   have hkn2 : k = n := by omega
   subst hkn2
   have HF := hid (show ∀ N : Nat → Prop, (∀ k, N k → k < w.heap.size) → IntsN N wr xa xc (m.map (·.2)) from fun N hN => by
    have h := HOW.out
    rw [List.take_of_length_le (by rw [HN.out]; omega)] at h
    exact ints_new h (by rw [List.length_map, HN.out]) (fun b hb => by have := hN b hb; have := HG.out.size; have := HBZ.out; omega))
   clear hkn
   go_wp2_with fail
   go_ret
   exact ⟨xa, xc, rfl, HF.out, gT HG.out HGR.out⟩

structure RSt (W0 : World) (p q m : Nat) (g : List Gt) (r : Int) (W : World) : Prop where
 gx : ∃ hi, GX p (OwnC p W) W g hi
 q0 : W.cell? ⟨q, 0, none⟩ = some (.pointer (some ⟨p, 0, none⟩))
 rc : Rc W m 0 (.int .i64 r)
 grown : W0.grownBy W none
 low : W0.heap.size ≤ p ∧ p < m ∧ W0.heap.size ≤ q
 apart : ¬ OwnC p W m
 nq : ¬ OwnC p W q ∧ q ≠ m
def SafeR (p m : Nat) (W : World) (b : Nat) : Prop := b < W.heap.size ∧ ¬ OwnC p W b ∧ b ≠ m
theorem Saved.cellR {p m : Nat} {A B : World} (h : Saved (SafeR p m) A B) {a : Addr} {v : Value} (hs : SafeR p m A a.block) (hc : A.cell? a = some v) : B.cell? a = some v := (World.cell?_of_block (h _ hs).1).trans hc
theorem RSt.step {W0 W W' : World} {p q m : Nat} {g g' : List Gt} {r : Int} (h : RSt W0 p q m g r W) {hi : Int} (hx : GX p (fun k => OwnC p W k ∨ W.heap.size ≤ k) W' g' hi) (ho : Off (OwnC p W) W W') : RSt W0 p q m g' r W' ∧ Saved (SafeR p m) W W' := by
 have hoc : ∀ k, OwnC p W' k → OwnC p W k ∨ W.heap.size ≤ k := fun k hk => hx.own_in hk
 have hq : q < W.heap.size := lies_lt h.q0
 have hm : m < W.heap.size := lies_lt h.rc.1
 obtain ⟨hi0, hg0⟩ := h.gx
 refine ⟨⟨⟨hi, hx.own⟩, ho.cell h.q0 h.nq.1, h.rc.step ho h.apart, ?_, h.low, fun e => ?_, fun e => ?_, h.nq.2⟩, fun b hb => ⟨ho.at_ hb.1 hb.2.1, Nat.lt_of_lt_of_le hb.1 ho.size, fun e => ?_, hb.2.2⟩⟩
 · exact ho.grown h.grown (fun k hk => Nat.le_trans h.low.1 (hg0.own_lt hk).1)
 ·
  rcases hoc m e with h1 | h1
  · exact h.apart h1
  · omega
 ·
  rcases hoc q e with h1 | h1
  · exact h.nq.1 h1
  · omega
 ·
  rcases hoc b e with h1 | h1
  · exact hb.2.1 h1
  · have := hb.1; omega
theorem RSt.set {W0 W : World} {p q m : Nat} {g : List Gt} {r : Int} (h : RSt W0 p q m g r W) (x : Int) : RSt W0 p q m g x (W.setCell ⟨m, 0, none⟩ (.int .i64 x)) ∧ Saved (SafeR p m) W (W.setCell ⟨m, 0, none⟩ (.int .i64 x)) := by
 have ho := off_set W m 0 (.int .i64 x)
 obtain ⟨hi, hx⟩ := h.gx
 have hm : m < W.heap.size := lies_lt h.rc.1
 have hpm : m ≠ p := fun e => h.apart (.inl e)
 have hgx : GX p (OwnC p W) (W.setCell ⟨m, 0, none⟩ (.int .i64 x)) g hi := hx.far (grown_set W m 0 _) (fun k e => by cases e; exact ⟨by have := h.low; omega, h.apart⟩)
 have hoc : ∀ k, OwnC p (W.setCell ⟨m, 0, none⟩ (.int .i64 x)) k → OwnC p W k := fun k hk => hgx.own_in hk
 refine ⟨⟨⟨hi, hgx.own⟩, ho.cell h.q0 h.nq.2, h.rc.set _, ho.grown h.grown (fun k hk => by have e : k = m := hk; have := h.low; omega), h.low, fun e => h.apart (hoc m e), fun e => h.nq.1 (hoc q e), h.nq.2⟩, fun b hb => ⟨ho.at_ hb.1 hb.2.2, Nat.lt_of_lt_of_le hb.1 ho.size, fun e => hb.2.1 (hoc b e), hb.2.2⟩⟩
theorem rsafe_keep {W0 : World} {p q m : Nat} {g : List Gt} {r : Int} {A A' : World} {B : Nat} (h : RSt W0 p q m g r A) (hq : Quiet B A A') (hB : p ≤ B) : RSt W0 p q m g r A' ∧ (∀ b, SafeR p m A b → SafeR p m A' b) ∧ ∀ b, A.heap.size ≤ b → b < A'.heap.size → SafeR p m A' b := by
 have hc : ∀ {a : Addr} {v : Value}, A.cell? a = some v → A'.cell? a = some v := fun h => hq.cell h
 obtain ⟨hi, hx⟩ := h.gx
 have hoc : ∀ {k}, OwnC p A' k → OwnC p A k := fun {k} hk => hx.own_kept (fun o v hv => hc hv) hk
 have hm : m < A.heap.size := lies_lt h.rc.1
 have hgx := hx.quiet hq hB
 obtain ⟨row, hgr, hrow⟩ := hq
 have hmr : some m ≠ row := fun e => by
  obtain ⟨_, ob, h1, h2⟩ := hrow m e.symm
  have hv := h.rc.1
  unfold World.cell? at hv
  rw [h1] at hv
  cases ob <;> simp [loopy] at h2 hv
 refine ⟨⟨⟨hi, hgx.own⟩, hc h.q0, ⟨hc h.rc.1, (World.frozen?_of_block (a := ⟨m, 0, none⟩) (hgr.block m hm hmr)).trans h.rc.2⟩, ?_, h.low, fun e => h.apart (hoc e), fun e => h.nq.1 (hoc e), h.nq.2⟩, fun b hb => ⟨Nat.lt_of_lt_of_le hb.1 hgr.size, fun e => hb.2.1 (hoc e), hb.2.2⟩, fun b h1 h2 => ⟨h2, fun e => ?_, fun e => by omega⟩⟩
 · exact grown_own h.grown hgr (fun r e => by have := (hrow r e).1; have := h.low; omega)
 · have := (hx.own_lt (hoc e)).2; omega
theorem RSt.drew {W0 W : World} {p q m : Nat} {g : List Gt} {r : Int} (h : RSt W0 p q m g r W) : RSt W0 p q m g r W.drew :=
 (rsafe_keep (B := p) h (Quiet.of_none (A' := W.drew) ⟨rfl, rfl, rfl, Nat.le_refl _, fun _ _ _ => rfl⟩) (Nat.le_refl _)).1
structure LoopR (w Wb : World) (p q m : Nat) (f : Int → Mg → Pr Int) (gs : List Gt) (pre : List Mg) (W : World) : Prop where
 ex : ∃ g r, RSt w p q m g r W ∧ (foldP f pre 0).run gs = (g, r) ∧ Good g ∧ Ok g r ∧ gs <+: g ∧ g.length ≤ gs.length + 2 * pre.length
 low : ∀ b, SafeR p m Wb b → W.heap[b]? = Wb.heap[b]? ∧ SafeR p m W b
theorem loopR_abide {w Wb : World} {p q m : Nat} {f : Int → Mg → Pr Int} {gs : List Gt} {B : Nat} (hp : p ≤ B) (hB : Wb.heap.size ≤ B) : AbideG B (LoopR w Wb p q m f gs) (SafeR p m) := by
 refine ⟨?_, ?_, ?_⟩
 ·
  rintro s A A' ⟨⟨g, l, h1, h2⟩, hl⟩ hq
  have hk := rsafe_keep h1 hq hp
  refine ⟨⟨g, l, hk.1, h2⟩, fun b hb => ⟨?_, hk.2.1 b (hl b hb).2⟩⟩
  obtain ⟨row, hg, hr⟩ := hq
  exact (hg.block b (hl b hb).2.1 (fun e => by have h3 := (hr b e.symm).1; have h4 := hb.1; omega)).trans (hl b hb).1
 ·
  rintro s A A' b ⟨⟨g, l, h1, h2⟩, hl⟩ hq hs
  exact (rsafe_keep h1 hq hp).2.1 b hs
 ·
  rintro s A A' b ⟨⟨g, l, h1, h2⟩, hl⟩ hq h3 h4
  exact (rsafe_keep h1 hq hp).2.2 b h3 h4
theorem LoopR.begin {w Wb : World} {p q m : Nat} {f : Int → Mg → Pr Int} {gs : List Gt} {pre : List Mg} {V W2 : World} {B : Nat} {r s : Int} {i j : Bool} (h : LoopR w Wb p q m f gs pre V) (hq : Quiet B (V.alloc (.cells #[.int .i64 r, .int .i64 s, .bool i, .bool j] 83)) W2) (hp : p ≤ B) (hB : Wb.heap.size ≤ B) :
  LoopR w Wb p q m f gs pre W2 ∧ SafeR p m W2 V.heap.size ∧ W2.cell? ⟨V.heap.size, 0, none⟩ = some (.int .i64 r) ∧ W2.cell? ⟨V.heap.size, 1, none⟩ = some (.int .i64 s) ∧ W2.cell? ⟨V.heap.size, 2, none⟩ = some (.bool i) ∧ W2.cell? ⟨V.heap.size, 3, none⟩ = some (.bool j) := by
 have hA := loopR_abide (w := w) (Wb := Wb) (q := q) (m := m) (f := f) (gs := gs) hp hB
 have hg := gAl V (.cells #[.int .i64 r, .int .i64 s, .bool i, .bool j] 83) none
 have h1 := hA.keep _ _ _ h (.of_none hg)
 have hpb := PB.new V r s i j
 exact ⟨hA.keep _ _ _ h1 hq, hA.safe _ _ _ _ h1 hq (hA.fresh _ _ _ _ h (.of_none hg) (Nat.le_refl _) (by simp)), hq.cell hpb.c0, hq.cell hpb.c1, hq.cell hpb.c2, hq.cell hpb.c3⟩
theorem LoopR.next {w Wb : World} {p q m : Nat} {f : Int → Mg → Pr Int} {gs : List Gt} {pre : List Mg} {x : Mg} {W W' : World} (h : ∀ b, SafeR p m Wb b → W.heap[b]? = Wb.heap[b]? ∧ SafeR p m W b) {g g' : List Gt} {r r' : Int} (hs : RSt w p q m g' r' W') (hv : Saved (SafeR p m) W W') (hr : (foldP f pre 0).run gs = (g, r)) (hf : (f r x).run g = (g', r'))
  (hG : Good g') (ho : Ok g' r') (hp : gs <+: g') (hl : g'.length ≤ gs.length + 2 * (pre.length + 1)) : LoopR w Wb p q m f gs (pre ++ [x]) W' := by
 refine ⟨⟨g', r', hs, ?_, hG, ho, hp, by rw [List.length_append]; exact hl⟩, fun b hb => ?_⟩
 · rw [run_foldP_append, hr, run_foldP_cons, run_foldP_nil, hf]
 ·
  obtain ⟨h1, h2⟩ := h b hb
  obtain ⟨h3, h4⟩ := hv b h2
  exact ⟨h3.trans h1, h4⟩
def w4 (w : World) (x0 a0 a1 b0 b1 : Value) : World := (((w.alloc (.cells #[x0] 30)).alloc (.cells #[a0, a1] 26)).alloc (.cells #[b0, b1] 26)).alloc (.cells #[.slice none 0 0] 30)
structure B4 (w W : World) (x0 a0 a1 b0 b1 : Value) : Prop where
 g : w.grownBy W none
 sz : W.heap.size = w.heap.size + 4
 c : W.cell? ⟨w.heap.size, 0, none⟩ = some x0
 a0 : W.cell? ⟨w.heap.size + 1, 0, none⟩ = some a0
 a1 : W.cell? ⟨w.heap.size + 1, 1, none⟩ = some a1
 b0 : W.cell? ⟨w.heap.size + 2, 0, none⟩ = some b0
 b1 : W.cell? ⟨w.heap.size + 2, 1, none⟩ = some b1
 r : W.cell? ⟨w.heap.size + 3, 0, none⟩ = some (.slice none 0 0)
 rf : W.frozen? ⟨w.heap.size + 3, 0, none⟩ = false
theorem b4 (w : World) (x0 a0 a1 b0 b1 : Value) : B4 w (w4 w x0 a0 a1 b0 b1) x0 a0 a1 b0 b1 := by
 unfold w4
 exact ⟨(((gAl w _ none).trans (gAl _ _ none)).trans (gAl _ _ none)).trans (gAl _ _ none), by simp, by go_simp, by go_simp, by go_simp, by go_simp, by go_simp, by go_simp, by go_simp⟩

theorem results38 (tmps : Array Value) (w : World) (b : Nat) (x y : Value) (ht : tmps.getD 2 undef = .pointer (some ⟨b, 0, none⟩)) (h0 : w.cell? ⟨b, 0, none⟩ = some x) (h1 : w.cell? ⟨b, 1, none⟩ = some y) :
  (results Try.f38 tmps).run Try.prog w = .ok (.agg #[x, y]) w := by
 have ht' : tmps[2]?.getD undef = .pointer (some ⟨b, 0, none⟩) := by simpa using ht
 simp [results, ht', go_sem, h0, h1, Result.andThen]
theorem const_calls (l : List Int) (ar : Int) (a : Option Addr) (c : Nat) (w : World) (h : IntsW w a c l) (hl : l.length ≤ 1000) :
  Calls Try.prog 38 #[.agg #[.int .i64 ar, .slice a l.length c]] w fun e w' => ∃ b d, e = .returned (.agg #[.int .i64 ar, .slice b l.length d]) ∧ CellsW w' b d (l.map fun z => (z, 0)) ∧ w.grownBy w' none := by
 obtain ⟨n, hn⟩ : ∃ n, l.length = n := ⟨_, rfl⟩
 have HN := hid hn
 rw [hn] at hl ⊢
 have HM := hid h
 clear h hn
 obtain ⟨i0, hi0, hz0, hz1, hz2⟩ := info_parts infoCl
 go_enter Try.func38, Try.ntmps38
 go_upto_region 2 with fail
 have g1 := gAl w (.cells #[.int .i64 ar, .slice a n c] 47) none
 have c1 := one_cells w (.int .i64 ar) (.slice a n c) 47
 obtain ⟨W1, hW1⟩ : ∃ z, w.alloc (.cells #[.int .i64 ar, .slice a n c] 47) = z := ⟨_, rfl⟩
 have s1 : W1.heap.size = w.heap.size + 1 := by rw [← hW1]; simp
 rw [hW1] at g1 c1 ⊢
 have g2 := gAl W1 (.cells #[.int .i64 0, .slice none 0 0] 26) none
 have c2 := one_cells W1 (.int .i64 0) (.slice none 0 0) 26
 obtain ⟨W2, hW2⟩ : ∃ z, W1.alloc (.cells #[.int .i64 0, .slice none 0 0] 26) = z := ⟨_, rfl⟩
 have s2 : W2.heap.size = W1.heap.size + 1 := by rw [← hW2]; simp
 rw [hW2] at g2 c2 ⊢
 have g3 := gAl W2 (.cells #[.int .i64 ar, .slice none 0 0] 26) none
 have c3 := one_cells W2 (.int .i64 ar) (.slice none 0 0) 26
 obtain ⟨W3, hW3⟩ : ∃ z, W2.alloc (.cells #[.int .i64 ar, .slice none 0 0] 26) = z := ⟨_, rfl⟩
 have s3 : W3.heap.size = W2.heap.size + 1 := by rw [← hW3]; simp
 rw [hW3] at g3 c3 ⊢
 obtain ⟨b0, hb0⟩ : ∃ z, w.heap.size = z := ⟨_, rfl⟩
 obtain ⟨br, hbr⟩ : ∃ z, w.heap.size + 1 = z := ⟨_, rfl⟩
 obtain ⟨bb, hbb⟩ : ∃ z, w.heap.size + 1 + 1 = z := ⟨_, rfl⟩
 obtain ⟨BZ, hBZ⟩ : ∃ z, W3.heap.size = z := ⟨_, rfl⟩
 rw [s1, hbr] at c2
 rw [s2, s1, hbb] at c3
 rw [hb0] at c1
 rw [hbb, hbr, hb0]
 have g13 := gT g1 (gT g2 g3)
 have HW := hid (show w.heap.size = b0 ∧ b0 < br ∧ br < bb ∧ bb < BZ ∧ W3.heap.size = BZ ∧ w.grownBy W3 none from ⟨by omega, by omega, by omega, by omega, by omega, g13⟩)
 have HIN := hid (HM.out.far (N := fun k => k = bb) g13 (fun k e => by have e' : k = bb := e; omega))
 have HR := hid (show Rc W3 br 0 (.int .i64 0) ∧ Rc W3 br 1 (.slice none 0 0) from ⟨⟨g3.cell c2.2.1 (by simp), (grown_frozen g3 (lies_lt c2.2.1) 0).trans c2.2.2.2.1⟩, ⟨g3.cell c2.2.2.1 (by simp), (grown_frozen g3 (lies_lt c2.2.1) 1).trans c2.2.2.2.2⟩⟩)
 have HB := hid (show Rc W3 bb 0 (.int .i64 ar) ∧ Rc W3 bb 1 (.slice none 0 0) from ⟨⟨c3.2.1, c3.2.2.2.1⟩, ⟨c3.2.2.1, c3.2.2.2.2⟩⟩)
 have y1 := (gT g2 g3).cell c1.2.2.1 (by simp)
 clear hb0 hbr hbb hBZ s1 s2 s3 g1 g2 g3 c1 c2 c3 hW1 hW2 hW3 g13 HM
 go_wp2_with fail
 clear y1
 go_loopg [12] n (fun gk s12 wr => ∃ (k : Nat) (xa : Option Addr) (xc : Nat), s12 = .int .i64 (k : Int) ∧ gk = n - k ∧ k ≤ n ∧ Rc wr bb 0 (.int .i64 ar) ∧ Rc wr bb 1 (.slice xa k xc) ∧ wr.ownsRow BZ 71 2 (.slice xa k xc) k (clCells ((l.take k).map fun z => (z, 0))) ∧ Off (fun k => k = bb) W3 wr)
 case atStart => exact ⟨0, _, _, rfl, rfl, Nat.zero_le _, HB.out.1, HB.out.2, World.ownsRow_nil _ _ _ _, ⟨rfl, rfl, rfl, Nat.le_refl _, fun _ _ _ => rfl⟩⟩
 case round =>
  obtain ⟨k, xa, xc, rfl, hgk, hk, hb0, hb1, hown, hof⟩ := hrel
  have HI := hid (And.intro hgk (And.intro hb0 hb1)); clear hgk hb0 hb1
  have HO := hid hown; clear hown
  have HOF := hid hof; clear hof
  by_cases hkn : k < n
  ·
   have f1 : decide (k < n) = true := decide_eq_true hkn
   have f2 : decide ((k : Int) < (n : Int)) = true := decide_eq_true (by omega)
   have hk1 : IntKind.i64.wrap ((k : Int) + 1) = ((k + 1 : Nat) : Int) := by rw [IntWalk.i64_in _ (by omega)]; omega
   have hj0 : (0 : Int) ≤ (k : Int) := by omega
   have hj1 : (k : Int) < (n : Int) := by omega
   obtain ⟨z, hz⟩ : ∃ r, l[k]? = some r := ⟨_, List.getElem?_eq_getElem (by rw [HN.out]; exact hkn)⟩
   obtain ⟨ba, oa, rfl, x0⟩ := (HIN.out.off (N' := fun k => k = bb) HOF.out (fun k e => .inl e)).weak.at hz
   have hsn : (l.take (k + 1)).map (fun z => (z, (0 : Int))) = (l.take k).map (fun z => (z, (0 : Int))) ++ [(z, 0)] := by rw [List.take_add_one, hz]; simp
   have HSN := hid hsn
   obtain ⟨Lk, hLk⟩ : ∃ L, clCells ((l.take k).map fun z => (z, (0 : Int))) = L := ⟨_, rfl⟩
   rw [hLk] at HO
   have HLK := hid hLk
   have d0 := HI.out.2.2.1
   have hnew := cells_new_at wr (z, 0)
   have HSZ := hid (show BZ ≤ wr.heap.size from by have h1 := HOF.out.size; have h2 := HW.out; omega)
   have HLL := hid (show Lk.length = k * 2 from by rw [← hLk, clCells_len, List.length_map, List.length_take, HN.out]; omega)
   clear hz hsn hLk
   go_wp2_with (at_builtin; refine wpList_append_own_at _ rfl _ _ 24 rfl BZ 71 i0 (.agg #[.int .i64 0, .int .i64 0]) 2 16 Try.underlying24 hi0 hz0 hz1 hz2 rfl (by decide) _ k Lk rfl (HO.out.alloc _) ⟨wr.heap.size, 0, none⟩ 1 1 [.int .i64 z, .int .i64 0] rfl rfl hnew (fun u hu => by simp at hu; rcases hu with rfl | rfl <;> rfl) (by unfold maxLen; omega) (by omega) (by have := HSZ.out; simp; omega) ?_)
   intro v' w6 hown' hgrow6 _ hat6
   obtain ⟨rgA, rcA, rfl⟩ := own_shape hown'
   have hga := gAl wr (.cells #[.int .i64 z, .int .i64 0] 71) none
   have ho6 : Off (fun k => BZ ≤ k) wr w6 := (Off.of hga (fun k e => by cases e)).trans (Off.of hgrow6 (M := fun k => BZ ≤ k) (fun k e => (HO.out.lt k e).1)) (fun _ _ e => e)
   have hnB : ¬ BZ ≤ bb := by have := HW.out; omega
   have r0 := HI.out.2.1.step ho6 hnB
   have r1 := HI.out.2.2.step ho6 hnB
   have hown7 : (w6.setCell ⟨bb, 1, none⟩ (.slice rgA (k + 1) rcA)).ownsRow BZ 71 2 (.slice rgA (k + 1) rcA) (k + 1) (clCells ((l.take (k + 1)).map fun z => (z, (0 : Int)))) := by
    rw [HSN.out, clCells_app, HLK.out]
    refine hown'.kept (grown_set w6 bb 1 _) ?_
    cases hob : (Value.slice rgA (k + 1) rcA).ownBlock with
    | none => exact .inl rfl
    | some b => exact .inr (fun e => by injection e with e; subst e; exact hnB (hown'.lt b hob).1)
   have HN7 := hid (And.intro (r0.other (o' := 1) (by decide) (.slice rgA (k + 1) rcA)) (And.intro (r1.set (.slice rgA (k + 1) rcA)) (And.intro hown7 (show Off (fun k => k = bb) W3 (w6.setCell ⟨bb, 1, none⟩ (.slice rgA (k + 1) rcA)) from (HOF.out.trans ho6 (fun q hq e => by have h1 := HW.out; omega)).trans (off_set w6 bb 1 _) (fun q hq e => e)))))
   have d1 := r1.1
   have d2 := r1.2
   clear hown' hgrow6 hat6 hga ho6 hnB r0 r1 hown7 d0 x0 hnew
   go_wp2_with fail
   go_roundg (n - (k + 1))
   case measure => rw [HI.out.1]; omega
   case rel => exact ⟨k + 1, rgA, rcA, rfl, rfl, by omega, HN7.out.1, HN7.out.2.1, HN7.out.2.2.1, HN7.out.2.2.2⟩
  ·
   have f1 : decide (k < n) = false := decide_eq_false hkn
   have f2 : decide ((k : Int) < (n : Int)) = false := decide_eq_false (by omega)
   have hkn2 : k = n := by omega
   subst hkn2
   have d0 := HI.out.2.1.1
   have d1 := HI.out.2.2.1
   have hne : ¬ br = bb := by have := HW.out; omega
   have q0 := HR.out.1.step HOF.out hne
   have q1 := HR.out.2.step HOF.out hne
   have HQ := hid (And.intro q0 q1)
   have e0 := q0.1
   have e1 := q0.2
   have e2 := q1.1
   have e3 := q1.2
   have HROW := hid (show Span BZ wr.heap.size wr (fun W => CellsW W xa xc (l.map fun z => (z, (0 : Int)))) from by
    have h := HO.out
    rw [List.take_of_length_le (by rw [HN.out]; exact Nat.le_refl _)] at h
    have h2 : k = (l.map fun z => (z, (0 : Int))).length := by rw [List.length_map, HN.out]
    rw [h2] at h
    obtain ⟨a9, c9, e9, hs9⟩ := cells_span h
    cases e9
    exact hs9)
   have HG := hid (HOF.out.grown HW.out.2.2.2.2.2 (fun q e => by have e' : q = bb := e; have := HW.out; omega))
   clear hkn hne q0 q1
   go_wp2_with fail
   have hof := off_set2 wr br (.int .i64 ar) (.slice xa k xc)
   refine bodyPost_ret (results38 _ _ br (.int .i64 ar) (.slice xa k xc) rfl ((HQ.out.1.set (.int .i64 ar)).other (o' := 1) (by decide) (.slice xa k xc)).1 ((HQ.out.2.other (o' := 0) (by decide) (.int .i64 ar)).set (.slice xa k xc)).1) rfl ⟨xa, xc, rfl, (HROW.out.away hof (fun q e => by have e' : q = br := e; have := HW.out; omega)).here, hof.grown HG.out (fun q e => by have e' : q = br := e; have := HW.out; omega)⟩
end Go.Proofs.Ythdhmflodiincaa

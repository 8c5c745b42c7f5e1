/- Texts of the proof: QK QM KI QN. -/
import Derived.Test.YthdhmflodiincaaGreatCB09
import Derived.RangeFuncCalls
import Derived.OrdersHeld
import Derived.Deep.RegionHeld
import Derived.StillTailTactics
set_option maxRecDepth 100000
set_option maxHeartbeats 8000000
namespace Go.Proofs.YthdhmflodiincaaGreat
set_option maxRecDepth 100000
open Go.RowKit Go.Maps

def OwnC (p : Nat) (W : World) (k : Nat) : Prop := k = p ∨ (∃ a n c, W.cell? ⟨p, 0, none⟩ = some (.slice (some a) n c) ∧ W.cell? ⟨p, 1, none⟩ = some (.bool true) ∧ a.block = k) ∨ W.cell? ⟨p, 2, none⟩ = some (.map (some k))
def OwnB (m : Nat) (W : World) (k : Nat) : Prop := k = m ∨ ∃ v, W.cell? ⟨m, 1, none⟩ = some v ∧ v.ownBlock = some k
structure MB (m : Nat) (w : World) (ar : Int) (l : List Cl) : Prop where
  c0 : w.cell? ⟨m, 0, none⟩ = some (.int .i64 ar)
  row : ∃ a c, w.cell? ⟨m, 1, none⟩ = some (.slice a l.length c) ∧ w.ownsRow (m + 1) 70 2 (.slice a l.length c) l.length (clCells l)
  fr : ∀ o, w.frozen? ⟨m, o, none⟩ = false
theorem Grw.own {p : Nat} {w : World} {owned : Bool} {va : Option Addr} {vc : Nat} {gs : List Gt} {mb : Option Nat} {vis : Int} (h : Grw p w owned va vc gs mb vis) (k : Nat) : OwnC p w k ↔ mine p owned va mb k := by
  constructor
  · rintro (e | ⟨a, n, c, e0, e1, e2⟩ | e)
    · exact .inl e
    · have h0 := h.c0
      have h1 := h.c1
      rw [h0] at e0
      rw [h1] at e1
      injection e0 with e0
      injection e0 with e0 _ _
      injection e1 with e1
      injection e1 with e1
      exact .inr (.inl ⟨e1, a, e0, e2⟩)
    · have h2 := h.c2
      rw [h2] at e
      injection e with e
      injection e with e
      exact .inr (.inr e)
  · rintro (e | ⟨e, a, e1, e2⟩ | e)
    · exact .inl e
    · subst e e1
      exact .inr (.inl ⟨a, _, _, h.c0, h.c1, e2⟩)
    · subst e
      exact .inr (.inr h.c2)
theorem GX.own {p : Nat} {M : Nat → Prop} {w : World} {gs : List Gt} {hi : Int} (h : GX p M w gs hi) : GX p (OwnC p w) w gs hi := by
  obtain ⟨o, a, c, b, v, h1, h2, _⟩ := h
  exact ⟨o, a, c, b, v, h1, h2, fun k hk => (h1.own k).2 hk⟩
theorem GX.own_in {p : Nat} {M : Nat → Prop} {w : World} {gs : List Gt} {hi : Int} (h : GX p M w gs hi) {k : Nat} (hk : OwnC p w k) : M k := by
  obtain ⟨o, a, c, b, v, h1, _, h3⟩ := h
  exact h3 k ((h1.own k).1 hk)
theorem GX.p_lt {p : Nat} {M : Nat → Prop} {w : World} {gs : List Gt} {hi : Int} (h : GX p M w gs hi) : p < w.heap.size := by
  obtain ⟨o, a, c, b, v, h1, _⟩ := h
  exact lies_lt h1.c0
theorem GX.own_lt {p : Nat} {M : Nat → Prop} {w : World} {gs : List Gt} {hi : Int} (h : GX p M w gs hi) {k : Nat} (hk : OwnC p w k) : p ≤ k ∧ k < w.heap.size := by
  have hp := h.p_lt
  obtain ⟨o, a, c, b, v, h1, _, _⟩ := h
  rcases (h1.own k).1 hk with e | ⟨e, x, e1, e2⟩ | e
  · omega
  · have hr := h1.row
    unfold GRow at hr
    rw [e] at hr
    simp only [if_true] at hr
    have := hr.lt k (by rw [e1]; exact congrArg some e2)
    omega
  · have h2 := h1.ix k e
    obtain ⟨D, ⟨es, clock, hb, _⟩, _⟩ := h2.2
    exact ⟨by omega, (Array.getElem?_eq_some_iff.1 hb).1⟩
theorem GX.own_kept {p : Nat} {M : Nat → Prop} {w w' : World} {gs : List Gt} {hi : Int} (h : GX p M w gs hi) (hc : ∀ o v, w.cell? ⟨p, o, none⟩ = some v → w'.cell? ⟨p, o, none⟩ = some v) {k : Nat} (hk : OwnC p w' k) : OwnC p w k := by
  obtain ⟨o, a, c, b, v, h1, _, _⟩ := h
  have c0 := hc _ _ h1.c0
  have c1 := hc _ _ h1.c1
  have c2 := hc _ _ h1.c2
  unfold OwnC at hk ⊢
  rw [c0, c1, c2] at hk
  rw [h1.c0, h1.c1, h1.c2]
  exact hk
theorem MB.lt {m : Nat} {w : World} {ar : Int} {l : List Cl} (h : MB m w ar l) : m < w.heap.size := lies_lt h.c0
theorem MB.own_lt {m : Nat} {w : World} {ar : Int} {l : List Cl} (h : MB m w ar l) {k : Nat} (hk : OwnB m w k) : m ≤ k ∧ k < w.heap.size := by
  have hm := h.lt
  obtain ⟨a, c, h1, h2⟩ := h.row
  rcases hk with e | ⟨v, e, e2⟩
  · omega
  · rw [h1] at e
    cases e
    have := h2.lt k e2
    omega
theorem MB.own_kept {m : Nat} {w w' : World} {ar : Int} {l : List Cl} (h : MB m w ar l) (hc : ∀ o v, w.cell? ⟨m, o, none⟩ = some v → w'.cell? ⟨m, o, none⟩ = some v) {k : Nat} : OwnB m w' k ↔ OwnB m w k := by
  obtain ⟨a, c, h1, h2⟩ := h.row
  have c1 := hc _ _ h1
  unfold OwnB
  rw [c1, h1]
theorem MB.off {m : Nat} {w w' : World} {M : Nat → Prop} {ar : Int} {l : List Cl} (h : MB m w ar l) (ho : Off M w w') (hm : ∀ k, OwnB m w k → ¬ M k) : MB m w' ar l := by
  obtain ⟨a, c, h1, h2⟩ := h.row
  have h0 := hm m (.inl rfl)
  exact ⟨ho.cell h.c0 h0, ⟨a, c, ho.cell h1 h0, ho.row h2 (fun b e => hm b (.inr ⟨_, h1, e⟩))⟩, fun o => (ho.frozen h.lt h0 o).trans (h.fr o)⟩
theorem Off.cells {M : Nat → Prop} {w w' : World} (h : Off M w w') {b : Nat} (hb : ¬ M b) : ∀ o v, w.cell? ⟨b, o, none⟩ = some v → w'.cell? ⟨b, o, none⟩ = some v := fun _ _ hc => h.cell hc hb
theorem Off.at_ {M : Nat → Prop} {w w' : World} (h : Off M w w') {b : Nat} (hb : b < w.heap.size) (hm : ¬ M b) : w'.heap[b]? = w.heap[b]? := h.block b hb hm
structure MSt (W0 : World) (p q m : Nat) (ar : Int) (g : List Gt) (l : List Cl) (W : World) : Prop where
  gx : ∃ hi, GX p (OwnC p W) W g hi
  q0 : W.cell? ⟨q, 0, none⟩ = some (.pointer (some ⟨p, 0, none⟩))
  mb : MB m W ar l
  grown : W0.grownBy W none
  low : W0.heap.size ≤ p ∧ p < m ∧ W0.heap.size ≤ q
  apart : ∀ k, OwnC p W k → ¬ OwnB m W k
  nq : ¬ OwnC p W q ∧ ¬ OwnB m W q
def SafeM (p m : Nat) (W : World) (b : Nat) : Prop := b < W.heap.size ∧ ¬ OwnC p W b ∧ ¬ OwnB m W b
theorem MSt.step {W0 W W' : World} {p q m : Nat} {ar : Int} {g g' : List Gt} {l : List Cl} (h : MSt W0 p q m ar g l W) {hi : Int} (hx : GX p (fun k => OwnC p W k ∨ W.heap.size ≤ k) W' g' hi) (ho : Off (OwnC p W) W W') :
    MSt W0 p q m ar g' l W' ∧ Saved (SafeM p m) W W' := by
  have hmb : MB m W' ar l := h.mb.off ho (fun k hk hc => h.apart k hc hk)
  have hob : ∀ {k}, OwnB m W' k ↔ OwnB m W k := fun {k} => h.mb.own_kept (ho.cells (fun e => h.apart m e (.inl rfl)))
  have hoc : ∀ k, OwnC p W' k → OwnC p W k ∨ W.heap.size ≤ k := fun k hk => hx.own_in hk
  have hq : q < W.heap.size := lies_lt h.q0
  obtain ⟨hi0, hg0⟩ := h.gx
  refine ⟨⟨⟨hi, hx.own⟩, ho.cell h.q0 h.nq.1, hmb, ?_, h.low, fun k hk hb => ?_, fun e => ?_, fun e => h.nq.2 (hob.1 e)⟩, fun b hb => ⟨ho.at_ hb.1 hb.2.1, Nat.lt_of_lt_of_le hb.1 ho.size, fun e => ?_, fun e => hb.2.2 (hob.1 e)⟩⟩
  · exact ho.grown h.grown (fun k hk => Nat.le_trans h.low.1 (hg0.own_lt hk).1)
  · rcases hoc k hk with h1 | h1
    · exact h.apart k h1 (hob.1 hb)
    · have := (h.mb.own_lt (hob.1 hb)).2; omega
  · rcases hoc q e with h1 | h1
    · exact h.nq.1 h1
    · omega
  · rcases hoc b e with h1 | h1
    · exact hb.2.1 h1
    · have := hb.1; omega
theorem MSt.kept {W0 W W' : World} {p q m : Nat} {ar : Int} {g : List Gt} {l l' : List Cl} (h : MSt W0 p q m ar g l W) {a a' : Option Addr} {c c' n' : Nat} (hc : W.cell? ⟨m, 1, none⟩ = some (.slice a l.length c)) (hn : l'.length = n')
    (hg : W.grownBy W' (Value.slice a l.length c).ownBlock) (hown : W'.ownsRow (m + 1) 70 2 (.slice a' n' c') n' (clCells l')) (hat : ∀ b, (Value.slice a' n' c').ownBlock = some b → (Value.slice a l.length c).ownBlock = some b ∨ W.heap.size ≤ b) :
    MSt W0 p q m ar g l' (W'.setCell ⟨m, 1, none⟩ (.slice a' n' c')) ∧ Saved (SafeM p m) W (W'.setCell ⟨m, 1, none⟩ (.slice a' n' c')) := by
  subst hn
  obtain ⟨hi, hx⟩ := h.gx
  have hm := h.mb.lt
  have hrow : ∀ b, (Value.slice a l.length c).ownBlock = some b → OwnB m W b := fun b e => .inr ⟨_, hc, e⟩
  have hmr : ∀ b, (Value.slice a l.length c).ownBlock = some b → m < b := fun b e => by
    obtain ⟨a1, c1, h1, h2⟩ := h.mb.row
    rw [hc] at h1
    injection h1 with h1
    rw [← h1] at h2
    exact (h2.lt b e).1
  have h1 : Off (OwnB m W) W W' := Off.of hg hrow
  have hcm : W'.cell? ⟨m, 1, none⟩ = some (.slice a l.length c) := hg.cell hc (fun e => by have := hmr m e.symm; omega)
  have hcm0 : W'.cell? ⟨m, 0, none⟩ = some (.int .i64 ar) := hg.cell h.mb.c0 (fun e => by have := hmr m e.symm; omega)
  have h2 : Off (OwnB m W) W' (W'.setCell ⟨m, 1, none⟩ (.slice a' l'.length c')) := Off.of (grown_set W' m 1 _) (fun k e => by cases e; exact .inl rfl)
  have ho : Off (OwnB m W) W (W'.setCell ⟨m, 1, none⟩ (.slice a' l'.length c')) := h1.trans h2 (fun k _ e => e)
  have hkc : ∀ o v, W.cell? ⟨p, o, none⟩ = some v → (W'.setCell ⟨m, 1, none⟩ (.slice a' l'.length c')).cell? ⟨p, o, none⟩ = some v := ho.cells (fun e => h.apart p (.inl rfl) e)
  have hnew : (W'.setCell ⟨m, 1, none⟩ (.slice a' l'.length c')).cell? ⟨m, 1, none⟩ = some (.slice a' l'.length c') := World.cell?_setCell_same _ _ _ hcm
  have hb' : ∀ k, OwnB m (W'.setCell ⟨m, 1, none⟩ (.slice a' l'.length c')) k → OwnB m W k ∨ W.heap.size ≤ k := fun k hk => by
    rcases hk with e | ⟨v, e, e2⟩
    · exact .inl (.inl e)
    · rw [hnew] at e
      injection e with e
      rw [← e] at e2
      rcases hat k e2 with e3 | e3
      · exact .inl (hrow k e3)
      · exact .inr e3
  have hgx : GX p (OwnC p W) (W'.setCell ⟨m, 1, none⟩ (.slice a' l'.length c')) g hi := by
    obtain ⟨o, va, vc, mb, vis, g1, g2, g3⟩ := hx
    have f1 : Grw p W' o va vc g mb vis := by
      have hp : some p ≠ (Value.slice a l.length c).ownBlock := fun e => h.apart p (.inl rfl) (hrow p e.symm)
      refine ⟨hg.cell g1.c0 hp, hg.cell g1.c1 hp, hg.cell g1.c2 hp, hg.cell g1.c3 hp, fun o' => (World.frozen?_of_block (a := ⟨p, o', none⟩) (hg.block p (lies_lt g1.c0) hp)).trans (g1.fr o'), ?_, fun b e => ⟨(g1.ix b e).1, (g1.ix b e).2.kept hg (fun e2 => h.apart b ((g1.own b).2 (.inr (.inr e))) (hrow b e2.symm))⟩⟩
      exact g1.row.far hg (fun b e => ⟨by have := hmr b e; have := h.low; omega, fun e2 => h.apart b ((g1.own b).2 (.inr (.inl e2))) (hrow b e)⟩)
    have hp2 : some p ≠ some m := fun e => by cases e; exact h.apart p (.inl rfl) (.inl rfl)
    have hgs := grown_set W' m 1 (.slice a' l'.length c')
    have f2 : Grw p (W'.setCell ⟨m, 1, none⟩ (.slice a' l'.length c')) o va vc g mb vis := by
      refine ⟨hgs.cell f1.c0 hp2, hgs.cell f1.c1 hp2, hgs.cell f1.c2 hp2, hgs.cell f1.c3 hp2, fun o' => (World.frozen?_of_block (a := ⟨p, o', none⟩) (hgs.block p (lies_lt f1.c0) hp2)).trans (f1.fr o'), ?_, fun b e => ⟨(f1.ix b e).1, (f1.ix b e).2.kept hgs (fun e2 => by injection e2 with e2; subst e2; exact h.apart b ((g1.own b).2 (.inr (.inr e))) (.inl rfl))⟩⟩
      exact f1.row.far hgs (fun b e => by cases e; exact ⟨by have := h.low; omega, fun e2 => h.apart m ((g1.own m).2 (.inr (.inl e2))) (.inl rfl)⟩)
    exact ⟨o, va, vc, mb, vis, f2, g2, g3⟩
  have hoc : ∀ k, OwnC p (W'.setCell ⟨m, 1, none⟩ (.slice a' l'.length c')) k → OwnC p W k := fun k hk => hx.own_kept hkc hk
  refine ⟨⟨⟨hi, hgx.own⟩, ho.cell h.q0 h.nq.2, ⟨?_, ⟨a', c', hnew, ?_⟩, fun o => ?_⟩, ?_, h.low, fun k hk hb => ?_, fun e => h.nq.1 (hoc q e), fun e => ?_⟩, fun b hb => ⟨ho.at_ hb.1 hb.2.2, Nat.lt_of_lt_of_le hb.1 ho.size, fun e => hb.2.1 (hoc b e), fun e => ?_⟩⟩
  · rw [World.cell?_setCell_other _ _ _ _ (by intro e; injection e with _ e; cases e)]; exact hcm0
  · exact hown.kept (grown_set W' m 1 _) (by
      cases hv : (Value.slice a' l'.length c').ownBlock with
      | none => exact .inl rfl
      | some b => exact .inr (fun e => by injection e with e; have := (hown.lt b hv).1; omega))
  · rw [World.frozen?_setCell]
    have e : W'.frozen? ⟨m, o, none⟩ = W.frozen? ⟨m, o, none⟩ := World.frozen?_of_block (a := ⟨m, o, none⟩) (hg.block m hm (fun e => by have := hmr m e.symm; omega))
    rw [e]
    exact h.mb.fr o
  · exact ho.grown h.grown (fun k hk => by have := (h.mb.own_lt hk).1; have := h.low; omega)
  · rcases hb' k hb with h3 | h3
    · exact h.apart k (hoc k hk) h3
    · have := (hx.own_lt (hoc k hk)).2; omega
  · rcases hb' q e with h3 | h3
    · exact h.nq.2 h3
    · have : q < W.heap.size := lies_lt h.q0
      omega
  · rcases hb' b e with h3 | h3
    · exact hb.2.2 h3
    · have := hb.1; omega
theorem msafe_keep {W0 : World} {p q m : Nat} {ar : Int} {g : List Gt} {l : List Cl} {A A' : World} {B : Nat} (h : MSt W0 p q m ar g l A) (hq : Quiet B A A') (hB : p ≤ B) : MSt W0 p q m ar g l A' ∧ (∀ b, SafeM p m A b → SafeM p m A' b) ∧ ∀ b, A.heap.size ≤ b → b < A'.heap.size → SafeM p m A' b := by
  have hc : ∀ {a : Addr} {v : Value}, A.cell? a = some v → A'.cell? a = some v := fun h => hq.cell h
  have hob : ∀ {k}, OwnB m A' k ↔ OwnB m A k := fun {k} => h.mb.own_kept (fun o v hv => hc hv)
  obtain ⟨hi, hx⟩ := h.gx
  have hoc : ∀ {k}, OwnC p A' k → OwnC p A k := fun {k} hk => hx.own_kept (fun o v hv => hc hv) hk
  obtain ⟨row, hgr, hrow⟩ := hq
  have hnc : ∀ r, row = some r → ∀ v o, A.cell? ⟨r, o, none⟩ ≠ some v := fun r e v o hv => by
    obtain ⟨_, ob, h1, h2⟩ := hrow r e
    unfold World.cell? at hv
    rw [h1] at hv
    cases ob <;> simp [loopy] at h2 hv
  have hmb : MB m A' ar l := by
    obtain ⟨a, c, h1, h2⟩ := h.mb.row
    refine ⟨hc h.mb.c0, ⟨a, c, hc h1, h2.kept hgr ?_⟩, fun o => ?_⟩
    · cases hv : (Value.slice a l.length c).ownBlock with
      | none => exact .inl rfl
      | some b =>
        refine .inr (fun e => ?_)
        obtain ⟨_, ob, h3, h4⟩ := hrow b e.symm
        rcases h2.2 with ⟨h5, _⟩ | ⟨g', cap, cur, h5, _, h6, _⟩
        · rw [h5] at hv; cases hv
        · rw [h5] at hv
          injection hv with hv
          have hv' : g' = b := hv
          subst hv'
          rw [h6] at h3
          injection h3 with h3
          subst h3
          cases h4
    · have hne : some m ≠ row := fun e => hnc m e.symm _ 0 h.mb.c0
      have e : A'.frozen? ⟨m, o, none⟩ = A.frozen? ⟨m, o, none⟩ := World.frozen?_of_block (a := ⟨m, o, none⟩) (hgr.block m h.mb.lt hne)
      rw [e]
      exact h.mb.fr o
  have hgx : GX p (OwnC p A) A' g hi := by
    obtain ⟨o, va, vc, mb, vis, g1, g2, g3⟩ := hx
    have hp : some p ≠ row := fun e => hnc p e.symm _ 0 g1.c0
    refine ⟨o, va, vc, mb, vis, ⟨hc g1.c0, hc g1.c1, hc g1.c2, hc g1.c3, fun o' => (World.frozen?_of_block (a := ⟨p, o', none⟩) (hgr.block p (lies_lt g1.c0) hp)).trans (g1.fr o'), ?_, ?_⟩, g2, g3⟩
    · refine g1.row.far hgr (fun r e => ⟨Nat.le_trans hB (hrow r e).1, ?_⟩)
      rintro ⟨rfl, x, rfl, e2⟩
      obtain ⟨_, ob, h3, h4⟩ := hrow r e
      have hr := g1.row
      unfold GRow at hr
      simp only [if_true] at hr
      rcases hr.2 with ⟨h5, _⟩ | ⟨g', cap, cur, h5, _, h6, _⟩
      · cases h5
      · injection h5 with h5 _ _
        injection h5 with h5
        rw [h5] at e2
        have hv' : g' = r := e2
        subst hv'
        rw [h6] at h3
        injection h3 with h3
        subst h3
        cases h4
    · intro b e
      refine ⟨(g1.ix b e).1, (g1.ix b e).2.kept hgr (fun e2 => ?_)⟩
      obtain ⟨_, ob, h3, h4⟩ := hrow b e2.symm
      obtain ⟨D, ⟨es, clock, hb, _⟩, _⟩ := (g1.ix b e).2
      rw [hb] at h3
      injection h3 with h3
      subst h3
      cases h4
  refine ⟨⟨⟨hi, hgx.own⟩, hc h.q0, hmb, ?_, h.low, fun k hk hb => h.apart k (hoc hk) (hob.1 hb), fun e => h.nq.1 (hoc e), fun e => h.nq.2 (hob.1 e)⟩, fun b hb => ⟨Nat.lt_of_lt_of_le hb.1 hgr.size, fun e => hb.2.1 (hoc e), fun e => hb.2.2 (hob.1 e)⟩, fun b h1 h2 => ⟨h2, fun e => ?_, fun e => ?_⟩⟩
  · exact grown_own h.grown hgr (fun r e => by have := (hrow r e).1; have := h.low; omega)
  · have := (hx.own_lt (hoc e)).2; omega
  · have := (h.mb.own_lt (hob.1 e)).2; omega
end Go.Proofs.YthdhmflodiincaaGreat

namespace Go.Proofs.YthdhmflodiincaaGreat
open Go.RowKit

theorem wpOpIn_of {l n : Nat} {P : Program} {ops : Array Oper} {Q : Exit → Act → World → Prop} {i : Nat} {K K' : Act → World → Prop} {a : Act} {w : World} (hd : ∀ (j : Nat) (o : Oper), ops[j]? = some o → ∀ c, o.op ≠ .defer c) (hout : ¬ LetsOut Q) (hK : ∀ a w, K a w → K' a w) (h : wpOp P ops Q i K a w) :
    wpOpIn (Fence.wide.inRound l) n P ops Q i K' a w := by
  unfold wpOp at h
  unfold wpOpIn
  split
  · rename_i hi
    rw [hi] at h
    exact hK _ _ h
  · rename_i o ho
    rw [ho] at h
    simp only at h
    split
    · rename_i hw
      rw [if_pos hw] at h
      rcases h with h | h
      · refine ⟨fun _ _ => trivial, ?_⟩
        rw [Oper.semAt_eq _ _ _ (hd i o ho)]
        unfold Oper.wp at h
        generalize (execOp a.eval o).run P w = r at h ⊢
        cases r with
        | ok x w' =>
          cases x with
          | value v => exact hK _ _ h
          | skip => exact hK _ _ h
          | defer d => exact hK _ _ h
          | enter f args =>
            refine ⟨fun e => (by cases e), CallsIn.inRound l (callsIn_wide.2 (Calls.mono h fun e w'' he => ?_))⟩
            cases e with
            | returned v => exact hK _ _ he
            | panicked c => exact he
            | outgrown => exact he
          | row r args =>
            refine ⟨fun e => (by cases e), ?_⟩
            exact fun c cs _ => by
              obtain ⟨v, w2, hr, hs⟩ := h c cs
              exact ⟨v, w2, hK _ _ hr, (stepsIn_wide).2 hs⟩
          | _ => exact h.elim
        | halt x w' =>
          cases x with
          | panic u => exact h
          | _ => exact h.elim
      · exact absurd h.2 hout
    · rename_i hw
      rw [if_neg hw] at h
      exact ⟨fun _ _ => trivial, hK _ _ h⟩
theorem wpAnyIn_of {l n : Nat} {P : Program} {md : Region.Mode} {ops : Array Oper} {Q : Exit → Act → World → Prop} (hd : ∀ (j : Nat) (o : Oper), ops[j]? = some o → ∀ c, o.op ≠ .defer c) (hout : ¬ LetsOut Q) :
    ∀ (fuel : Nat) (listed : Array Bool) (a : Act) (w : World), wpAny P md ops Q fuel listed a w → wpAnyIn (Fence.wide.inRound l) n P md ops Q fuel listed a w
  | 0, _, _, _, h => h
  | fuel + 1, _, _, _, h => ⟨h.1, fun i hi => wpOpIn_of hd hout (fun a' w' h' => wpAnyIn_of hd hout fuel _ a' w' h') (h.2 i hi)⟩
def noDefer (ops : Array Oper) : Bool := ops.toList.all fun o => match o.op with | .defer _ => false | _ => true
theorem noDefer_spec {ops : Array Oper} (h : noDefer ops = true) : ∀ (j : Nat) (o : Oper), ops[j]? = some o → ∀ c, o.op ≠ .defer c := by
  intro j o ho c e
  have h1 := List.all_eq_true.1 h o (by rw [← Array.getElem?_toList] at ho; exact List.mem_of_getElem? ho)
  rw [e] at h1
  cases h1
theorem wpIn_region_held_round {l n : Nat} {P : Program} {id : Nat} {ops : Array Oper} {Q : Exit → Act → World → Prop} {S : World → Prop} {a : Act} {w : World} (hm : P.follows .mixedOrders = true) (hd : noDefer ops = true) (hout : ¬ LetsOut Q) (hS : S w.drew)
    (h : S w.drew → wpAnyH P .any ops Q S ops.size (Array.replicate ops.size false) a w.drew) : (Code.region id ops true).wpIn (Fence.wide.inRound l) n P Q a w :=
  wpIn_region_any hm (wpAnyIn_of (noDefer_spec hd) hout _ _ _ _ (wpAny_of_held _ _ _ _ (h hS)))
end Go.Proofs.YthdhmflodiincaaGreat

namespace Go.Proofs.YthdhmflodiincaaGreat

theorem foldP_map {σ α β : Type} (f : σ → β → Pr σ) (g : α → β) : ∀ (l : List α) (s : σ), foldP f (l.map g) s = foldP (fun s x => f s (g x)) l s
  | [], _ => rfl
  | x :: l, s => by
    show (f s (g x)).bind _ = (f s (g x)).bind _
    congr 1
    funext t
    exact foldP_map f g l t
theorem foldP_congr {σ β : Type} {f g : σ → β → Pr σ} : ∀ {l : List β} (s : σ), (∀ s, ∀ x ∈ l, f s x = g s x) → foldP f l s = foldP g l s
  | [], _, _ => rfl
  | x :: l, s, h => by
    show (f s x).bind _ = (g s x).bind _
    rw [h s x (by simp)]
    congr 1
    funext t
    exact foldP_congr t (fun s y hy => h s y (by simp [hy]))
end Go.Proofs.YthdhmflodiincaaGreat

namespace Go.Proofs.YthdhmflodiincaaGreat
set_option maxRecDepth 100000
open Go.RowKit Go.Shelf

abbrev Mg := Int × Int × Int × Bool × Bool
def mgF : Nat → List Cl → List Cl → List Mg
  | 0, _, _ => []
  | _ + 1, [], [] => []
  | f + 1, x :: a, [] => (x.1, x.2, 1, true, false) :: mgF f a []
  | f + 1, [], y :: b => (y.1, 1, y.2, false, true) :: mgF f [] b
  | f + 1, x :: a, y :: b => if x.1 < y.1 then (x.1, x.2, 1, true, false) :: mgF f a (y :: b) else if y.1 < x.1 then (y.1, 1, y.2, false, true) :: mgF f (x :: a) b else (x.1, x.2, y.2, true, true) :: mgF f a b
def mg (a b : List Cl) : List Mg := mgF (a.length + b.length) a b
def mgOf (a b : List Cl) (k : Int) : Mg := (k, atM a k, atM b k, inM a k, inM b k)
theorem atM_head {x : Cl} {a : List Cl} : atM (x :: a) x.1 = x.2 := by unfold atM; simp
theorem inM_head {x : Cl} {a : List Cl} : inM (x :: a) x.1 = true := by unfold inM; simp
theorem atM_tail {x : Cl} {a : List Cl} {k : Int} (h : x.1 ≠ k) : atM (x :: a) k = atM a k := by unfold atM; rw [List.find?_cons_of_neg (by simpa using h)]
theorem inM_tail {x : Cl} {a : List Cl} {k : Int} (h : x.1 ≠ k) : inM (x :: a) k = inM a k := by unfold inM; rw [List.any_cons]; simp [h]
theorem at_low {a : List Cl} {k : Int} (h : ∀ c ∈ a, k < c.1) : atM a k = 1 ∧ inM a k = false :=
  ⟨atM_not (fun c hc e => by have := h c hc; omega), by unfold inM; rw [List.any_eq_false]; intro c hc; have := h c hc; simp; omega⟩
theorem mgF_rk : ∀ (f : Nat) (a b : List Cl), a.length + b.length ≤ f → UpM a → UpM b → mgF f a b = (rkF f a b).map (mgOf a b)
  | 0, a, b, h, _, _ => by simp [mgF, rkF]
  | f + 1, [], [], _, _, _ => by simp [mgF, rkF]
  | f + 1, x :: a, [], h, ha, hb => by
    obtain ⟨h1, h2⟩ := upM_cons.1 ha
    have ih := mgF_rk f a [] (by simp at h ⊢; omega) h2 hb
    have hs := (rk_spec f a [] (by simp at h ⊢; omega) h2 hb).2
    show (x.1, x.2, 1, true, false) :: mgF f a [] = (x.1 :: rkF f a []).map (mgOf (x :: a) [])
    rw [List.map_cons, ih]
    congr 1
    · unfold mgOf; rw [atM_head, inM_head]; rfl
    · refine List.map_congr_left fun k hk => ?_
      have hlt : x.1 < k := by
        rcases (hs k).1 hk with ⟨c, hc, rfl⟩ | ⟨c, hc, _⟩
        · exact h1 c hc
        · cases hc
      unfold mgOf; rw [atM_tail (by omega), inM_tail (by omega)]
  | f + 1, [], y :: b, h, ha, hb => by
    obtain ⟨h1, h2⟩ := upM_cons.1 hb
    have ih := mgF_rk f [] b (by simp at h ⊢; omega) ha h2
    have hs := (rk_spec f [] b (by simp at h ⊢; omega) ha h2).2
    show (y.1, 1, y.2, false, true) :: mgF f [] b = (y.1 :: rkF f [] b).map (mgOf [] (y :: b))
    rw [List.map_cons, ih]
    congr 1
    · unfold mgOf; rw [atM_head, inM_head]; rfl
    · refine List.map_congr_left fun k hk => ?_
      have hlt : y.1 < k := by
        rcases (hs k).1 hk with ⟨c, hc, _⟩ | ⟨c, hc, rfl⟩
        · cases hc
        · exact h1 c hc
      unfold mgOf; rw [atM_tail (by omega), inM_tail (by omega)]
  | f + 1, x :: a, y :: b, h, ha, hb => by
    obtain ⟨h1, h2⟩ := upM_cons.1 ha
    obtain ⟨h3, h4⟩ := upM_cons.1 hb
    by_cases hxy : x.1 < y.1
    · have ih := mgF_rk f a (y :: b) (by simp at h ⊢; omega) h2 hb
      have hs := (rk_spec f a (y :: b) (by simp at h ⊢; omega) h2 hb).2
      have hl := at_low (a := y :: b) (k := x.1) (fun c hc => by
        rcases List.mem_cons.1 hc with rfl | hc
        · exact hxy
        · exact Int.lt_trans hxy (h3 c hc))
      unfold mgF rkF
      rw [if_pos hxy, if_pos hxy, List.map_cons, ih]
      congr 1
      · unfold mgOf; rw [atM_head, inM_head, hl.1, hl.2]
      · refine List.map_congr_left fun k hk => ?_
        have hlt : x.1 < k := by
          rcases (hs k).1 hk with ⟨c, hc, rfl⟩ | ⟨c, hc, rfl⟩
          · exact h1 c hc
          · rcases List.mem_cons.1 hc with rfl | hc
            · exact hxy
            · exact Int.lt_trans hxy (h3 c hc)
        unfold mgOf; rw [atM_tail (x := x) (by omega), inM_tail (x := x) (by omega)]
    · by_cases hyx : y.1 < x.1
      · have ih := mgF_rk f (x :: a) b (by simp at h ⊢; omega) ha h4
        have hs := (rk_spec f (x :: a) b (by simp at h ⊢; omega) ha h4).2
        have hl := at_low (a := x :: a) (k := y.1) (fun c hc => by
          rcases List.mem_cons.1 hc with rfl | hc
          · exact hyx
          · exact Int.lt_trans hyx (h1 c hc))
        unfold mgF rkF
        rw [if_neg hxy, if_neg hxy, if_pos hyx, if_pos hyx, List.map_cons, ih]
        congr 1
        · unfold mgOf; rw [atM_head, inM_head, hl.1, hl.2]
        · refine List.map_congr_left fun k hk => ?_
          have hlt : y.1 < k := by
            rcases (hs k).1 hk with ⟨c, hc, rfl⟩ | ⟨c, hc, rfl⟩
            · rcases List.mem_cons.1 hc with rfl | hc
              · exact hyx
              · exact Int.lt_trans hyx (h1 c hc)
            · exact h3 c hc
          unfold mgOf; rw [atM_tail (x := y) (by omega), inM_tail (x := y) (by omega)]
      · have e : x.1 = y.1 := by omega
        have ih := mgF_rk f a b (by simp at h ⊢; omega) h2 h4
        have hs := (rk_spec f a b (by simp at h ⊢; omega) h2 h4).2
        unfold mgF rkF
        rw [if_neg hxy, if_neg hxy, if_neg hyx, if_neg hyx, List.map_cons, ih]
        congr 1
        · unfold mgOf; rw [atM_head, inM_head, e, atM_head, inM_head]
        · refine List.map_congr_left fun k hk => ?_
          have hlt : x.1 < k := by
            rcases (hs k).1 hk with ⟨c, hc, rfl⟩ | ⟨c, hc, rfl⟩
            · exact h1 c hc
            · rw [e]; exact h3 c hc
          unfold mgOf; rw [atM_tail (x := x) (by omega), inM_tail (x := x) (by omega), atM_tail (x := y) (by omega), inM_tail (x := y) (by omega)]
theorem mg_rk {a b : List Cl} (ha : UpM a) (hb : UpM b) : mg a b = (rk a b).map (mgOf a b) := mgF_rk _ a b (Nat.le_refl _) ha hb
theorem mg_len {a b : List Cl} (ha : UpM a) (hb : UpM b) : (mg a b).length ≤ a.length + b.length := by rw [mg_rk ha hb, List.length_map]; exact rk_len (a.length + b.length) a b
abbrev mgV (z : Mg) : Array Value := #[.int .i64 z.1, .agg #[.int .i64 z.2.1, .int .i64 z.2.2.1, .bool z.2.2.2.1, .bool z.2.2.2.2]]
theorem merged_calls (k j : Int) (xa ya : Option Addr) (lx ly xc yc : Nat) (w : World) :
    Calls Tryz.prog 61 #[.agg #[.int .i64 k, .slice xa lx xc], .agg #[.int .i64 j, .slice ya ly yc]] w fun e w' =>
      e = .returned (.func (.func 93) #[] #[.pointer (some ⟨w.heap.size, 0, none⟩), .pointer (some ⟨w.heap.size + 1, 0, none⟩)]) ∧
      w' = (w.alloc (.cells #[.int .i64 k, .slice xa lx xc] 35)).alloc (.cells #[.int .i64 j, .slice ya ly yc] 35) := by
  go_enter Tryz.func61, Tryz.ntmps61
  go_wp2
  go_ret
  exact ⟨rfl, rfl⟩
theorem merged_cells (k j : Int) (xa ya : Option Addr) (lx ly xc yc : Nat) (w : World) :
    ((w.alloc (.cells #[.int .i64 k, .slice xa lx xc] 35)).alloc (.cells #[.int .i64 j, .slice ya ly yc] 35)).cell? ⟨w.heap.size, 1, none⟩ = some (.slice xa lx xc) ∧
    ((w.alloc (.cells #[.int .i64 k, .slice xa lx xc] 35)).alloc (.cells #[.int .i64 j, .slice ya ly yc] 35)).cell? ⟨w.heap.size + 1, 1, none⟩ = some (.slice ya ly yc) ∧
    ((w.alloc (.cells #[.int .i64 k, .slice xa lx xc] 35)).alloc (.cells #[.int .i64 j, .slice ya ly yc] 35)).heap.size = w.heap.size + 2 := by
  refine ⟨by go_simp, by go_simp, by simp⟩
theorem still_skip {P : Program} {ops : Array Oper} {w : World} {Q : Act → Prop} {a : Act} {o : Oper} {rest : List Oper} (h1 : Region.wanted o (yielded ops a.tmps) = false) (h : wpStill P ops w Q rest (a.put o.dst undef)) : wpStill P ops w Q (o :: rest) a := by
  unfold wpStill; rw [h1]; exact h
theorem still_do {P : Program} {ops : Array Oper} {w : World} {Q : Act → Prop} {a : Act} {o : Oper} {rest : List Oper} (h1 : Region.wanted o (yielded ops a.tmps) = true) (h : ∀ K : Act → Prop, (∀ a, wpStill P ops w Q rest a → K a) → o.still P a w K) : wpStill P ops w Q (o :: rest) a := by
  unfold wpStill; rw [h1]; exact h _ (fun _ h => h)
structure PB (w : World) (b : Nat) (r s : Int) (i j : Bool) : Prop where
  c0 : w.cell? ⟨b, 0, none⟩ = some (.int .i64 r)
  c1 : w.cell? ⟨b, 1, none⟩ = some (.int .i64 s)
  c2 : w.cell? ⟨b, 2, none⟩ = some (.bool i)
  c3 : w.cell? ⟨b, 3, none⟩ = some (.bool j)
  fr : ∀ o, w.frozen? ⟨b, o, none⟩ = false
theorem PB.new (w : World) (r s : Int) (i j : Bool) : PB (w.alloc (.cells #[.int .i64 r, .int .i64 s, .bool i, .bool j] 103)) w.heap.size r s i j :=
  ⟨by go_simp, by go_simp, by go_simp, by go_simp, fun o => by go_simp⟩
theorem PB.grown {w w' : World} {b : Nat} {r s : Int} {i j : Bool} (h : PB w b r s i j) (hg : w.grownBy w' none) : PB w' b r s i j :=
  ⟨hg.cell h.c0 (by simp), hg.cell h.c1 (by simp), hg.cell h.c2 (by simp), hg.cell h.c3 (by simp), fun o => (grown_frozen hg (lies_lt h.c0) o).trans (h.fr o)⟩
theorem PB.s0 {w : World} {b : Nat} {r s : Int} {i j : Bool} (h : PB w b r s i j) (x : Int) : PB (w.setCell ⟨b, 0, none⟩ (.int .i64 x)) b x s i j :=
  ⟨World.cell?_setCell_same _ _ _ h.c0, by rw [World.cell?_setCell_other _ _ _ _ (ne_at (by decide))]; exact h.c1, by rw [World.cell?_setCell_other _ _ _ _ (ne_at (by decide))]; exact h.c2, by rw [World.cell?_setCell_other _ _ _ _ (ne_at (by decide))]; exact h.c3, fun o => by rw [World.frozen?_setCell]; exact h.fr o⟩
theorem PB.s1 {w : World} {b : Nat} {r s : Int} {i j : Bool} (h : PB w b r s i j) (x : Int) : PB (w.setCell ⟨b, 1, none⟩ (.int .i64 x)) b r x i j :=
  ⟨by rw [World.cell?_setCell_other _ _ _ _ (ne_at (by decide))]; exact h.c0, World.cell?_setCell_same _ _ _ h.c1, by rw [World.cell?_setCell_other _ _ _ _ (ne_at (by decide))]; exact h.c2, by rw [World.cell?_setCell_other _ _ _ _ (ne_at (by decide))]; exact h.c3, fun o => by rw [World.frozen?_setCell]; exact h.fr o⟩
theorem PB.s2 {w : World} {b : Nat} {r s : Int} {i j : Bool} (h : PB w b r s i j) (x : Bool) : PB (w.setCell ⟨b, 2, none⟩ (.bool x)) b r s x j :=
  ⟨by rw [World.cell?_setCell_other _ _ _ _ (ne_at (by decide))]; exact h.c0, by rw [World.cell?_setCell_other _ _ _ _ (ne_at (by decide))]; exact h.c1, World.cell?_setCell_same _ _ _ h.c2, by rw [World.cell?_setCell_other _ _ _ _ (ne_at (by decide))]; exact h.c3, fun o => by rw [World.frozen?_setCell]; exact h.fr o⟩
theorem PB.s3 {w : World} {b : Nat} {r s : Int} {i j : Bool} (h : PB w b r s i j) (x : Bool) : PB (w.setCell ⟨b, 3, none⟩ (.bool x)) b r s i x :=
  ⟨by rw [World.cell?_setCell_other _ _ _ _ (ne_at (by decide))]; exact h.c0, by rw [World.cell?_setCell_other _ _ _ _ (ne_at (by decide))]; exact h.c1, by rw [World.cell?_setCell_other _ _ _ _ (ne_at (by decide))]; exact h.c2, World.cell?_setCell_same _ _ _ h.c3, fun o => by rw [World.frozen?_setCell]; exact h.fr o⟩
theorem cells_tail {b o p cap : Nat} (h : p + 1 ≤ cap) : ∃ a' c', (∀ w, (Instr.slice 33 (.slice (some ⟨b, o, none⟩) (p + 1) cap) (some (.int .i64 1)) none none).run Tryz.prog w = .ok (.slice a' p c') w) ∧ ∀ (W : World) (c : Cl) (l : List Cl), l.length = p → CellsW W (some ⟨b, o, none⟩) cap (c :: l) → CellsW W a' c' l := by
  by_cases hq : cap = 1
  · obtain rfl : p = 0 := by omega
    subst hq
    exact ⟨some ⟨b, o, none⟩, 0, fun w => by go_simp, fun W c l hl _ => ⟨by omega, .inl (List.eq_nil_of_length_eq_zero hl)⟩⟩
  · have a3 : (1 : Int) ≤ (p : Int) + 1 := by omega
    have a4 : 1 ≤ p + 1 := by omega
    refine ⟨some ⟨b, o + 2, none⟩, cap - 1, fun w => ?_, fun W c l hl hc => ?_⟩
    · go_simp
    · refine ⟨by omega, .inr ⟨b, o + 2, rfl, fun j x hj => ?_⟩⟩
      obtain ⟨b', o', e, h1⟩ := hc.at (i := j + 1) (x := x) (by simpa using hj)
      cases e
      rw [show o + 2 + j * 2 = o + (j + 1) * 2 by omega]
      exact h1
end Go.Proofs.YthdhmflodiincaaGreat

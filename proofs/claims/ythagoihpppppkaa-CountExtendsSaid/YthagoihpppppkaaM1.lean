/- Growing circuits that may have an index: what lies where, what is theirs. -/
import Derived.Test.YthagoihpppppkaaGC
import Derived.Test.YthagoihpppppkaaG5
import Derived.Test.YthagoihpppppkaaR1
namespace Go.Proofs.Ythagoihpppppkaa
open Go.RowKit Go.Maps

/-- Nothing but the blocks of M has turned. -/
structure Off (M : Nat → Prop) (w w' : World) : Prop where
  os : w'.os = w.os
  tape : w'.tape = w.tape
  output : w'.output = w.output
  size : w.heap.size ≤ w'.heap.size
  block : ∀ k, k < w.heap.size → ¬ M k → w'.heap[k]? = w.heap[k]?
theorem Off.of {M : Nat → Prop} {w w' : World} {r : Option Nat} (h : w.grownBy w' r) (hr : ∀ k, r = some k → M k) : Off M w w' :=
  ⟨h.os, h.tape, h.output, h.size, fun k hk hm => h.block k hk (fun e => hm (hr k e.symm))⟩
theorem Off.trans {M N : Nat → Prop} {w w1 w' : World} (h : Off M w w1) (h2 : Off N w1 w') (hn : ∀ k, k < w.heap.size → N k → M k) : Off M w w' :=
  ⟨h2.os.trans h.os, h2.tape.trans h.tape, h2.output.trans h.output, Nat.le_trans h.size h2.size, fun k hk hm => (h2.block k (Nat.lt_of_lt_of_le hk h.size) (fun e => hm (hn k hk e))).trans (h.block k hk hm)⟩
theorem Off.mono {M N : Nat → Prop} {w w' : World} (h : Off M w w') (hn : ∀ k, k < w.heap.size → M k → N k) : Off N w w' := ⟨h.os, h.tape, h.output, h.size, fun k hk hm => h.block k hk (fun e => hm (hn k hk e))⟩
theorem Off.refl (M : Nat → Prop) (w : World) : Off M w w := ⟨rfl, rfl, rfl, Nat.le_refl _, fun _ _ _ => rfl⟩
theorem Off.grown {M : Nat → Prop} {w0 w w' : World} (h0 : w0.grownBy w none) (h : Off M w w') (hm : ∀ k, M k → w0.heap.size ≤ k) : w0.grownBy w' none :=
  ⟨h.os.trans h0.os, h.tape.trans h0.tape, h.output.trans h0.output, Nat.le_trans h0.size h.size, fun k hk _ => (h.block k (Nat.lt_of_lt_of_le hk h0.size) (fun e => by have := hm k e; omega)).trans (h0.block k hk (by simp))⟩
theorem Off.cell {M : Nat → Prop} {w w' : World} (h : Off M w w') {a : Addr} {v : Value} (hc : w.cell? a = some v) (hm : ¬ M a.block) : w'.cell? a = some v :=
  (World.cell?_of_block (h.block a.block (lies_lt hc) hm)).trans hc
theorem Off.frozen {M : Nat → Prop} {w w' : World} (h : Off M w w') {b : Nat} (hb : b < w.heap.size) (hm : ¬ M b) (o : Nat) : w'.frozen? ⟨b, o, none⟩ = w.frozen? ⟨b, o, none⟩ :=
  World.frozen?_of_block (a := ⟨b, o, none⟩) (h.block b hb hm)
theorem Off.row {M : Nat → Prop} {w w' : World} (h : Off M w w') {B n k : Nat} {e : TypeId} {v : Value} {xs : List Value} (hr : w.ownsRow B e k v n xs) (hm : ∀ b, v.ownBlock = some b → ¬ M b) : w'.ownsRow B e k v n xs := by
  refine ⟨hr.1, ?_⟩
  rcases hr.2 with h0 | ⟨g, cap, cur, e1, h1, h2, h3⟩
  · exact .inl h0
  · exact .inr ⟨g, cap, cur, e1, h1, (h.block g (Array.getElem?_eq_some_iff.1 h2).1 (hm g (by rw [e1]; rfl))).trans h2, h3⟩
/-- The blocks that belong to a growing circuit. -/
def mine (p : Nat) (owned : Bool) (va : Option Addr) (mb : Option Nat) (k : Nat) : Prop := k = p ∨ (owned = true ∧ ∃ a, va = some a ∧ a.block = k) ∨ mb = some k
structure Grw (p : Nat) (w : World) (owned : Bool) (va : Option Addr) (vc : Nat) (gs : List Gt) (mb : Option Nat) (vis : Int) : Prop where
  c0 : w.cell? ⟨p, 0, none⟩ = some (.slice va gs.length vc)
  c1 : w.cell? ⟨p, 1, none⟩ = some (.bool owned)
  c2 : w.cell? ⟨p, 2, none⟩ = some (.map mb)
  c3 : w.cell? ⟨p, 3, none⟩ = some (.int .i64 vis)
  fr : ∀ o, w.frozen? ⟨p, o, none⟩ = false
  row : GRow (p + 1) p w owned va vc gs
  ix : ∀ b, mb = some b → p < b ∧ MapG w b gs
theorem GRow.far {B p : Nat} {w w' : World} {owned : Bool} {va : Option Addr} {vc : Nat} {gs : List Gt} {r : Option Nat} (h : GRow B p w owned va vc gs) (hg : w.grownBy w' r) (hr : ∀ x, r = some x → p ≤ x ∧ ¬ (owned = true ∧ ∃ a, va = some a ∧ a.block = x)) : GRow B p w' owned va vc gs := by
  unfold GRow at h ⊢
  cases owned with
  | true =>
    simp only [if_true] at h ⊢
    refine h.kept hg ?_
    cases va with
    | none => exact .inl rfl
    | some a => exact .inr (fun e => (hr a.block e.symm).2 ⟨rfl, a, rfl, rfl⟩)
  | false =>
    simp only [Bool.false_eq_true, if_false] at h ⊢
    exact h.off hg fun x e => .inr (hr x e).1
/-- What others do leaves a growing circuit as it is. -/
theorem Grw.far {p : Nat} {w w' : World} {owned : Bool} {va : Option Addr} {vc : Nat} {gs : List Gt} {mb : Option Nat} {vis : Int} {r : Option Nat} (h : Grw p w owned va vc gs mb vis) (hg : w.grownBy w' r) (hr : ∀ x, r = some x → p ≤ x ∧ ¬ mine p owned va mb x) : Grw p w' owned va vc gs mb vis := by
  have hp : some p ≠ r := fun e => (hr p e.symm).2 (.inl rfl)
  refine ⟨hg.cell h.c0 hp, hg.cell h.c1 hp, hg.cell h.c2 hp, hg.cell h.c3 hp, fun o => (World.frozen?_of_block (a := ⟨p, o, none⟩) (hg.block p (lies_lt h.c0) hp)).trans (h.fr o), h.row.far hg (fun x e => ⟨(hr x e).1, fun c => (hr x e).2 (.inr (.inl c))⟩), fun b e => ⟨(h.ix b e).1, (h.ix b e).2.kept hg (fun c => (hr b c.symm).2 (.inr (.inr e)))⟩⟩
theorem Grw.grown {p : Nat} {w w' : World} {owned : Bool} {va : Option Addr} {vc : Nat} {gs : List Gt} {mb : Option Nat} {vis : Int} (h : Grw p w owned va vc gs mb vis) (hg : w.grownBy w' none) : Grw p w' owned va vc gs mb vis := h.far hg (fun x e => by cases e)
theorem Grw.gates {p : Nat} {w : World} {owned : Bool} {va : Option Addr} {vc : Nat} {gs : List Gt} {mb : Option Nat} {vis : Int} (h : Grw p w owned va vc gs mb vis) : GatesW w va vc gs := GRow.gates h.row
theorem GRow.ne {p : Nat} {w : World} {owned : Bool} {va : Option Addr} {vc : Nat} {gs : List Gt} (h : GRow (p + 1) p w owned va vc gs) : ¬ (owned = true ∧ ∃ a, va = some a ∧ a.block = p) := by
  rintro ⟨rfl, a, rfl, e⟩
  unfold GRow at h
  simp only [if_true] at h
  have := (h.lt a.block rfl).1
  omega
theorem Grw.setVis {p : Nat} {w : World} {owned : Bool} {va : Option Addr} {vc : Nat} {gs : List Gt} {mb : Option Nat} {vis : Int} (h : Grw p w owned va vc gs mb vis) (v : Int) : Grw p (w.setCell ⟨p, 3, none⟩ (.int .i64 v)) owned va vc gs mb v := by
  refine ⟨?_, ?_, ?_, World.cell?_setCell_same _ _ _ h.c3, fun o => by rw [World.frozen?_setCell]; exact h.fr o, h.row.far (grown_set _ _ _ _) (fun x e => by cases e; exact ⟨Nat.le_refl _, h.row.ne⟩), fun b e => ⟨(h.ix b e).1, (h.ix b e).2.kept (grown_set w p 3 _) (fun c => by injection c with c; have := (h.ix b e).1; omega)⟩⟩
  · rw [World.cell?_setCell_other _ _ _ _ (ne_at (by decide))]; exact h.c0
  · rw [World.cell?_setCell_other _ _ _ _ (ne_at (by decide))]; exact h.c1
  · rw [World.cell?_setCell_other _ _ _ _ (ne_at (by decide))]; exact h.c2
/-- The index is put in. -/
theorem Grw.setIx {p b : Nat} {w : World} {owned : Bool} {va : Option Addr} {vc : Nat} {gs : List Gt} {vis : Int} (h : Grw p w owned va vc gs none vis) (hb : p < b) (hm : MapG w b gs) : Grw p (w.setCell ⟨p, 2, none⟩ (.map (some b))) owned va vc gs (some b) vis := by
  refine ⟨?_, ?_, World.cell?_setCell_same _ _ _ h.c2, ?_, fun o => by rw [World.frozen?_setCell]; exact h.fr o, h.row.far (grown_set _ _ _ _) (fun x e => by cases e; exact ⟨Nat.le_refl _, h.row.ne⟩), fun b' e => by injection e with e; subst e; exact ⟨hb, hm.kept (grown_set w p 2 _) (fun c => by injection c with c; omega)⟩⟩
  · rw [World.cell?_setCell_other _ _ _ _ (ne_at (by decide))]; exact h.c0
  · rw [World.cell?_setCell_other _ _ _ _ (ne_at (by decide))]; exact h.c1
  · rw [World.cell?_setCell_other _ _ _ _ (ne_at (by decide))]; exact h.c3
theorem mapnil_eq (b : Nat) (w : World) : (binOp .eql 78 (.map (some b)) (.map none)).run Try.prog w = .ok (.bool false) w := by kernel_rfl
theorem mapnil_ne (b : Nat) (w : World) : (binOp .neq 78 (.map (some b)) (.map none)).run Try.prog w = .ok (.bool true) w := by kernel_rfl
theorem locI_mem {gs : List Gt} {x : Gt} (hone : ∀ (i j : Nat) (g : Gt), gs[i]? = some g → gs[j]? = some g → i = j) {c : Int} (hc : ∀ i : Nat, gs[i]? = some x → c = (i : Int)) (hx : x ∈ gs) : locI x gs = c := by
  obtain ⟨i, hi⟩ := List.mem_iff_getElem?.1 hx
  rw [locI_some hone hi, hc i hi]
theorem locI_not {gs : List Gt} {x : Gt} (hx : x ∉ gs) : locI x gs = -1 := locI_none fun _ hi => hx (List.mem_of_getElem? hi)
/-- The look-up, however often the order has been drawn. -/
theorem MapG.looks {w : World} {b : Nat} {S : List Gt} (h : MapG w b S) {g : Gt} (hk : WfG g) : ∃ c : Int, (∀ q : Nat, (Instr.lookup 78 (.map (some b)) (gv g) true).run Try.prog (w.drewN q) = .ok (.tuple #[.int .i64 c, .bool (decide (g ∈ S))]) (w.drewN q)) ∧ ∀ i : Nat, S[i]? = some g → c = (i : Int) := by
  obtain ⟨D, hD, ha⟩ := h
  obtain ⟨l, hl⟩ := key_mk hk
  have H : ∀ q : Nat, ∃ c : Int, (Instr.lookup 78 (.map (some b)) (gv g) true).run Try.prog (w.drewN q) = .ok (.tuple #[.int .i64 c, .bool (decide (g ∈ S))]) (w.drewN q) ∧ D.atKey l (.lit (.int .i64 0)) = .lit (.int .i64 c) := fun q => by
    obtain ⟨v, ps, hr, hv⟩ := (hD.kept (grown_drewN w q none) (by simp)).look_ok keyed69 Try.underlying78 (zero3 _) (plainElem_int Try.underlying3 (by decide)) hl
    obtain ⟨c, rfl, hc, _⟩ := plainElem_int_inv Try.underlying3 hv
    exact ⟨c, by rw [hr, (ha g l hl).1], congrArg Prod.fst hc⟩
  obtain ⟨c, _, hc⟩ := H 0
  refine ⟨c, fun q => ?_, fun i hi => ?_⟩
  · obtain ⟨d, h1, h2⟩ := H q
    rw [hc] at h2
    injection h2 with h2
    injection h2 with _ h2
    rw [h1, h2]
  · have h1 := (ha g l hl).2 i hi
    rw [h1] at hc
    injection hc with hc
    injection hc with _ hc
    exact hc.symm
end Go.Proofs.Ythagoihpppppkaa

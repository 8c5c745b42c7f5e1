/- Stage 20, joined: U8, U9, R12. -/
import Derived.BigFrame
import Derived.Test.YthkemajekkilmaaGA10
/- Appends of rows and of rows of rows, at the operation. -/
namespace Go.Proofs.Ythkemajekkilmaa
open Go.RowKit
theorem wp_appI {o : Oper} {a : Act} {Q : Exit → Act → World → Prop} {K : Act → World → Prop} {w : World} (s x : Operand) (ho : o.op = .call { callee := .builtin .append, args := #[s, x], argTypes := #[25, 25] })
    (B : Nat) (sa : Option Addr) (sc n : Nat) (xs ys : List Int) (xa : Option Addr) (xc m : Nat) (hs : a.eval s = .slice sa n sc) (hx : a.eval x = .slice xa m xc)
    (hown : w.ownsRow B 3 1 (.slice sa n sc) n (intCells xs)) (hy : IntsW w xa xc ys) (hm : ys.length = m) (hnm : n + m ≤ 100000) (hB : B ≤ w.heap.size) (zs : List Int) (hzs : xs ++ ys = zs) (nm : Nat) (hsum : n + m = nm)
    (h : ∀ ra rc w', w'.ownsRow B 3 1 (.slice ra nm rc) nm (intCells zs) → w.grownBy w' (Value.slice sa n sc).ownBlock → K (a.put o.dst (.slice ra nm rc)) w') : Oper.wp Try.prog o a w K Q := by
  subst hzs hsum
  obtain ⟨i0, hi0, hz0, hz1, hz2⟩ := info_parts info3
  cases xa with
  | none =>
    have hy0 : ys = [] := by
      rcases hy.2 with h1 | ⟨b, o, h1, _⟩
      · exact h1
      · cases h1
    subst hy0
    obtain rfl : m = 0 := by rw [← hm]; rfl
    have hrun : (Builtin.append_ #[25, 25] o.type #[.slice sa n sc, .slice none 0 xc]).run Try.prog w = .ok (.slice sa n sc) w := by
      rcases hown.2 with ⟨h1, rfl⟩ | ⟨g, cap, cur, h1, _, _, hnc, _⟩
      · injection h1 with e1 _ e3
        subst e1 e3
        simp [Builtin.append_, run_underlying Try.underlying25, sizeOf, typeInfo, hi0, Builtin.lenOf, Builtin.firstCells]
      · injection h1 with e1 _ e3
        subst e1 e3
        simp [Builtin.append_, run_underlying Try.underlying25, sizeOf, typeInfo, hi0, Builtin.lenOf, Builtin.firstCells, hnc, storeCells]
    have this : K (a.put o.dst (.slice sa n sc)) w := by simpa using h sa sc w (by simpa using hown) ⟨rfl, rfl, rfl, Nat.le_refl _, fun _ _ _ => rfl⟩
    unfold Oper.wp execOp
    simp only [ho, resolve, invoke, builtin, Sem.run_bind, Sem.run_pure, Result.andThen_ok, List.map_toArray, List.map_cons, List.map_nil, hs, hx, hrun]
    exact this
  | some ad =>
    obtain ⟨v', w', hr, h2, h3, _, _⟩ := run_append_own_at (P := Try.prog) w B 25 o.type 3 i0 (.int .i64 0) 1 8 Try.underlying25 hi0 hz0 hz1 hz2 rfl (by decide) (.slice sa n sc) n (intCells xs) hown ad m xc (intCells ys) (by simp [intCells, hm]) (fun j u hj => by
      rcases hy.2 with h1 | ⟨b, o', h1, h2⟩
      · subst h1; simp [intCells] at hj
      · injection h1 with h1
        subst h1
        rw [add_off]
        unfold intCells at hj
        rw [List.getElem?_map] at hj
        cases hz : ys[j]? with
        | none => rw [hz] at hj; cases hj
        | some z =>
          rw [hz] at hj
          injection hj with hj
          rw [← hj]
          exact h2 j z hz) (fun u hu => by obtain ⟨z, _, rfl⟩ := List.mem_map.1 hu; rfl) (by unfold maxLen; omega) (by omega) hB
    obtain ⟨ra, rc, rfl⟩ := own_shape h2
    unfold Oper.wp execOp
    simp only [ho, resolve, invoke, builtin, Sem.run_bind, Sem.run_pure, Result.andThen_ok, List.map_toArray, List.map_cons, List.map_nil, hs, hx, hr]
    exact h ra rc w' (by rw [intCells, List.map_append]; exact h2) h3
theorem wpList_appIw {ops : Array Oper} {rest : List Oper} {o : Oper} {a : Act} {Q : Exit → Act → World → Prop} {w : World} (hw : Region.wanted o (yielded ops a.tmps) = true) (s x : Operand) (ho : o.op = .call { callee := .builtin .append, args := #[s, x], argTypes := #[25, 25] })
    (B : Nat) (sa : Option Addr) (sc n : Nat) (xs ys : List Int) (xa : Option Addr) (xc m : Nat) (hs : a.eval s = .slice sa n sc) (hx : a.eval x = .slice xa m xc)
    (hown : w.ownsRow B 3 1 (.slice sa n sc) n (intCells xs)) (hy : IntsW w xa xc ys) (hm : ys.length = m) (hnm : n + m ≤ 100000) (hB : B ≤ w.heap.size) (zs : List Int) (hzs : xs ++ ys = zs) (nm : Nat) (hsum : n + m = nm)
    (h : ∀ ra rc w', w'.ownsRow B 3 1 (.slice ra nm rc) nm (intCells zs) → w.grownBy w' (Value.slice sa n sc).ownBlock → wpList Try.prog ops Q rest (a.put o.dst (.slice ra nm rc)) w') : wpList Try.prog ops Q (o :: rest) a w :=
  BigFrame.wpList_want hw fun _ hK => wp_appI s x ho B sa sc n xs ys xa xc m hs hx hown hy hm hnm hB zs hzs nm hsum fun ra rc w' h1 h2 => hK _ _ (h ra rc w' h1 h2)
/-- A row of rows that is being made, its rows read. -/
def OV (B : Nat) (w : World) (a : Option Addr) (c n : Nat) (zs : List (List Int)) : Prop :=
  zs.length = n ∧ ∃ vs : List Value, w.ownsRow B 25 1 (.slice a n c) n vs ∧ ∀ (i : Nat) (z : List Int), zs[i]? = some z → ∃ a' c', vs[i]? = some (.slice a' z.length c') ∧ IntsW w a' c' z
theorem OV.grown {B : Nat} {w w' : World} {a : Option Addr} {c n : Nat} {zs : List (List Int)} (h : OV B w a c n zs) (hg : w.grownBy w' none) : OV B w' a c n zs := by
  obtain ⟨h1, vs, h2, h3⟩ := h
  refine ⟨h1, vs, own_grown h2 hg, fun i z hz => ?_⟩
  obtain ⟨a', c', h4, h5⟩ := h3 i z hz
  exact ⟨a', c', h4, h5.grown hg⟩
theorem OV.cls {B : Nat} {w : World} {a : Option Addr} {c n : Nat} {zs : List (List Int)} (h : OV B w a c n zs) : ClsW w a c zs := by
  obtain ⟨h1, vs, h2, h3⟩ := h
  rcases h2.2 with ⟨_, h0⟩ | ⟨g, cap, cur, e, _, _, hn, _⟩
  · exact ⟨by omega, .inl (List.eq_nil_of_length_eq_zero (by omega))⟩
  · injection e with e1 _ e3
    subst e1 e3
    refine ⟨by omega, .inr ⟨g, 0, rfl, fun j z hz => ?_⟩⟩
    obtain ⟨a', c', h4, h5⟩ := h3 j z hz
    have hj := (List.getElem?_eq_some_iff.1 hz).1
    refine ⟨a', c', ?_, h5⟩
    rw [Nat.zero_add, World.ownsRow.cellAt h2 j (by omega), h4]
theorem cls_vals {w : World} {a : Option Addr} {c : Nat} {zs : List (List Int)} (h : ClsW w a c zs) : ∃ us : List Value, us.length = zs.length ∧ (∀ (i : Nat) (z : List Int), zs[i]? = some z → ∃ a' c', us[i]? = some (.slice a' z.length c') ∧ IntsW w a' c' z) ∧ (∀ u ∈ us, ∃ a' n c', u = .slice a' n c') ∧
    (zs = [] ∨ ∃ b o, a = some ⟨b, o, none⟩ ∧ ∀ (j : Nat) (u : Value), us[j]? = some u → w.cell? ⟨b, o + j, none⟩ = some u) := by
  rcases h.2 with h1 | ⟨b, o, h1, h2⟩
  · subst h1
    exact ⟨[], rfl, fun i z hz => (by simp at hz), fun u hu => (by cases hu), .inl rfl⟩
  · refine ⟨(List.range zs.length).map fun j => (w.cell? ⟨b, o + j, none⟩).getD undef, by simp, fun i z hz => ?_, fun u hu => ?_, .inr ⟨b, o, h1, fun j u hu => ?_⟩⟩
    · obtain ⟨a', c', h3, h4⟩ := h2 i z hz
      have hi := (List.getElem?_eq_some_iff.1 hz).1
      exact ⟨a', c', by rw [List.getElem?_map, List.getElem?_range hi]; simp [h3], h4⟩
    · obtain ⟨j, hj, rfl⟩ := List.mem_map.1 hu
      have hjl := List.mem_range.1 hj
      obtain ⟨a', c', h3, _⟩ := h2 j zs[j] (List.getElem?_eq_getElem hjl)
      exact ⟨a', _, c', by rw [h3]; rfl⟩
    · have hjl : j < zs.length := by have := (List.getElem?_eq_some_iff.1 hu).1; simpa using this
      obtain ⟨a', c', h3, _⟩ := h2 j zs[j] (List.getElem?_eq_getElem hjl)
      rw [List.getElem?_map, List.getElem?_range hjl] at hu
      simp [h3] at hu
      rw [h3, ← hu]
theorem ints_kept {w w' : World} {B : Nat} {a : Option Addr} {c n : Nat} {vs : List Value} (h2 : w.ownsRow B 25 1 (.slice a n c) n vs) (hg : w.grownBy w' (Value.slice a n c).ownBlock) {w0 : World} (h0 : w0.grownBy w none) (hB : w0.heap.size ≤ B) {a' : Option Addr} {c' : Nat} {z : List Int} (h : IntsW w0 a' c' z) : IntsW w' a' c' z :=
  h.grown (grown_own h0 hg (fun k hk => Nat.le_trans hB (own_low h2 k hk)))
theorem wp_app22 {o : Oper} {a : Act} {Q : Exit → Act → World → Prop} {K : Act → World → Prop} {w : World} (s x : Operand) (ho : o.op = .call { callee := .builtin .append, args := #[s, x], argTypes := #[22, 22] })
    {w0 : World} (B : Nat) (h0 : w0.grownBy w none) (hB0 : w0.heap.size ≤ B) (sa : Option Addr) (sc n : Nat) (xs ys : List (List Int)) (xa : Option Addr) (xc m : Nat) (hs : a.eval s = .slice sa n sc) (hx : a.eval x = .slice xa m xc)
    (hown : ∃ vs : List Value, w.ownsRow B 25 1 (.slice sa n sc) n vs ∧ ∀ (i : Nat) (z : List Int), xs[i]? = some z → ∃ a' c', vs[i]? = some (.slice a' z.length c') ∧ IntsW w0 a' c' z) (hxl : xs.length = n) (hy : ClsW w0 xa xc ys) (hm : ys.length = m) (hnm : n + m ≤ 2000000) (hB : B ≤ w.heap.size) (nm : Nat) (hsum : n + m = nm)
    (h : ∀ ra rc w', (∃ vs : List Value, w'.ownsRow B 25 1 (.slice ra nm rc) nm vs ∧ ∀ (i : Nat) (z : List Int), (xs ++ ys)[i]? = some z → ∃ a' c', vs[i]? = some (.slice a' z.length c') ∧ IntsW w0 a' c' z) → w.grownBy w' (Value.slice sa n sc).ownBlock → w0.grownBy w' none → K (a.put o.dst (.slice ra nm rc)) w') : Oper.wp Try.prog o a w K Q := by
  subst hsum
  obtain ⟨i0, hi0, hz0, hz1, hz2⟩ := info_parts info25
  obtain ⟨vs, hvs, hvz⟩ := hown
  have hvl : vs.length = n := by have := hvs.1; omega
  cases xa with
  | none =>
    have hy0 : ys = [] := by
      rcases hy.2 with h1 | ⟨b, o, h1, _⟩
      · exact h1
      · cases h1
    subst hy0
    obtain rfl : m = 0 := by rw [← hm]; rfl
    have hrun : (Builtin.append_ #[22, 22] o.type #[.slice sa n sc, .slice none 0 xc]).run Try.prog w = .ok (.slice sa n sc) w := by
      rcases hvs.2 with ⟨h1, rfl⟩ | ⟨g, cap, cur, h1, _, _, hnc, _⟩
      · injection h1 with e1 _ e3
        subst e1 e3
        simp [Builtin.append_, run_underlying Try.underlying22, sizeOf, typeInfo, hi0, Builtin.lenOf, Builtin.firstCells]
      · injection h1 with e1 _ e3
        subst e1 e3
        simp [Builtin.append_, run_underlying Try.underlying22, sizeOf, typeInfo, hi0, Builtin.lenOf, Builtin.firstCells, hnc, storeCells]
    have this : K (a.put o.dst (.slice sa n sc)) w := by simpa using h sa sc w ⟨vs, by simpa using hvs, by simpa using hvz⟩ ⟨rfl, rfl, rfl, Nat.le_refl _, fun _ _ _ => rfl⟩ h0
    unfold Oper.wp execOp
    simp only [ho, resolve, invoke, builtin, Sem.run_bind, Sem.run_pure, Result.andThen_ok, List.map_toArray, List.map_cons, List.map_nil, hs, hx, hrun]
    exact this
  | some ad =>
    obtain ⟨us, hul, huz, hus, huc⟩ := cls_vals hy
    obtain ⟨v', w', hr, h2, h3, _, _⟩ := run_append_own_at (P := Try.prog) w B 22 o.type 25 i0 (.slice none 0 0) 1 24 Try.underlying22 hi0 hz0 hz1 hz2 rfl (by decide) (.slice sa n sc) n vs hvs ad m xc us (by omega) (fun j u hj => by
      rcases huc with h1 | ⟨b, o', h1, h2⟩
      · subst h1
        have : us = [] := List.eq_nil_of_length_eq_zero (by simpa using hul)
        subst this
        simp at hj
      · injection h1 with h1
        subst h1
        rw [add_off]
        exact h0.cell (h2 j u hj) (by simp)) (fun u hu => by obtain ⟨a', n', c', rfl⟩ := hus u hu; rfl) (by unfold maxLen; omega) (by omega) hB
    obtain ⟨ra, rc, rfl⟩ := own_shape h2
    unfold Oper.wp execOp
    simp only [ho, resolve, invoke, builtin, Sem.run_bind, Sem.run_pure, Result.andThen_ok, List.map_toArray, List.map_cons, List.map_nil, hs, hx, hr]
    refine h ra rc w' ⟨vs ++ us, h2, fun i z hz => ?_⟩ h3 (grown_own h0 h3 (fun k hk => Nat.le_trans hB0 (own_low hvs k hk)))
    rw [List.getElem?_append] at hz
    split at hz
    · rename_i hlt
      obtain ⟨a', c', h4, h5⟩ := hvz i z hz
      exact ⟨a', c', by rw [List.getElem?_append_left (by omega)]; exact h4, h5⟩
    · rename_i hge
      obtain ⟨a', c', h4, h5⟩ := huz (i - xs.length) z hz
      exact ⟨a', c', by rw [List.getElem?_append_right (by omega), hvl, ← hxl]; exact h4, h5⟩
end Go.Proofs.Ythkemajekkilmaa
/- A formula that is put together. -/
namespace Go.Proofs.Ythkemajekkilmaa
open Go.RowKit
/-- The formula's box, still empty. -/
structure ZB (b : Nat) (w : World) : Prop where
  hb : ∃ cur, w.heap[b]? = some (.cells cur 24 (0, 0))
  c0 : w.cell? ⟨b, 0, none⟩ = some (.int .i64 0)
  c1 : w.cell? ⟨b, 1, none⟩ = some (.slice none 0 0)
  fr : ∀ o, w.frozen? ⟨b, o, none⟩ = false
theorem ZB.new (w : World) : ZB w.heap.size (w.alloc (.cells #[.int .i64 0, .slice none 0 0] 24)) :=
  ⟨⟨_, heap_alloc_new w _⟩, by go_simp, by go_simp, fun o => by go_simp⟩
theorem ZB.off {b : Nat} {w w' : World} {r : Option Nat} (h : ZB b w) (hg : w.grownBy w' r) (hr : some b ≠ r) : ZB b w' := by
  have hlt := lies_lt h.c0
  refine ⟨?_, hg.cell h.c0 hr, hg.cell h.c1 hr, fun o => (World.frozen?_of_block (a := ⟨b, o, none⟩) (hg.block b hlt hr)).trans (h.fr o)⟩
  obtain ⟨cur, hc⟩ := h.hb
  exact ⟨cur, (hg.block b hlt hr).trans hc⟩
theorem ZB.ne {b B n : Nat} {w : World} {a : Option Addr} {c : Nat} {vs : List Value} (h : ZB b w) (ho : w.ownsRow B 25 1 (.slice a n c) n vs) : some b ≠ (Value.slice a n c).ownBlock := by
  intro e
  obtain ⟨cur, hc⟩ := h.hb
  rcases ho.2 with ⟨e1, _⟩ | ⟨g, cap, cur', e1, _, hc', _⟩
  · rw [e1] at e; cases e
  · rw [e1] at e
    have : b = g := by injection e
    subst this
    rw [hc] at hc'
    injection hc' with hc'
    injection hc' with _ h1 _
    cases h1
/-- A row of rows in the making: its own row of slices, the rows as they lay at the beginning. -/
def OR (w0 : World) (B : Nat) (w : World) (a : Option Addr) (c n : Nat) (zs : List (List Int)) : Prop :=
  ∃ vs : List Value, w.ownsRow B 25 1 (.slice a n c) n vs ∧ ∀ (i : Nat) (z : List Int), zs[i]? = some z → ∃ a' c', vs[i]? = some (.slice a' z.length c') ∧ IntsW w0 a' c' z
theorem OR.grown {w0 : World} {B : Nat} {w w' : World} {a : Option Addr} {c n : Nat} {zs : List (List Int)} (h : OR w0 B w a c n zs) (hg : w.grownBy w' none) : OR w0 B w' a c n zs := by
  obtain ⟨vs, h1, h2⟩ := h
  exact ⟨vs, own_grown h1 hg, h2⟩
theorem OR.start (w0 w : World) {B : Nat} (hB : B ≤ w.heap.size) : OR w0 B (w.alloc (.cells #[] 25)) (some ⟨w.heap.size, 0, none⟩) 0 0 [] :=
  ⟨[], World.ownsRow_lit w #[] 0 hB (by unfold maxLen; omega) rfl, fun i z hz => by simp at hz⟩
theorem OR.ne {w0 : World} {b B n : Nat} {w : World} {a : Option Addr} {c : Nat} {zs : List (List Int)} (h : OR w0 B w a c n zs) (hz : ZB b w) : some b ≠ (Value.slice a n c).ownBlock := by
  obtain ⟨vs, h1, _⟩ := h
  exact hz.ne h1
/-- The formula's box is filled. -/
theorem zb_store {w0 W F : World} {B b n : Nat} {a : Option Addr} {c : Nat} {zs : List (List Int)} {u : Value} (hr : OR w0 B W a c n zs) (hl : zs.length = n) (hx : ZB b W) (hb : w0.heap.size ≤ b) (hg : w0.grownBy W none)
    (hF : (W.setCell ⟨b, 0, none⟩ u).setCell ⟨b, 1, none⟩ (.slice a n c) = F) : F.cell? ⟨b, 0, none⟩ = some u ∧ F.cell? ⟨b, 1, none⟩ = some (.slice a n c) ∧ ClsW F a c zs ∧ w0.grownBy F none := by
  have o : ∀ {i j : Nat}, i ≠ j → (⟨b, i, none⟩ : Addr) ≠ ⟨b, j, none⟩ := fun h e => h (by injection e)
  have hgF : W.grownBy F (some b) := by rw [← hF]; exact World.grownBy.trans (grown_set _ _ _ _) (grown_set _ _ _ _)
  have hg0 := grown_own hg hgF (fun k e => by cases e; exact hb)
  have hne := hr.ne hx
  obtain ⟨vs, h1, h2⟩ := hr
  have h1F := h1.kept hgF (by
    cases hv : (Value.slice a n c).ownBlock with
    | none => exact .inl rfl
    | some g => exact .inr (fun e => hne (by rw [hv]; exact e.symm)))
  refine ⟨?_, ?_, ?_, hg0⟩
  · rw [← hF]
    exact (World.cell?_setCell_other _ _ _ _ (o (by decide))).trans (World.cell?_setCell_same _ _ _ hx.c0)
  · rw [← hF]
    exact World.cell?_setCell_same _ _ _ ((World.cell?_setCell_other _ _ _ _ (o (by decide))).trans hx.c1)
  · rcases h1F.2 with ⟨_, h0⟩ | ⟨g, cap, cur, e, _, _, hn, _⟩
    · exact ⟨by omega, .inl (List.eq_nil_of_length_eq_zero (by omega))⟩
    · injection e with e1 _ e3
      subst e1 e3
      refine ⟨by omega, .inr ⟨g, 0, rfl, fun j z hz => ?_⟩⟩
      obtain ⟨a', c', h4, h5⟩ := h2 j z hz
      have hj := (List.getElem?_eq_some_iff.1 hz).1
      refine ⟨a', c', ?_, h5.grown hg0⟩
      rw [Nat.zero_add, World.ownsRow.cellAt h1F j (by omega), h4]
end Go.Proofs.Ythkemajekkilmaa
/- What the bound of the second form says about lengths. -/
namespace Go.Proofs.Ythkemajekkilmaa
open Go.ChangeShapes Go.WideShapes Go.ChangeAt Go.WideMaps Go.WideElems Go.RowKit Go.Deep Go.Joins
theorem weight_one {H : Type} (d : DataW H) : 1 ≤ Rows.uptoBulk d := by
  cases d with
  | lit l => cases l <;> simp [Rows.uptoBulk]
  | _ => simp [Rows.uptoBulk]
theorem weight_mem {H : Type} {d : DataW H} : ∀ {l : List (DataW H)}, d ∈ l → Rows.uptoBulk d ≤ Rows.uptoBulkAll l
  | [], h => by cases h
  | x :: l, h => by
    simp only [Rows.uptoBulkAll]
    rcases List.mem_cons.1 h with rfl | h
    · omega
    · have := weight_mem h; omega
theorem weight_len {H : Type} : ∀ (l : List (DataW H)), l.length ≤ Rows.uptoBulkAll l
  | [] => Nat.le_refl _
  | x :: l => by
    have h1 := weight_one x
    have h2 := weight_len l
    simp only [Rows.uptoBulkAll, List.length_cons]
    omega
set_option maxRecDepth 100000
section
variable {H : Type} {enc : TypeId × Value → H} {W : World}
theorem slice_weight {t e : TypeId} {fuel : Nat} {a : Option Addr} {n c : Nat} {x : DataW H × List MemPlace} (ht : Try.prog.underlying t = some (.slice e)) (h : DataW.trod enc Try.prog W 0 (fun _ => true) true fuel t [.slice a n c] = some x) : n ≤ Rows.uptoBulk x.1 := by
  rcases open_slice ht h with ⟨hcs, _⟩ | ⟨a', len, cap, m, n', D, Pl, hcs, _, _, _, _, hx, _⟩
  · injection hcs with hcs _
    injection hcs with _ h1 _
    omega
  · injection hcs with hcs _
    injection hcs with _ h1 _
    rw [hx]
    have h2 := weight_len ((List.range len).map D)
    rw [List.length_map, List.length_range] at h2
    simp only [Rows.uptoBulk]
    omega
theorem cls_weight {a : Option Addr} {n c : Nat} {d : DataW H} {ps : List MemPlace} (h : DataW.Trod enc Try.prog W 0 (fun _ => true) true 22 (.slice a n c) d ps) : n ≤ Rows.uptoBulk d := by
  obtain ⟨fuel, hf⟩ := h
  exact slice_weight Try.underlying22 hf
theorem cnf_weight {y : Int} {a : Option Addr} {n c : Nat} {d : DataW H} {ps : List MemPlace} (h : DataW.Trod enc Try.prog W 0 (fun _ => true) true 24 (.agg #[.int .i64 y, .slice a n c]) d ps) : n ≤ Rows.uptoBulk d := by
  have k22 : Try.prog.cellsOf 22 = 1 := by kernel_rfl
  obtain ⟨fuel, hf0⟩ := h
  obtain ⟨xs, n', _, hx, _, hlen, hf⟩ := DataW.trod_struct Try.underlying24 hf0
  match xs, hlen, hf, hx with
  | [y0, y1], _, hf, hx =>
    have f1 := hf 1 _ rfl
    have h1 := slice_weight Try.underlying22 (one_of (v := .slice a n c) k22 f1 rfl)
    injection hx with hx _
    rw [hx]
    have h2 := weight_mem (d := y1.1) (l := [y0, y1].map (·.1)) (by simp)
    simp only [Rows.uptoBulk]
    omega
end
end Go.Proofs.Ythkemajekkilmaa

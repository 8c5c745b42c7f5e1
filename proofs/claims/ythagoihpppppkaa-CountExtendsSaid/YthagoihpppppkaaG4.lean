/- Rows of gates that are made: append, Clone, Clip; a growing circuit begun and handed back. -/
import Derived.Test.YthagoihpppppkaaG3
namespace Go.Proofs.Ythagoihpppppkaa
open Go.RowKit

theorem gates_news {w : World} {ad : Addr} {c : Nat} {news : List Gt} (hi : GatesW w (some ad) c news) : ∀ j u, (gateCells news)[j]? = some u → w.cell? (ad.add j) = some u := by
  intro j u hj
  have hlt : j < news.length * 3 := by rw [← gateCells_len]; exact (List.getElem?_eq_some_iff.1 hj).1
  obtain ⟨g, hg⟩ : ∃ g, news[j / 3]? = some g := ⟨_, List.getElem?_eq_getElem (by omega)⟩
  obtain ⟨b, o, e, h0, h1, h2⟩ := hi.at hg
  cases e
  have hadd : (⟨b, o, none⟩ : Addr).add j = ⟨b, o + j, none⟩ := by unfold Addr.add; split <;> simp_all
  obtain ⟨e0, e1, e2⟩ := gateCells_at hg
  rw [hadd]
  rcases (show j % 3 = 0 ∨ j % 3 = 1 ∨ j % 3 = 2 by omega) with h | h | h
  · rw [show j / 3 * 3 = j by omega] at e0 h0
    rw [e0] at hj; cases hj; exact h0
  · rw [show j / 3 * 3 + 1 = j by omega] at e1
    rw [e1] at hj; cases hj
    rw [show o + j = o + j / 3 * 3 + 1 by omega]; exact h1
  · rw [show j / 3 * 3 + 2 = j by omega] at e2
    rw [e2] at hj; cases hj
    rw [show o + j = o + j / 3 * 3 + 2 by omega]; exact h2
theorem gates_oneCell {news : List Gt} : ∀ u ∈ gateCells news, u.oneCell' = true := by
  intro u hu
  obtain ⟨g, _, hg⟩ := List.mem_flatMap.1 hu
  simp at hg
  rcases hg with rfl | rfl | rfl <;> rfl
theorem gateCells_app (l m : List Gt) : gateCells (l ++ m) = gateCells l ++ gateCells m := List.flatMap_append
theorem run_append_nilG {w : World} {base n : Nat} {v : Value} {xs : List Value} (hown : w.ownsRow base 69 3 v n xs) (ty : TypeId) (c : Nat) : (Builtin.append_ #[30, 30] ty #[v, .slice none 0 c]).run Try.prog w = .ok v w := by
  obtain ⟨i0, hi, hz0, hz1, hz2⟩ := info_parts infoG
  rcases hown.2 with ⟨rfl, rfl⟩ | ⟨g, cap, cur, rfl, _, _, hnc, _⟩
  · simp [Builtin.append_, run_underlying Try.underlying30, sizeOf, typeInfo, hi, Builtin.lenOf, Builtin.firstCells]
  · simp [Builtin.append_, run_underlying Try.underlying30, sizeOf, typeInfo, hi, Builtin.lenOf, Builtin.firstCells, hnc, storeCells]
theorem run_append_gates (base : Nat) (ty : TypeId) {v : Value} {n : Nat} {l : List Gt} {w : World} (hown : w.ownsRow base 69 3 v n (gateCells l)) {xa : Option Addr} {m c : Nat} {news : List Gt} (hm : news.length = m) (hi : GatesW w xa c news)
    (h63 : n + m ≤ 100000) (hbase : base ≤ w.heap.size) :
    ∃ v' w', (Builtin.append_ #[30, 30] ty #[v, .slice xa m c]).run Try.prog w = .ok v' w' ∧ w'.ownsRow base 69 3 v' (n + m) (gateCells (l ++ news)) ∧ w.grownBy w' v.ownBlock ∧ (v'.ownBlock = v.ownBlock ∨ v'.ownBlock = some w.heap.size) := by
  obtain ⟨i0, hi0, hz0, hz1, hz2⟩ := info_parts infoG
  cases xa with
  | none =>
    obtain rfl : news = [] := by
      rcases hi.2 with h0 | ⟨_, _, e, _⟩
      · exact h0
      · cases e
    obtain rfl : 0 = m := hm
    exact ⟨v, w, run_append_nilG hown ty c, by rw [List.append_nil]; exact hown, grown_refl _ _, .inl rfl⟩
  | some ad =>
    obtain ⟨v', w', hr, h2, h3, _, h5⟩ := run_append_own_at (P := Try.prog) w base 30 ty 69 i0 (.agg #[.int .i64 0, .int .i64 0, .int .i64 0]) 3 24 Try.underlying30 hi0 hz0 hz1 hz2 rfl (by decide) v n (gateCells l) hown ad m c (gateCells news) (by rw [gateCells_len, hm]) (gates_news hi) gates_oneCell (by unfold maxLen; omega) (by omega) hbase
    exact ⟨v', w', hr, by rw [gateCells_app]; exact h2, h3, h5⟩
/-- The append where the order of a region is drawn. -/
theorem ready_append_gates {ops : Array Oper} {o : Oper} {a : Act} {Q : Exit → Act → World → Prop} {K' : Act → World → Prop} {w : World} (s x : Operand) (hgd : o.guard = none)
    (ho : o.op = .call { callee := .builtin .append, args := #[s, x], argTypes := #[30, 30] })
    (base : Nat) (v : Value) (n : Nat) (l : List Gt) (hs : a.eval s = v) (hown : w.ownsRow base 69 3 v n (gateCells l))
    (xa : Option Addr) (m c : Nat) (news : List Gt) (hx : a.eval x = .slice xa m c) (hm : news.length = m) (hi : GatesW w xa c news)
    (h63 : n + m ≤ 100000) (hbase : base ≤ w.heap.size)
    (h : ∀ v' w', w'.ownsRow base 69 3 v' (n + m) (gateCells (l ++ news)) → w.grownBy w' v.ownBlock → (v'.ownBlock = v.ownBlock ∨ v'.ownBlock = some w.heap.size) → K' (a.put o.dst v') w') :
    if Region.wanted o (yielded ops a.tmps) = true then Oper.wp Try.prog o a w K' Q else K' (a.put o.dst undef) w := by
  have hw : Region.wanted o (yielded ops a.tmps) = true := by simp only [Region.wanted, hgd]
  rw [if_pos hw]
  obtain ⟨v', w', hr, h2, h3, h5⟩ := run_append_gates base o.type hown hm hi h63 hbase
  unfold Oper.wp execOp
  simp only [ho, resolve, invoke, builtin, Sem.run_bind, Sem.run_pure, Result.andThen_ok, List.map_toArray, List.map_cons, List.map_nil, hs, hx, hr]
  exact h v' w' h2 h3 h5
/-- The append elsewhere. -/
theorem append_gates {ops : Array Oper} {rest : List Oper} {o : Oper} {a : Act} {Q : Exit → Act → World → Prop} {w : World} (hgd : o.guard = none) (s x : Operand)
    (ho : o.op = .call { callee := .builtin .append, args := #[s, x], argTypes := #[30, 30] })
    (base : Nat) (v : Value) (n : Nat) (l : List Gt) (hs : a.eval s = v) (hown : w.ownsRow base 69 3 v n (gateCells l))
    (xa : Option Addr) (m c : Nat) (news : List Gt) (hx : a.eval x = .slice xa m c) (hm : news.length = m) (hi : GatesW w xa c news)
    (h63 : n + m ≤ 100000) (hbase : base ≤ w.heap.size)
    (h : ∀ v' w', w'.ownsRow base 69 3 v' (n + m) (gateCells (l ++ news)) → w.grownBy w' v.ownBlock → wpList Try.prog ops Q rest (a.put o.dst v') w') : wpList Try.prog ops Q (o :: rest) a w := by
  refine wpList_plain hgd fun K' hK' => ?_
  obtain ⟨v', w', hr, h2, h3, h5⟩ := run_append_gates base o.type hown hm hi h63 hbase
  unfold Oper.wp execOp
  simp only [ho, resolve, invoke, builtin, Sem.run_bind, Sem.run_pure, Result.andThen_ok, List.map_toArray, List.map_cons, List.map_nil, hs, hx, hr]
  exact hK' _ _ (h v' w' h2 h3)

set_option maxRecDepth 100000 in
set_option maxHeartbeats 1000000 in
theorem clone_calls (zs : List Gt) (a : Option Addr) (c : Nat) (w : World) (h : GatesW w a c zs) (hl : zs.length ≤ 50000) :
    Calls Try.prog 55 #[.slice a zs.length c] w fun e w' => ∃ a' c', e = .returned (.slice a' zs.length c') ∧ Span w.heap.size w'.heap.size w' (fun W => GatesW W a' c' zs) ∧ w.grownBy w' none := by
  obtain ⟨n, hn⟩ : ∃ n, zs.length = n := ⟨_, rfl⟩
  rw [hn] at hl ⊢
  have HN := Lib.hid hn; clear hn
  have q28 : ∀ (w : World) (a : Option Addr) (n c n' c' : Nat), (binOp .eql 30 (.slice a n c) (.slice none n' c')).run Try.prog w = .ok (.bool a.isNone) w := fun w a n c n' c' => Lib.run_eql_slice_nil w _ _ a n c n' c' Try.underlying30
  cases a with
  | none =>
    obtain rfl : zs = [] := by
      obtain ⟨_, h | ⟨_, _, e, _⟩⟩ := h
      · exact h
      · cases e
    have hn0 : n = 0 := by rw [← HN.out]; rfl
    subst hn0
    go_enter Try.func55, Try.ntmps55
    go_wp2_with fail
    go_ret
    exact ⟨none, 0, rfl, ⟨Nat.le_refl _, fun W _ => gatesW_nil W _ _⟩, grown_refl _ _⟩
  | some ad =>
    have HH := Lib.hid h; clear h
    go_enter Try.func55, Try.ntmps55
    go_wp2_with (at_builtin; refine append_gates rfl _ _ rfl w.heap.size _ 0 [] rfl (World.ownsRow_made w #[] 0 (Nat.le_refl _) (Nat.zero_le _) rfl) (some ad) n c zs rfl HN.out (HH.out.grown (World.grownBy_alloc w _ none)) (by omega) (World.grownBy.size (World.grownBy_alloc w (.cells #[] 69) none)) ?_)
    intro v' w1 hown hgrow
    have hown' : w1.ownsRow w.heap.size 69 3 v' zs.length (gateCells zs) := by rw [HN.out]; simpa using hown
    obtain ⟨a', c', rfl, hi⟩ := gates_span hown'
    have HR := Lib.hid hi; clear hi hown hown'
    have HG : Hid (w.grownBy w1 none) := Lib.hid (grown_own (World.grownBy_alloc w _ none) hgrow (fun k hk => by simp [Value.ownBlock] at hk; omega))
    clear hgrow
    rw [HN.out]
    go_wp2_with fail
    go_ret
    exact ⟨a', c', rfl, HR.out, HG.out⟩
theorem clip_calls (a : Option Addr) (n c : Nat) (w : World) (h : n ≤ c) : Calls Try.prog 56 #[.slice a n c] w fun e w' => e = .returned (.slice a n n) ∧ w' = w := by
  go_enter Try.func56, Try.ntmps56
  go_wp2_with fail
  go_ret
  exact ⟨rfl, rfl⟩

/-- A row that came in rests on the blocks that were there. -/
theorem gates_below {w : World} {a : Option Addr} {c : Nat} {gs : List Gt} (h : GatesW w a c gs) : Span 0 w.heap.size w (fun W => GatesW W a c gs) := by
  refine ⟨Nat.le_refl _, fun W hW => ?_⟩
  obtain ⟨hc, h | ⟨b, o, ha, ht, hz⟩⟩ := h
  · exact ⟨hc, .inl h⟩
  · refine ⟨hc, .inr ⟨b, o, ha, ht.of (hW b (Nat.zero_le _) ht.lt), fun j g hj => ?_⟩⟩
    obtain ⟨h0, h1, h2⟩ := hz j g hj
    have hb : b < w.heap.size := lies_lt h0
    have e := hW b (Nat.zero_le _) hb
    exact ⟨by rw [World.cell?_of_block e]; exact h0, by rw [World.cell?_of_block e]; exact h1, by rw [World.cell?_of_block e]; exact h2⟩
set_option maxHeartbeats 1000000 in
theorem from_calls (gs : List Gt) (a : Option Addr) (c : Nat) (w : World) (h : GatesW w a c gs) :
    Calls Try.prog 51 #[.agg #[.slice a gs.length c]] w fun e w' => ∃ p, e = .returned (.pointer (some ⟨p, 0, none⟩)) ∧ w.heap.size ≤ p ∧ Grow (p + 1) p w' false a c gs 0 ∧ w.grownBy w' none := by
  obtain ⟨n, hn⟩ : ∃ n, gs.length = n := ⟨_, rfl⟩
  have hg1 := World.grownBy_alloc w (.cells #[.slice a n c] 32) none
  have e0 : (w.alloc (.cells #[.slice a n c] 32)).cell? ⟨w.heap.size, 0, none⟩ = some (.slice a n c) := by go_simp
  have hs1 : (w.alloc (.cells #[.slice a n c] 32)).heap.size = w.heap.size + 1 := by simp
  obtain ⟨W, hW⟩ : ∃ W, w.alloc (.cells #[.slice a n c] 32) = W := ⟨_, rfl⟩
  rw [hW] at hg1 e0 hs1
  have hg2 := World.grownBy_alloc W (.cells #[.slice a n c, .bool false, .map none, .int .i64 0] 80) none
  have q0 : (W.alloc (.cells #[.slice a n c, .bool false, .map none, .int .i64 0] 80)).cell? ⟨W.heap.size, 0, none⟩ = some (.slice a n c) := by go_simp
  have q1 : (W.alloc (.cells #[.slice a n c, .bool false, .map none, .int .i64 0] 80)).cell? ⟨W.heap.size, 1, none⟩ = some (.bool false) := by go_simp
  have q2 : (W.alloc (.cells #[.slice a n c, .bool false, .map none, .int .i64 0] 80)).cell? ⟨W.heap.size, 2, none⟩ = some (.map none) := by go_simp
  have q3 : (W.alloc (.cells #[.slice a n c, .bool false, .map none, .int .i64 0] 80)).cell? ⟨W.heap.size, 3, none⟩ = some (.int .i64 0) := by go_simp
  have qf : ∀ o, (W.alloc (.cells #[.slice a n c, .bool false, .map none, .int .i64 0] 80)).frozen? ⟨W.heap.size, o, none⟩ = false := fun o => by go_simp
  have qs : (W.alloc (.cells #[.slice a n c, .bool false, .map none, .int .i64 0] 80)).heap.size = W.heap.size + 1 := by simp
  have HR := Lib.hid (show Grow (W.heap.size + 1) W.heap.size (W.alloc (.cells #[.slice a n c, .bool false, .map none, .int .i64 0] 80)) false a c gs 0 from
    ⟨by rw [hn]; exact q0, q1, q2, q3, qf, ⟨by omega, by omega⟩, by
      unfold GRow
      simp only [Bool.false_eq_true, if_false]
      have h1 := (gates_below (h.grown hg1)).grown hg2
      exact h1⟩)
  have HG := Lib.hid (And.intro (World.grownBy.trans hg1 hg2) hs1)
  rw [hn]
  clear h hn hg1 hg2 q0 q1 q2 q3 qf qs hs1
  go_enter Try.func51, Try.ntmps51
  go_wp2_with fail
  go_ret
  exact ⟨W.heap.size, rfl, by have := HG.out.2; omega, HR.out, HG.out.1⟩
end Go.Proofs.Ythagoihpppppkaa

/- Texts of the proof: G4 GC H1 E1. -/
import Derived.Test.YthdhmflodiincaaCD00
set_option maxRecDepth 100000
set_option maxHeartbeats 8000000
namespace Go.Proofs.Ythdhmflodiincaa
open Lib (hid)
open Go.RowKit

theorem gates_news {w : World} {ad : Addr} {c : Nat} {news : List Gt} (hi : GatesW w (some ad) c news) : ∀ j u, (gateCells news)[j]? = some u → w.cell? (ad.add j) = some u := by
 intro j u hj
 have hlt : j < news.length * 3 := by rw [← gateCells_len]; exact (List.getElem?_eq_some_iff.1 hj).1
 obtain ⟨g, hg⟩ : ∃ g, news[j / 3]? = some g := ⟨_, List.getElem?_eq_getElem (by omega)⟩
 obtain ⟨b, o, e, h0, h1, h2⟩ := hi.at hg
 cases e
 have hadd : (⟨b, o, none⟩ : Addr).add j = ⟨b, o + j, none⟩ := by unfold Addr.add; split <;> simp_all
 obtain ⟨e0, e1, e2⟩ := gateCells_at hg
 rw [hadd]
 rcases (show j % 3 = 0 ∨ j % 3 = 1 ∨ j % 3 = 2 by omega) with h | h | h
 ·
  rw [show j / 3 * 3 = j by omega] at e0 h0
  rw [e0] at hj; cases hj; exact h0
 ·
  rw [show j / 3 * 3 + 1 = j by omega] at e1
  rw [e1] at hj; cases hj
  rw [show o + j = o + j / 3 * 3 + 1 by omega]; exact h1
 ·
  rw [show j / 3 * 3 + 2 = j by omega] at e2
  rw [e2] at hj; cases hj
  rw [show o + j = o + j / 3 * 3 + 2 by omega]; exact h2
theorem gates_oneCell {news : List Gt} : ∀ u ∈ gateCells news, u.oneCell' = true := by
 intro u hu
 obtain ⟨g, _, hg⟩ := List.mem_flatMap.1 hu
 simp at hg
 rcases hg with rfl | rfl | rfl <;> rfl
theorem gateCells_app (l m : List Gt) : gateCells (l ++ m) = gateCells l ++ gateCells m := List.flatMap_append
theorem run_append_nilG {w : World} {base n : Nat} {v : Value} {xs : List Value} (hown : w.ownsRow base 99 3 v n xs) (ty : TypeId) (c : Nat) : (Builtin.append_ #[28, 28] ty #[v, .slice none 0 c]).run Try.prog w = .ok v w := by
 obtain ⟨i0, hi, hz0, hz1, hz2⟩ := info_parts infoG
 rcases hown.2 with ⟨rfl, rfl⟩ | ⟨g, cap, cur, rfl, _, _, hnc, _⟩
 · simp [Builtin.append_, run_underlying Try.underlying28, sizeOf, typeInfo, hi, Builtin.lenOf, Builtin.firstCells]
 · simp [Builtin.append_, run_underlying Try.underlying28, sizeOf, typeInfo, hi, Builtin.lenOf, Builtin.firstCells, hnc, storeCells]
theorem run_append_gates (base : Nat) (ty : TypeId) {v : Value} {n : Nat} {l : List Gt} {w : World} (hown : w.ownsRow base 99 3 v n (gateCells l)) {xa : Option Addr} {m c : Nat} {news : List Gt} (hm : news.length = m) (hi : GatesW w xa c news)
  (h63 : n + m ≤ 100000) (hbase : base ≤ w.heap.size) :
  ∃ v' w', (Builtin.append_ #[28, 28] ty #[v, .slice xa m c]).run Try.prog w = .ok v' w' ∧ w'.ownsRow base 99 3 v' (n + m) (gateCells (l ++ news)) ∧ w.grownBy w' v.ownBlock ∧ (v'.ownBlock = v.ownBlock ∨ v'.ownBlock = some w.heap.size) := by
 obtain ⟨i0, hi0, hz0, hz1, hz2⟩ := info_parts infoG
 cases xa with
 | none =>
  obtain rfl : news = [] := by
   rcases hi.2 with h0 | ⟨_, _, e, _⟩
   · exact h0
   · cases e
  obtain rfl : 0 = m := hm
  exact ⟨v, w, run_append_nilG hown ty c, by rw [List.append_nil]; exact hown, grown_refl _ _, .inl rfl⟩
 | some ad =>
  obtain ⟨v', w', hr, h2, h3, _, h5⟩ := run_append_own_at (P := Try.prog) w base 28 ty 99 i0 (.agg #[.int .i64 0, .int .i64 0, .int .i64 0]) 3 24 Try.underlying28 hi0 hz0 hz1 hz2 rfl (by decide) v n (gateCells l) hown ad m c (gateCells news) (by rw [gateCells_len, hm]) (gates_news hi) gates_oneCell (by unfold maxLen; omega) (by omega) hbase
  exact ⟨v', w', hr, by rw [gateCells_app]; exact h2, h3, h5⟩
theorem ready_append_gates {ops : Array Oper} {o : Oper} {a : Act} {Q : Exit → Act → World → Prop} {K' : Act → World → Prop} {w : World} (s x : Operand) (hgd : o.guard = none)
  (ho : o.op = .call { callee := .builtin .append, args := #[s, x], argTypes := #[28, 28] })
  (base : Nat) (v : Value) (n : Nat) (l : List Gt) (hs : a.eval s = v) (hown : w.ownsRow base 99 3 v n (gateCells l))
  (xa : Option Addr) (m c : Nat) (news : List Gt) (hx : a.eval x = .slice xa m c) (hm : news.length = m) (hi : GatesW w xa c news)
  (h63 : n + m ≤ 100000) (hbase : base ≤ w.heap.size)
  (h : ∀ v' w', w'.ownsRow base 99 3 v' (n + m) (gateCells (l ++ news)) → w.grownBy w' v.ownBlock → (v'.ownBlock = v.ownBlock ∨ v'.ownBlock = some w.heap.size) → K' (a.put o.dst v') w') :
  if Region.wanted o (yielded ops a.tmps) = true then Oper.wp Try.prog o a w K' Q else K' (a.put o.dst undef) w := by
 have hw : Region.wanted o (yielded ops a.tmps) = true := by simp only [Region.wanted, hgd]
 rw [if_pos hw]
 obtain ⟨v', w', hr, h2, h3, h5⟩ := run_append_gates base o.type hown hm hi h63 hbase
 unfold Oper.wp execOp
 simp only [ho, resolve, invoke, builtin, Sem.run_bind, Sem.run_pure, Result.andThen_ok, List.map_toArray, List.map_cons, List.map_nil, hs, hx, hr]
 exact h v' w' h2 h3 h5
theorem append_gates {ops : Array Oper} {rest : List Oper} {o : Oper} {a : Act} {Q : Exit → Act → World → Prop} {w : World} (hgd : o.guard = none) (s x : Operand)
  (ho : o.op = .call { callee := .builtin .append, args := #[s, x], argTypes := #[28, 28] })
  (base : Nat) (v : Value) (n : Nat) (l : List Gt) (hs : a.eval s = v) (hown : w.ownsRow base 99 3 v n (gateCells l))
  (xa : Option Addr) (m c : Nat) (news : List Gt) (hx : a.eval x = .slice xa m c) (hm : news.length = m) (hi : GatesW w xa c news)
  (h63 : n + m ≤ 100000) (hbase : base ≤ w.heap.size)
  (h : ∀ v' w', w'.ownsRow base 99 3 v' (n + m) (gateCells (l ++ news)) → w.grownBy w' v.ownBlock → wpList Try.prog ops Q rest (a.put o.dst v') w') : wpList Try.prog ops Q (o :: rest) a w := by
 refine wpList_plain hgd fun K' hK' => ?_
 obtain ⟨v', w', hr, h2, h3, h5⟩ := run_append_gates base o.type hown hm hi h63 hbase
 unfold Oper.wp execOp
 simp only [ho, resolve, invoke, builtin, Sem.run_bind, Sem.run_pure, Result.andThen_ok, List.map_toArray, List.map_cons, List.map_nil, hs, hx, hr]
 exact hK' _ _ (h v' w' h2 h3)

theorem clone_calls (zs : List Gt) (a : Option Addr) (c : Nat) (w : World) (h : GatesW w a c zs) (hl : zs.length ≤ 50000) :
  Calls Try.prog 116 #[.slice a zs.length c] w fun e w' => ∃ a' c', e = .returned (.slice a' zs.length c') ∧ Span w.heap.size w'.heap.size w' (fun W => GatesW W a' c' zs) ∧ w.grownBy w' none := by
 obtain ⟨n, hn⟩ : ∃ n, zs.length = n := ⟨_, rfl⟩
 rw [hn] at hl ⊢
 have HN := hid hn; clear hn
 have q28 : ∀ (w : World) (a : Option Addr) (n c n' c' : Nat), (binOp .eql 28 (.slice a n c) (.slice none n' c')).run Try.prog w = .ok (.bool a.isNone) w := fun w a n c n' c' => Lib.run_eql_slice_nil w _ _ a n c n' c' Try.underlying28
 cases a with
 | none =>
  obtain rfl : zs = [] := by
   obtain ⟨_, h | ⟨_, _, e, _⟩⟩ := h
   · exact h
   · cases e
  have hn0 : n = 0 := by rw [← HN.out]; rfl
  subst hn0
  go_enter Try.func116, Try.ntmps116
  go_wp2_with fail
  go_ret
  exact ⟨none, 0, rfl, ⟨Nat.le_refl _, fun W _ => gatesW_nil W _ _⟩, grown_refl _ _⟩
 | some ad =>
  have HH := hid h; clear h
  go_enter Try.func116, Try.ntmps116
  go_wp2_with (at_builtin; refine append_gates rfl _ _ rfl w.heap.size _ 0 [] rfl (World.ownsRow_made w #[] 0 (Nat.le_refl _) (Nat.zero_le _) rfl) (some ad) n c zs rfl HN.out (HH.out.grown (gAl w _ none)) (by omega) (World.grownBy.size (gAl w (.cells #[] 99) none)) ?_)
  intro v' w1 hown hgrow
  have hown' : w1.ownsRow w.heap.size 99 3 v' zs.length (gateCells zs) := by rw [HN.out]; simpa using hown
  obtain ⟨a', c', rfl, hi⟩ := gates_span hown'
  have HR := hid hi; clear hi hown hown'
  have HG : Hid (w.grownBy w1 none) := hid (grown_own (gAl w _ none) hgrow (fun k hk => by simp [Value.ownBlock] at hk; omega))
  clear hgrow
  rw [HN.out]
  go_wp2_with fail
  go_ret
  exact ⟨a', c', rfl, HR.out, HG.out⟩
theorem clip_calls (a : Option Addr) (n c : Nat) (w : World) (h : n ≤ c) : Calls Try.prog 117 #[.slice a n c] w fun e w' => e = .returned (.slice a n n) ∧ w' = w := by
 go_enter Try.func117, Try.ntmps117
 go_wp2_with fail
 go_ret
 exact ⟨rfl, rfl⟩

theorem gates_below {w : World} {a : Option Addr} {c : Nat} {gs : List Gt} (h : GatesW w a c gs) : Span 0 w.heap.size w (fun W => GatesW W a c gs) := by
 refine ⟨Nat.le_refl _, fun W hW => ?_⟩
 obtain ⟨hc, h | ⟨b, o, ha, ht, hz⟩⟩ := h
 · exact ⟨hc, .inl h⟩
 ·
  refine ⟨hc, .inr ⟨b, o, ha, ht.of (hW b (Nat.zero_le _) ht.lt), fun j g hj => ?_⟩⟩
  obtain ⟨h0, h1, h2⟩ := hz j g hj
  have hb : b < w.heap.size := lies_lt h0
  have e := hW b (Nat.zero_le _) hb
  exact ⟨by rw [World.cell?_of_block e]; exact h0, by rw [World.cell?_of_block e]; exact h1, by rw [World.cell?_of_block e]; exact h2⟩
theorem from_calls (gs : List Gt) (a : Option Addr) (c : Nat) (w : World) (h : GatesW w a c gs) :
  Calls Try.prog 113 #[.agg #[.slice a gs.length c]] w fun e w' => ∃ p, e = .returned (.pointer (some ⟨p, 0, none⟩)) ∧ w.heap.size ≤ p ∧ Grow (p + 1) p w' false a c gs 0 ∧ w.grownBy w' none := by
 obtain ⟨n, hn⟩ : ∃ n, gs.length = n := ⟨_, rfl⟩
 have hg1 := gAl w (.cells #[.slice a n c] 30) none
 have e0 : (w.alloc (.cells #[.slice a n c] 30)).cell? ⟨w.heap.size, 0, none⟩ = some (.slice a n c) := by go_simp
 have hs1 : (w.alloc (.cells #[.slice a n c] 30)).heap.size = w.heap.size + 1 := by simp
 obtain ⟨W, hW⟩ : ∃ W, w.alloc (.cells #[.slice a n c] 30) = W := ⟨_, rfl⟩
 rw [hW] at hg1 e0 hs1
 have hg2 := gAl W (.cells #[.slice a n c, .bool false, .map none, .int .i64 0] 122) none
 have q0 : (W.alloc (.cells #[.slice a n c, .bool false, .map none, .int .i64 0] 122)).cell? ⟨W.heap.size, 0, none⟩ = some (.slice a n c) := by go_simp
 have q1 : (W.alloc (.cells #[.slice a n c, .bool false, .map none, .int .i64 0] 122)).cell? ⟨W.heap.size, 1, none⟩ = some (.bool false) := by go_simp
 have q2 : (W.alloc (.cells #[.slice a n c, .bool false, .map none, .int .i64 0] 122)).cell? ⟨W.heap.size, 2, none⟩ = some (.map none) := by go_simp
 have q3 : (W.alloc (.cells #[.slice a n c, .bool false, .map none, .int .i64 0] 122)).cell? ⟨W.heap.size, 3, none⟩ = some (.int .i64 0) := by go_simp
 have qf : ∀ o, (W.alloc (.cells #[.slice a n c, .bool false, .map none, .int .i64 0] 122)).frozen? ⟨W.heap.size, o, none⟩ = false := fun o => by go_simp
 have qs : (W.alloc (.cells #[.slice a n c, .bool false, .map none, .int .i64 0] 122)).heap.size = W.heap.size + 1 := by simp
 have HR := hid (show Grow (W.heap.size + 1) W.heap.size (W.alloc (.cells #[.slice a n c, .bool false, .map none, .int .i64 0] 122)) false a c gs 0 from
  ⟨by rw [hn]; exact q0, q1, q2, q3, qf, ⟨by omega, by omega⟩, by
   unfold GRow
   simp only [Bool.false_eq_true, if_false]
   have h1 := (gates_below (h.grown hg1)).grown hg2
   exact h1⟩)
 have HG := hid (And.intro (gT hg1 hg2) hs1)
 rw [hn]
 clear h hn hg1 hg2 q0 q1 q2 q3 qf qs hs1
 go_enter Try.func113, Try.ntmps113
 go_wp2_with fail
 go_ret
 exact ⟨W.heap.size, rfl, by have := HG.out.2; omega, HR.out, HG.out.1⟩

theorem addG_some {gs : List Gt} {x : Gt} {i : Nat} (h : locG x gs = some i) : addG gs x = (gs, 2 * (i : Int)) := by unfold addG; rw [h]
theorem addG_none {gs : List Gt} {x : Gt} (h : locG x gs = none) (hl : gs.length < 20000) : addG gs x = (gs ++ [x], 2 * (gs.length : Int)) := by unfold addG; rw [h]; simp only; rw [if_neg (by omega)]
theorem locI_nat {gs : List Gt} {x : Gt} {i : Nat} (h : locG x gs = some i) : locI x gs = (i : Int) := by unfold locI; rw [h]
theorem locI_neg {gs : List Gt} {x : Gt} (h : locG x gs = none) : locI x gs = -1 := by unfold locI; rw [h]
theorem gate_news {w : World} {b : Nat} {x : Gt} (h : GateAt w b 0 x) (ht : Ty47 w b) : GatesW w (some ⟨b, 0, none⟩) 1 [x] := ⟨Nat.le_refl _, .inr ⟨b, 0, rfl, ht, fun j g hj => by
 cases j with
 | zero => simp at hj; subst hj; exact h
 | succ j => simp at hj⟩⟩
theorem GateAt.moved {w w' : World} {b o : Nat} {g : Gt} {r : Option Nat} (h : GateAt w b o g) (hg : w.grownBy w' r) (hr : some b ≠ r) : GateAt w' b o g := ⟨hg.cell h.1 hr, hg.cell h.2.1 hr, hg.cell h.2.2 hr⟩
theorem beqT {a b : Int} (h : a = b) : (a == b) = true := by simp [h]
theorem beqF {a b : Int} (h : ¬ a = b) : (a == b) = false := by simp [h]
theorem good_from {gs : List Gt} (h : Good gs) {A B i : Nat} (hi : gs[i]? = some (2, (A : Int), (B : Int))) : B / 2 + 1 ≤ i := by
 have h0 : 0 < i := by
  cases i with
  | zero => rw [h.zero] at hi; cases hi
  | succ n => omega
 rcases h.form i _ h0 hi with hf | ⟨_, _, _, h3, _⟩
 · simp at hf
 · simp only at h3; omega
theorem and_le {gs : List Gt} {a b : Int} (ha : a ≤ 9223372036854775807) (hb : b ≤ 9223372036854775807) (hl : gs.length ≤ 10000) : (andC gs a b).2 ≤ 9223372036854775807 := by
 unfold andC
 split
 · simp
 ·
  split
  · simp
  ·
   split
   · exact hb
   ·
    split
    · exact ha
    ·
     unfold addG
     split
     ·
      rename_i i h
      have := (List.getElem?_eq_some_iff.1 (locG_some h)).1
      simp only
      omega
     ·
      split
      · simp
      · simp only; omega
theorem notR_le {r : Int} (h : r ≤ 9223372036854775807) : notR r ≤ 9223372036854775807 := by unfold notR; split <;> (try split) <;> omega
theorem one_cell (w : World) (u : Value) (s : TypeId) : w.heap.size < (w.alloc (.cells #[u] s)).heap.size ∧ (w.alloc (.cells #[u] s)).cell? ⟨w.heap.size, 0, none⟩ = some u ∧ (w.alloc (.cells #[u] s)).frozen? ⟨w.heap.size, 0, none⟩ = false :=
 ⟨by simp, by go_simp, by go_simp⟩
def CirV (w : World) (v : Value) (gs : List Gt) : Prop := ∃ a c, v = .agg #[.slice a gs.length c] ∧ GatesW w a c gs
theorem CirV.grown {w w' : World} {v : Value} {gs : List Gt} (h : CirV w v gs) (hg : w.grownBy w' none) : CirV w' v gs := by
 obtain ⟨a, c, e, h⟩ := h
 exact ⟨a, c, e, h.grown hg⟩
structure GoodTo (gs : List Gt) (k : Nat) : Prop where
 form : ∀ (i : Nat) (g : Gt), i < k → gs[i + 1]? = some g → formG g (i + 1)
 one : ∀ (i j : Nat) (g : Gt), i < k → j < k → gs[i + 1]? = some g → gs[j + 1]? = some g → i = j
theorem GoodTo.good {gs : List Gt} (h0 : gs[0]? = some (0, 0, 0)) {k : Nat} (hk : gs.length = k + 1) (h : GoodTo gs k) : Good gs := by
 have hpos : ∀ (i : Nat) (g : Gt), gs[i]? = some g → i < k + 1 := fun i g e => by have := (List.getElem?_eq_some_iff.1 e).1; omega
 have hne : ∀ (i : Nat) (g : Gt), i < k → gs[i + 1]? = some g → gs[0]? = some g → False := fun i g hi e e0 => by
  rw [h0] at e0; cases e0
  rcases h.form i _ hi e with h1 | h1 <;> simp at h1
 refine ⟨h0, fun i g hi e => ?_, fun i j g h1 h2 => ?_⟩
 ·
  obtain ⟨i', rfl⟩ : ∃ i', i = i' + 1 := ⟨i - 1, by omega⟩
  exact h.form i' g (by have := hpos _ _ e; omega) e
 ·
  have b1 := hpos _ _ h1
  have b2 := hpos _ _ h2
  cases i with
  | zero =>
   cases j with
   | zero => rfl
   | succ j => exact (hne j g (by omega) h2 h1).elim
  | succ i =>
   cases j with
   | zero => exact (hne i g (by omega) h1 h2).elim
   | succ j => rw [h.one i j g (by omega) (by omega) h1 h2]
theorem GoodTo.of {gs : List Gt} (h : Good gs) (k : Nat) : GoodTo gs k :=
 ⟨fun i g _ e => h.form (i + 1) g (by omega) e, fun i j g _ _ h1 h2 => by have := h.one _ _ _ h1 h2; omega⟩
theorem GoodTo.step {gs : List Gt} {k : Nat} {g : Gt} (h : GoodTo gs k) (hg : gs[k + 1]? = some g) (hf : formG g (k + 1)) (hn : g ∉ (gs.drop 1).take k) : GoodTo gs (k + 1) := by
 have hin : ∀ j, j < k → gs[j + 1]? = some g → False := fun j hj e => hn (List.mem_of_getElem? (show ((gs.drop 1).take k)[j]? = some g by rw [List.getElem?_take_of_lt hj, List.getElem?_drop, Nat.add_comm 1 j]; exact e))
 refine ⟨fun i g' hi e => ?_, fun i j g' hi hj h1 h2 => ?_⟩
 ·
  by_cases hik : i = k
  · subst hik; rw [hg] at e; cases e; exact hf
  · exact h.form i g' (by omega) e
 ·
  by_cases hik : i = k
  ·
   subst hik
   rw [hg] at h1; cases h1
   by_cases hjk : j = i
   · exact hjk.symm
   · exact (hin j (by omega) h2).elim
  ·
   by_cases hjk : j = k
   ·
    subst hjk
    rw [hg] at h2; cases h2
    exact (hin i (by omega) h1).elim
   · exact h.one i j g' (by omega) (by omega) h1 h2

theorem ext_upto {α : Type} {l m : List α} (hl : l.length = m.length) (h : ∀ j, j < l.length → l[j]? = m[j]?) : l = m := by
 apply List.ext_getElem?
 intro i
 by_cases hi : i < l.length
 · exact h i hi
 · rw [List.getElem?_eq_none (by omega), List.getElem?_eq_none (by omega)]

theorem same_calls (gs hs : List Gt) (a : Option Addr) (c : Nat) (b : Option Addr) (d : Nat) (w : World) (h1 : GatesW w a c gs) (h2 : GatesW w b d hs) (hl : gs.length ≤ 2000) (_hl2 : hs.length ≤ 2000) :
  Calls Try.prog 26 #[.agg #[.slice a gs.length c], .agg #[.slice b hs.length d]] w fun e w' => e = .returned (.bool (decide (gs = hs))) ∧ w.grownBy w' none := by
 obtain ⟨n, hn⟩ : ∃ n, gs.length = n := ⟨_, rfl⟩
 obtain ⟨m, hm⟩ : ∃ m, hs.length = m := ⟨_, rfl⟩
 have hg1 := gAl w (.cells #[.slice a n c] 30) none
 have e1 := one_cell w (.slice a n c) 30
 obtain ⟨W1, hW1⟩ : ∃ W, w.alloc (.cells #[.slice a n c] 30) = W := ⟨_, rfl⟩
 rw [hW1] at hg1 e1
 have hg2 := gAl W1 (.cells #[.slice b m d] 30) none
 have e2 := one_cell W1 (.slice b m d) 30
 obtain ⟨W2, hW2⟩ : ∃ W, W1.alloc (.cells #[.slice b m d] 30) = W := ⟨_, rfl⟩
 rw [hW2] at hg2 e2
 have q1 := hg2.cell e1.2.1 (by simp)
 have q2 := e2.2.1
 have HQ := hid (And.intro q1 q2)
 have HG := hid (gT hg1 hg2)
 have HA := hid ((h1.grown hg1).grown hg2)
 have HB := hid ((h2.grown hg1).grown hg2)
 have HN := hid (And.intro hn hm)
 rw [hn] at hl ⊢
 rw [hm] at _hl2 ⊢
 clear h1 h2 hg1 hg2 e1 e2 hn hm
 by_cases hnm : n = m
 ·
  have fe : (((n : Nat) : Int) == ((m : Nat) : Int)) = true := by simp [hnm]
  have fe2 : (n == m) = true := by simp [hnm]
  have HNM := hid hnm; clear hnm
  go_enter Try.func26, Try.ntmps26
  go_wp2_with fail
  clear q1 q2 hW1 hW2
  go_loopg [5] n (fun g s wr => ∃ k : Nat, s = .int .i64 (k : Int) ∧ g = n - k ∧ k ≤ n ∧ (∀ j : Nat, j < k → gs[j]? = hs[j]?) ∧ W2.grownBy wr none)
  case atStart => exact ⟨0, rfl, rfl, Nat.zero_le _, fun j hj => by omega, grown_refl _ _⟩
  case round =>
   obtain ⟨k, rfl, hgk, hk, heq, hgr⟩ := hrel
   have HI := hid (And.intro hgk heq); clear hgk heq
   have q1 := hgr.cell HQ.out.1 (by simp)
   have q2 := hgr.cell HQ.out.2 (by simp)
   have HGR := hid hgr; clear hgr
   by_cases hkn : k < n
   ·
    have f1 : decide (k < n) = true := decide_eq_true hkn
    have hk1 : IntKind.i64.wrap ((k : Int) + 1) = ((k + 1 : Nat) : Int) := by rw [IntWalk.i64_in _ (by omega)]; omega
    have hjn : (k : Int) < (n : Int) := by omega
    have hjm : (k : Int) < (m : Int) := by have := HNM.out; omega
    have hj0 : (0 : Int) ≤ (k : Int) := by omega
    obtain ⟨g, hg⟩ : ∃ g, gs[k]? = some g := ⟨_, List.getElem?_eq_getElem (by rw [HN.out.1]; omega)⟩
    obtain ⟨h, hh⟩ : ∃ h, hs[k]? = some h := ⟨_, List.getElem?_eq_getElem (by rw [HN.out.2]; have := HNM.out; omega)⟩
    obtain ⟨ba, oa, rfl, x0, x1, x2⟩ := (HA.out.grown HGR.out).at hg
    obtain ⟨bb, ob, rfl, y0, y1, y2⟩ := (HB.out.grown HGR.out).at hh
    have HGH := hid (And.intro hg hh); clear hg hh
    by_cases hgh : g = h
    ·
     have he : ∀ U : World, (Op.equalIn 10000 99 (.agg #[.int .i64 g.1, .int .i64 g.2.1, .int .i64 g.2.2]) (.agg #[.int .i64 h.1, .int .i64 h.2.1, .int .i64 h.2.2])).run Try.prog U = .ok true U := fun U => by rw [eq47 g h U, decide_eq_true hgh]
     have HS := hid (show ∀ j : Nat, j < k + 1 → gs[j]? = hs[j]? from fun j hj => by
      by_cases hjk : j = k
      · subst hjk; rw [HGH.out.1, HGH.out.2, hgh]
      · exact HI.out.2 j (by omega))
     have HQQ := hid hgh; clear hgh
     go_wp2_with fail
     go_quiet (fail)
     go_wp2_with fail
     go_roundg (n - (k + 1))
     case measure => rw [HI.out.1]; omega
     case rel => exact ⟨k + 1, rfl, rfl, by omega, HS.out, gT HGR.out (grown_drewN wr nq none)⟩
    ·
     have he : ∀ U : World, (Op.equalIn 10000 99 (.agg #[.int .i64 g.1, .int .i64 g.2.1, .int .i64 g.2.2]) (.agg #[.int .i64 h.1, .int .i64 h.2.1, .int .i64 h.2.2])).run Try.prog U = .ok false U := fun U => by rw [eq47 g h U, decide_eq_false hgh]
     have HR := hid (show decide (gs = hs) = false from decide_eq_false fun e => hgh (by have h1 := HGH.out.1; have h2 := HGH.out.2; rw [e, h2] at h1; injection h1 with h1; exact h1.symm))
     have HQQ := hid hgh; clear hgh
     go_wp2_with fail
     go_quiet (fail)
     go_wp2_with fail
     go_ret
     exact ⟨by rw [HR.out]; rfl, gT HG.out (gT HGR.out (grown_drewN wr nq none))⟩
   ·
    have f1 : decide (k < n) = false := decide_eq_false hkn
    have HR := hid (show decide (gs = hs) = true from decide_eq_true (ext_upto (by rw [HN.out.1, HN.out.2]; exact HNM.out) (fun j hj => HI.out.2 j (by rw [HN.out.1] at hj; omega))))
    go_wp2_with fail
    go_ret
    exact ⟨by rw [HR.out]; rfl, gT HG.out HGR.out⟩
 ·
  have fe : (((n : Nat) : Int) == ((m : Nat) : Int)) = false := beqF (by omega)
  have fe2 : (n == m) = false := by simp [hnm]
  have HR := hid (show decide (gs = hs) = false from decide_eq_false fun e => hnm (by rw [← HN.out.1, ← HN.out.2, e]))
  clear hnm
  go_enter Try.func26, Try.ntmps26
  go_wp2_with fail
  go_ret
  exact ⟨by rw [HR.out]; rfl, HG.out⟩

abbrev boolCells (l : List Bool) : List Value := l.map Value.bool
def BoolsW (w : World) (a : Option Addr) (c : Nat) (zs : List Bool) : Prop :=
 zs.length ≤ c ∧ (zs = [] ∨ ∃ b o, a = some ⟨b, o, none⟩ ∧ ∀ (j : Nat) (z : Bool), zs[j]? = some z → w.cell? ⟨b, o + j, none⟩ = some (.bool z))
theorem BoolsW.grown {w w' : World} {a : Option Addr} {c : Nat} {zs : List Bool} (h : BoolsW w a c zs) (hg : w.grownBy w' none) : BoolsW w' a c zs := by
 obtain ⟨hc, h | ⟨b, o, ha, hz⟩⟩ := h
 · exact ⟨hc, .inl h⟩
 · exact ⟨hc, .inr ⟨b, o, ha, fun j z hj => hg.cell (hz j z hj) (by simp)⟩⟩
theorem BoolsW.at {w : World} {a : Option Addr} {c : Nat} {zs : List Bool} (h : BoolsW w a c zs) {i : Nat} {z : Bool} (hz : zs[i]? = some z) : ∃ b o, a = some ⟨b, o, none⟩ ∧ w.cell? ⟨b, o + i, none⟩ = some (.bool z) := by
 obtain ⟨_, h | ⟨b, o, ha, hc⟩⟩ := h
 · rw [h] at hz; simp at hz
 · exact ⟨b, o, ha, hc i z hz⟩
theorem boolsW_nil (w : World) (a : Option Addr) (c : Nat) : BoolsW w a c [] := ⟨Nat.zero_le _, .inl rfl⟩
theorem info4 : (Try.prog.info? 4).map (fun i => (i.zero, i.size, i.bytes)) = some (some (.bool false), 1, 1) := by kernel_rfl
theorem bools_span {w : World} {B : Nat} {v : Value} {l : List Bool} (h : w.ownsRow B 4 1 v l.length (boolCells l)) : ∃ a c, v = .slice a l.length c ∧ Span B w.heap.size w (fun W => BoolsW W a c l) := by
 have hc := @World.ownsRow.cells w B 4 1 v l.length _ h
 rcases h.2 with ⟨hv, h0⟩ | ⟨g, cap, cur, rfl, hb, hg, hnc, hcm, _⟩
 ·
  have hl : l = [] := List.eq_nil_of_length_eq_zero h0
  subst hl
  exact ⟨none, 0, hv, Nat.le_refl _, fun W _ => boolsW_nil W _ _⟩
 ·
  have hlt := (Array.getElem?_eq_some_iff.1 hg).1
  refine ⟨_, _, rfl, Nat.le_refl _, fun W hW => ⟨hnc, .inr ⟨g, 0, rfl, fun j z hj => ?_⟩⟩⟩
  have := hc (g := g) rfl j (.bool z) (by rw [boolCells, List.getElem?_map, hj]; rfl)
  rw [add_at] at this
  rw [Nat.zero_add, World.cell?_of_block (hW g hb hlt)]; exact this
theorem ready_append_g {ops : Array Oper} {o : Oper} {a : Act} {Q : Exit → Act → World → Prop} {K' : Act → World → Prop} {w : World} (t e : TypeId) (s x : Operand) (hgd : o.guard = none)
  (ho : o.op = .call { callee := .builtin .append, args := #[s, x], argTypes := #[t, t] }) {i0 : TypeInfo} {z : Value} {k bytes : Nat} (hund : Try.prog.underlying t = some (.slice e)) (hi0 : Try.prog.info? e = some i0) (hz0 : i0.zero = some z) (hz1 : i0.size = k) (hz2 : i0.bytes = bytes) (hzc : z.cells.size = k) (hk : 0 < k) (hb : bytes ≤ 1000000)
  (base : Nat) (v : Value) (n : Nat) (xs : List Value) (hs : a.eval s = v) (hown : w.ownsRow base e k v n xs)
  (ad : Addr) (us : List Value) (hl : us.length = k) (hx : a.eval x = .slice (some ad) 1 1) (hnews : ∀ j u, us[j]? = some u → w.cell? (ad.add j) = some u) (h1 : ∀ u ∈ us, u.oneCell' = true)
  (h63 : n ≤ 1000000) (hbase : base ≤ w.heap.size)
  (h : ∀ v' w', w'.ownsRow base e k v' (n + 1) (xs ++ us) → w.grownBy w' v.ownBlock → (v'.ownBlock = v.ownBlock ∨ v'.ownBlock = some w.heap.size) → K' (a.put o.dst v') w') :
  if Region.wanted o (yielded ops a.tmps) = true then Oper.wp Try.prog o a w K' Q else K' (a.put o.dst undef) w := by
 have hbn : (n + 1) * bytes ≤ 140737488355328 := Nat.le_trans (Nat.mul_le_mul (show n + 1 ≤ 1000001 by omega) hb) (by omega)
 obtain ⟨v', w', hr, h2, h3, h4, h5⟩ := run_append_own_at (P := Try.prog) w base t o.type e i0 z k bytes hund hi0 hz0 hz1 hz2 hzc hk v n xs hown ad 1 1 us (by rw [hl, Nat.one_mul]) hnews h1 (by unfold maxLen; omega) hbn hbase
 have hw : Region.wanted o (yielded ops a.tmps) = true := by simp only [Region.wanted, hgd]
 rw [if_pos hw]
 unfold Oper.wp execOp
 simp only [ho, resolve, invoke, builtin, Sem.run_bind, Sem.run_pure, Result.andThen_ok, List.map_toArray, List.map_cons, List.map_nil, hs, hx, hr]
 exact h v' w' h2 h3 h5
structure KnownBox (B p : Nat) (w : World) (va : Option Addr) (vc : Nat) (kn : List Bool) : Prop where
 c0 : w.cell? ⟨p, 0, none⟩ = some (.slice va kn.length vc)
 fr : w.frozen? ⟨p, 0, none⟩ = false
 own : w.ownsRow B 4 1 (.slice va kn.length vc) kn.length (boolCells kn)
 low : B ≤ p ∧ p < w.heap.size
 ne : (Value.slice va kn.length vc).ownBlock ≠ some p
theorem KnownBox.grown {B p : Nat} {w w' : World} {va : Option Addr} {vc : Nat} {kn : List Bool} (h : KnownBox B p w va vc kn) (hg : w.grownBy w' none) : KnownBox B p w' va vc kn :=
 ⟨hg.cell h.c0 (by simp), (grown_frozen hg (lies_lt h.c0) 0).trans h.fr, own_grown h.own hg, ⟨h.low.1, Nat.lt_of_lt_of_le h.low.2 hg.size⟩, h.ne⟩
theorem KnownBox.bools {B p : Nat} {w : World} {va : Option Addr} {vc : Nat} {kn : List Bool} (h : KnownBox B p w va vc kn) : BoolsW w va vc kn := by
 obtain ⟨a, c, e, hs⟩ := bools_span h.own
 cases e
 exact hs.here
theorem KnownBox.at_ {B p : Nat} {w WA w3 : World} {va : Option Addr} {vc : Nat} {kn : List Bool} (h : KnownBox B p w va vc kn) (ha : w.grownBy WA none) (hg : WA.grownBy w3 (Value.slice va kn.length vc).ownBlock) :
  w3.cell? ⟨p, 0, none⟩ = some (.slice va kn.length vc) ∧ w3.frozen? ⟨p, 0, none⟩ = false := by
 have h2 := h.grown ha
 have hne : some p ≠ (Value.slice va kn.length vc).ownBlock := fun e => h.ne e.symm
 exact ⟨hg.cell h2.c0 hne, (World.frozen?_of_block (a := ⟨p, 0, none⟩) (hg.block p h2.low.2 hne)).trans h2.fr⟩
theorem KnownBox.step {B p : Nat} {w WA w3 : World} {va a : Option Addr} {vc c m : Nat} {kn : List Bool} {x : Bool} (h : KnownBox B p w va vc kn) (ha : w.grownBy WA none) (hg : WA.grownBy w3 (Value.slice va kn.length vc).ownBlock) (hm : kn.length + 1 = m)
  (hown : w3.ownsRow B 4 1 (.slice a m c) m (boolCells kn ++ [.bool x])) (hat : (Value.slice a m c).ownBlock = (Value.slice va kn.length vc).ownBlock ∨ (Value.slice a m c).ownBlock = some WA.heap.size) : KnownBox B p (w3.setCell ⟨p, 0, none⟩ (.slice a m c)) a c (kn ++ [x]) := by
 subst hm
 obtain ⟨h1, h2⟩ := h.at_ ha hg
 have hpA : p < WA.heap.size := Nat.lt_of_lt_of_le h.low.2 ha.size
 have hp3 : p < w3.heap.size := Nat.lt_of_lt_of_le hpA hg.size
 have hne : (Value.slice a (kn.length + 1) c).ownBlock ≠ some p := by
  rcases hat with e | e
  · rw [e]; exact h.ne
  · rw [e]; intro e2; injection e2 with e2; omega
 have hl : (kn ++ [x]).length = kn.length + 1 := by simp
 refine ⟨by rw [hl]; exact World.cell?_setCell_same _ _ _ h1, by rw [World.frozen?_setCell]; exact h2, ?_, ⟨h.low.1, Nat.lt_of_lt_of_le hp3 (grown_set _ _ _ _).size⟩, by rw [hl]; exact hne⟩
 rw [hl, boolCells, List.map_append]
 refine hown.kept (grown_set _ _ _ _) ?_
 cases hv : (Value.slice a (kn.length + 1) c).ownBlock with
 | none => exact .inl rfl
 | some k => exact .inr (fun e => hne (by rw [hv, e]))
structure Safe (w0 : World) (bg : Nat) (g : Gt) (w : World) : Prop where
 grow : w0.grownBy w none
 gate : GateAt w bg 0 g
theorem Safe.next {w0 w w' : World} {bg : Nat} {g : Gt} (h : Safe w0 bg g w) (hg : w.grownBy w' none) : Safe w0 bg g w' := ⟨gT h.grow hg, h.gate.grown hg⟩
theorem Safe.own {w0 w w' : World} {bg : Nat} {g : Gt} {r : Option Nat} (h : Safe w0 bg g w) (hg : w.grownBy w' r) (h1 : ∀ k, r = some k → w0.heap.size ≤ k) (h2 : some bg ≠ r) : Safe w0 bg g w' := ⟨grown_own h.grow hg h1, h.gate.moved hg h2⟩

theorem value_calls (r : Int) (B p : Nat) (va : Option Addr) (vc : Nat) (kn : List Bool) (w : World) (h : KnownBox B p w va vc kn) (hl : kn.length ≤ 2000) (hr : r ≤ 9223372036854775807) :
  Calls Try.prog 119 #[.int .i64 r, .pointer (some ⟨p, 0, none⟩)] w fun e w' => e = .returned (.bool (litV kn r)) ∧ w' = w := by
 by_cases h0 : 0 ≤ r
 ·
  have f0 : decide (0 ≤ r) = true := decide_eq_true h0
  have hq : Int.tdiv r 2 = r / 2 := Int.tdiv_eq_ediv_of_nonneg (by omega)
  have hm : Int.tmod r 2 = r % 2 := Int.tmod_eq_emod_of_nonneg (by omega)
  have hw : IntKind.i64.wrap (r / 2) = r / 2 := IntWalk.i64_in _ (by omega)
  have hw2 : IntKind.i64.wrap (r % 2) = r % 2 := IntWalk.i64_in _ (by omega)
  obtain ⟨n, hn⟩ : ∃ n, kn.length = n := ⟨_, rfl⟩
  have k0 := h.c0
  rw [hn] at k0
  by_cases h1 : r / 2 < (n : Int)
  ·
   obtain ⟨q, hqq⟩ : ∃ q : Nat, r / 2 = (q : Int) := ⟨(r / 2).toNat, by omega⟩
   obtain ⟨v, hv⟩ : ∃ v, kn[q]? = some v := ⟨_, List.getElem?_eq_getElem (by rw [hn]; omega)⟩
   obtain ⟨ba, oa, rfl, x0⟩ := h.bools.at hv
   have HE := hid (show litV kn r = (v != decide (r % 2 = 1)) by unfold litV; rw [decide_eq_true h0, hqq, Int.toNat_natCast, hv]; rfl)
   rw [hqq] at hq hw h1
   have f1 : decide ((q : Int) < (n : Int)) = true := decide_eq_true h1
   have hq0 : (0 : Int) ≤ (q : Int) := by omega
   clear hqq hn h h0 hv
   go_enter Try.func119, Try.ntmps119
   go_wp2_with fail
   go_ret
   exact ⟨by rw [HE.out]; rfl, rfl⟩
  ·
   have f1 : decide (r / 2 < (n : Int)) = false := decide_eq_false h1
   have HE := hid (show litV kn r = false by unfold litV; rw [List.getElem?_eq_none (by omega)]; simp)
   clear h h1 h0 hn
   go_enter Try.func119, Try.ntmps119
   go_wp2_with fail
   go_ret
   exact ⟨by rw [HE.out]; rfl, rfl⟩
 ·
  have f0 : decide (0 ≤ r) = false := decide_eq_false h0
  have HE := hid (show litV kn r = false by unfold litV; rw [f0]; rfl)
  clear h0
  go_enter Try.func119, Try.ntmps119
  go_wp2_with fail
  go_ret
  exact ⟨by rw [HE.out]; rfl, rfl⟩
end Go.Proofs.Ythdhmflodiincaa

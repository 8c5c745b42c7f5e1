/- Unrolling a loop: plain; rows of states that share their relations; the two models that are unrolled; what models of one trace answer. -/
import Derived.Test.YtbddpjofhddilaaSM
import Derived.Deep.Slices
import Derived.Deep.RegionHeld3
namespace Go.Proofs.Ytbddpjofhddilaa
open Go.RowKit

theorem getD_app_lt {α : Type} {A B : List α} {i : Nat} {d : α} (h : i < A.length) : (A ++ B).getD i d = A.getD i d := by
  rw [List.getD_eq_getElem?_getD, List.getD_eq_getElem?_getD, List.getElem?_append_left h]
theorem getD_app_ge {α : Type} {A B : List α} {i : Nat} {d : α} (h : A.length ≤ i) : (A ++ B).getD i d = B.getD (i - A.length) d := by
  rw [List.getD_eq_getElem?_getD, List.getD_eq_getElem?_getD, List.getElem?_append_right h]
theorem getD_drop {α : Type} {A : List α} {p i : Nat} {d : α} : (A.drop p).getD i d = A.getD (p + i) d := by
  rw [List.getD_eq_getElem?_getD, List.getD_eq_getElem?_getD, List.getElem?_drop]
/-- The loop written twice. -/
theorem trL_repeat {L : List (List Rl)} {p : Nat} (h : p < L.length) (t : Nat) : trL (L ++ L.drop p) p t = trL L p t := by
  have hl : (L ++ L.drop p).length = L.length + (L.length - p) := by rw [List.length_append, List.length_drop]
  by_cases ht : t < p
  · rw [trL_lt (by omega), trL_lt (by omega), getD_app_lt (by omega)]
  · obtain ⟨i, rfl⟩ : ∃ i, t = p + i := ⟨t - p, by omega⟩
    rw [trL_loop (by omega), trL_loop h, hl]
    obtain ⟨q, hq⟩ : ∃ q, L.length - p = q := ⟨_, rfl⟩
    have e : L.length + q - p = q + q := by omega
    rw [hq, e]
    have hq0 : 0 < q := by omega
    have h1 := Nat.mod_lt i (show 0 < q + q by omega)
    have h2 : i % q = i % (q + q) % q := by rw [Nat.mod_mod_of_dvd _ ⟨2, by omega⟩]
    by_cases hr : i % (q + q) < q
    · rw [getD_app_lt (by omega), h2, Nat.mod_eq_of_lt hr]
    · have e3 : i % (q + q) % q = i % (q + q) - q := by rw [Nat.mod_eq_sub_mod (show q ≤ i % (q + q) by omega), Nat.mod_eq_of_lt (by omega)]
      rw [getD_app_ge (by omega), getD_drop, h2, e3]
      congr 1
      omega
/-- The loop begun one state later. -/
theorem trL_shift {L : List (List Rl)} {p : Nat} (h : p < L.length) (t : Nat) : trL (L ++ [L.getD p []]) (p + 1) t = trL L p t := by
  have hl : (L ++ [L.getD p []]).length = L.length + 1 := by simp
  by_cases ht : t < p + 1
  · rw [trL_lt (by omega), trL_lt (by omega), getD_app_lt (by omega)]
  · obtain ⟨i, rfl⟩ : ∃ i, t = p + 1 + i := ⟨t - (p + 1), by omega⟩
    rw [trL_loop (by omega), Nat.add_assoc p 1 i, trL_loop h, hl]
    obtain ⟨q, hq⟩ : ∃ q, L.length - p = q := ⟨_, rfl⟩
    have e : L.length + 1 - (p + 1) = q := by omega
    rw [hq, e]
    have hq0 : 0 < q := by omega
    have h1 := Nat.mod_lt i hq0
    by_cases hr : i % q + 1 < q
    · have e2 : (1 + i) % q = i % q + 1 := by rw [Nat.add_comm, Nat.add_mod, Nat.mod_eq_of_lt (show 1 < q by omega), Nat.mod_eq_of_lt hr]
      rw [getD_app_lt (by omega), e2]
      congr 1
      omega
    · have e2 : (1 + i) % q = 0 := by
        have : i % q + 1 = q := by omega
        rw [Nat.add_comm, Nat.add_mod]
        by_cases hq1 : q = 1
        · subst hq1; omega
        · rw [Nat.mod_eq_of_lt (show 1 < q by omega), this, Nat.mod_self]
      have e3 : p + 1 + i % q = L.length := by omega
      rw [e3, getD_app_ge (Nat.le_refl _), Nat.sub_self, e2, Nat.add_zero]
      rfl

/-- The states of a row, with their own rows. -/
def rowOf (D : List Ds) : List Value := D.map fun d => .slice d.2.1 d.1.length d.2.2
theorem sts_rows {w : World} {b o c : Nat} {L : List (List Rl)} (h : Sts w (some ⟨b, o, none⟩) c L) :
    ∃ D : List Ds, D.map (·.1) = L ∧ (∀ d ∈ D, Rels w d.2.1 d.2.2 d.1) ∧ ∀ (j : Nat) (u : Value), (rowOf D)[j]? = some u → w.cell? ⟨b, o + j, none⟩ = some u := by
  have h1 : ∀ j, j < L.length → ∃ d : Ds, L[j]? = some d.1 ∧ Rels w d.2.1 d.2.2 d.1 ∧ w.cell? ⟨b, o + j, none⟩ = some (.slice d.2.1 d.1.length d.2.2) := by
    intro j hj
    obtain ⟨b', o', e, a', c', h0, hr⟩ := h.2 j L[j] (List.getElem?_eq_getElem hj)
    cases e
    exact ⟨(L[j], a', c'), List.getElem?_eq_getElem hj, hr, h0⟩
  obtain ⟨f, hf⟩ := Go.Deep.choose_lt h1
  have hlen : ((List.range L.length).map f).length = L.length := by simp
  refine ⟨(List.range L.length).map f, ?_, ?_, ?_⟩
  · apply List.ext_getElem?
    intro j
    by_cases hj : j < L.length
    · rw [List.map_map, List.getElem?_map, List.getElem?_range hj, (hf j hj).1]; rfl
    · rw [List.getElem?_eq_none (by simpa using hj), List.getElem?_eq_none (by omega)]
  · intro d hd
    obtain ⟨j, hj, rfl⟩ := List.mem_map.1 hd
    exact (hf j (List.mem_range.1 hj)).2.1
  · intro j u hu
    have hj : j < L.length := by have := (List.getElem?_eq_some_iff.1 hu).1; simpa [rowOf] using this
    rw [rowOf, List.getElem?_map, List.getElem?_map, List.getElem?_range hj] at hu
    simp only [Option.map_some, Option.some.injEq] at hu
    rw [(hf j hj).2.2, ← hu]
theorem sts_of_row {w : World} {B n : Nat} {v : Value} {D : List Ds} (h : w.ownsRow B 40 1 v n (rowOf D)) (hn : D.length = n) (hr : ∀ d ∈ D, Rels w d.2.1 d.2.2 d.1) : ∃ a c, v = .slice a n c ∧ Sts w a c (D.map (·.1)) := by
  have hc := @World.ownsRow.cells w B 40 1 v n _ h
  rcases h.2 with ⟨hv, h0⟩ | ⟨g, cap, cur, rfl, hb, hg, hnc, hcm, _⟩
  · have hl : D = [] := List.eq_nil_of_length_eq_zero (by omega)
    subst hl
    exact ⟨none, 0, by rw [hv, h0], Nat.le_refl _, fun j l hj => by simp at hj⟩
  · refine ⟨_, _, rfl, by rw [List.length_map, hn]; exact hnc, fun j l hj => ?_⟩
    rw [List.getElem?_map] at hj
    cases hd : D[j]? with
    | none => rw [hd] at hj; cases hj
    | some d =>
      rw [hd] at hj
      cases hj
      have := hc (g := g) rfl j (.slice d.2.1 d.1.length d.2.2) (by rw [rowOf, List.getElem?_map, hd]; rfl)
      rw [add_at] at this
      exact ⟨g, 0, rfl, d.2.1, d.2.2, by rw [Nat.zero_add]; exact this, hr d (List.mem_of_getElem? hd)⟩
/-- A spread append of rows, where the order of a region is drawn. -/
theorem ready_spread {ops : Array Oper} {o : Oper} {a : Act} {Q : Exit → Act → World → Prop} {K' : Act → World → Prop} {w : World} (hgd : o.guard = none) (s x : Operand)
    (ho : o.op = .call { callee := .builtin .append, args := #[s, x], argTypes := #[31, 31] })
    (base : Nat) (v : Value) (n : Nat) (xs : List Value) (hs : a.eval s = v) (hown : w.ownsRow base 40 1 v n xs)
    (ad : Addr) (m c : Nat) (D : List Ds) (hx : a.eval x = .slice (some ad) m c) (hm : D.length = m) (hnews : ∀ j u, (rowOf D)[j]? = some u → w.cell? (ad.add j) = some u)
    (h63 : n + m ≤ 1000) (hbase : base ≤ w.heap.size)
    (h : ∀ v' w', w'.ownsRow base 40 1 v' (n + m) (xs ++ rowOf D) → w.grownBy w' v.ownBlock → K' (a.put o.dst v') w') :
    if Region.wanted o (yielded ops a.tmps) = true then Oper.wp Try.prog o a w K' Q else K' (a.put o.dst undef) w := by
  obtain ⟨i0, hi0, hz0, hz1, hz2⟩ := info_parts info40
  obtain ⟨v', w', hr, h2, h3, h4, h5⟩ := run_append_own_at (P := Try.prog) w base 31 o.type 40 i0 (.slice none 0 0) 1 24 Try.underlying31 hi0 hz0 hz1 hz2 rfl (by decide) v n xs hown ad m c (rowOf D) (by rw [rowOf, List.length_map, hm, Nat.mul_one]) hnews (fun u hu => by rw [rowOf, List.mem_map] at hu; obtain ⟨d, _, rfl⟩ := hu; rfl) (by unfold maxLen; omega) (by omega) hbase
  have hw : Region.wanted o (yielded ops a.tmps) = true := by simp only [Region.wanted, hgd]
  rw [if_pos hw]
  unfold Oper.wp execOp
  simp only [ho, resolve, invoke, builtin, Sem.run_bind, Sem.run_pure, Result.andThen_ok, List.map_toArray, List.map_cons, List.map_nil, hs, hx, hr]
  exact h v' w' h2 h3

theorem add_at' (b o j : Nat) : (⟨b, o, none⟩ : Addr).add j = ⟨b, o + j, none⟩ := by unfold Addr.add; split <;> simp_all
theorem slice_suf {tb to k tc q : Nat} (h1 : q < k) (h2 : k ≤ tc) : ∀ w, (Instr.slice 31 (.slice (some ⟨tb, to, none⟩) k tc) (some (.int .i64 (q : Int))) none none).run Try.prog w = .ok (.slice (some ⟨tb, to + q, none⟩) (k - q) (tc - q)) w := by
  intro w
  have a2 : ¬ (tc = q) := by omega
  have a3 : (q : Int) ≤ (k : Int) := by omega
  have a4 : q ≤ k := by omega
  go_simp
theorem fz_new (W : World) (x0 x1 x2 x3 : Value) (o : Nat) : (W.alloc (.cells #[x0, x1, x2, x3] 33)).frozen? ⟨W.heap.size, o, none⟩ = false := by go_simp

/-- Four cells of a block, none of them frozen. -/
def Held4 (X : World) (g : Nat) (v0 v1 v2 v3 : Value) : Prop := (X.cell? ⟨g, 0, none⟩ = some v0 ∧ X.cell? ⟨g, 1, none⟩ = some v1 ∧ X.cell? ⟨g, 2, none⟩ = some v2 ∧ X.cell? ⟨g, 3, none⟩ = some v3) ∧ ∀ o, X.frozen? ⟨g, o, none⟩ = false
theorem Held4.off {X X' : World} {g : Nat} {v0 v1 v2 v3 : Value} {r : Option Nat} (h : Held4 X g v0 v1 v2 v3) (hg : X.grownBy X' r) (hr : ∀ x, r = some x → x ≠ g) : Held4 X' g v0 v1 v2 v3 := by
  have hne : some g ≠ r := fun e => hr g e.symm rfl
  have hlt : g < X.heap.size := lies_lt h.1.1
  exact ⟨⟨hg.cell h.1.1 hne, hg.cell h.1.2.1 hne, hg.cell h.1.2.2.1 hne, hg.cell h.1.2.2.2 hne⟩, fun o => by rw [World.frozen?_of_block (hg.block g hlt hne)]; exact h.2 o⟩
theorem Held4.set1 {X : World} {g : Nat} {v0 v1 v2 v3 : Value} (h : Held4 X g v0 v1 v2 v3) (u : Value) : Held4 (X.setCell ⟨g, 1, none⟩ u) g v0 u v2 v3 := by
  have ne : ∀ {i j : Nat}, i ≠ j → (⟨g, i, none⟩ : Addr) ≠ ⟨g, j, none⟩ := fun h e => by injection e with _ e; exact h e
  exact ⟨⟨by rw [World.cell?_setCell_other _ _ _ _ (ne (by decide))]; exact h.1.1, World.cell?_setCell_same _ _ _ h.1.2.1, by rw [World.cell?_setCell_other _ _ _ _ (ne (by decide))]; exact h.1.2.2.1, by rw [World.cell?_setCell_other _ _ _ _ (ne (by decide))]; exact h.1.2.2.2⟩, fun o => by rw [World.frozen?_setCell]; exact h.2 o⟩
theorem Held4.set2 {X : World} {g : Nat} {v0 v1 v2 v3 : Value} (h : Held4 X g v0 v1 v2 v3) (u : Value) : Held4 (X.setCell ⟨g, 2, none⟩ u) g v0 v1 u v3 := by
  have ne : ∀ {i j : Nat}, i ≠ j → (⟨g, i, none⟩ : Addr) ≠ ⟨g, j, none⟩ := fun h e => by injection e with _ e; exact h e
  exact ⟨⟨by rw [World.cell?_setCell_other _ _ _ _ (ne (by decide))]; exact h.1.1, by rw [World.cell?_setCell_other _ _ _ _ (ne (by decide))]; exact h.1.2.1, World.cell?_setCell_same _ _ _ h.1.2.2.1, by rw [World.cell?_setCell_other _ _ _ _ (ne (by decide))]; exact h.1.2.2.2⟩, fun o => by rw [World.frozen?_setCell]; exact h.2 o⟩
theorem Held4.set3 {X : World} {g : Nat} {v0 v1 v2 v3 : Value} (h : Held4 X g v0 v1 v2 v3) (u : Value) : Held4 (X.setCell ⟨g, 3, none⟩ u) g v0 v1 v2 u := by
  have ne : ∀ {i j : Nat}, i ≠ j → (⟨g, i, none⟩ : Addr) ≠ ⟨g, j, none⟩ := fun h e => by injection e with _ e; exact h e
  exact ⟨⟨by rw [World.cell?_setCell_other _ _ _ _ (ne (by decide))]; exact h.1.1, by rw [World.cell?_setCell_other _ _ _ _ (ne (by decide))]; exact h.1.2.1, by rw [World.cell?_setCell_other _ _ _ _ (ne (by decide))]; exact h.1.2.2.1, World.cell?_setCell_same _ _ _ h.1.2.2.2⟩, fun o => by rw [World.frozen?_setCell]; exact h.2 o⟩
theorem results32 (tmps : Array Value) (w : World) (b : Nat) (a : Option Addr) (n c : Nat) (a2 : Option Addr) (n2 c2 : Nat) (x y : Int) (ht : tmps.getD 2 undef = .pointer (some ⟨b, 0, none⟩)) (h0 : w.cell? ⟨b, 0, none⟩ = some (.slice a n c)) (h1 : w.cell? ⟨b, 1, none⟩ = some (.int .i64 x))
    (h2 : w.cell? ⟨b, 2, none⟩ = some (.slice a2 n2 c2)) (h3 : w.cell? ⟨b, 3, none⟩ = some (.int .i64 y)) :
    (results Try.f32 tmps).run Try.prog w = .ok (.agg #[.slice a n c, .int .i64 x, .slice a2 n2 c2, .int .i64 y]) w := by
  have ht' : tmps[2]?.getD undef = .pointer (some ⟨b, 0, none⟩) := by simpa using ht
  simp [results, ht', go_sem, h0, h1, h2, h3, Result.andThen]

set_option maxRecDepth 100000 in
set_option maxHeartbeats 8000000 in
theorem repeated_calls (n : Nat) (sa : Option Addr) (sc : Nat) (st : Int) (tb to : Nat) (L : List (List Rl)) (D : List Ds) (tc p : Nat) (w : World) (hD1 : D.map (·.1) = L) (hD3 : ∀ (j : Nat) (u : Value), (rowOf D)[j]? = some u → w.cell? ⟨tb, to + j, none⟩ = some u) (htc0 : L.length ≤ tc) (hpk : p < L.length) (hk64 : L.length ≤ 64) :
    Calls Try.prog 32 #[.agg #[.slice sa n sc, .int .i64 st, .slice (some ⟨tb, to, none⟩) L.length tc, .int .i64 (p : Int)]] w fun e w' =>
      ∃ a c, e = .returned (.agg #[.slice sa n sc, .int .i64 ((L ++ L.drop p).length : Nat), .slice a (L ++ L.drop p).length c, .int .i64 (p : Int)]) ∧ w'.ownsRow (w.heap.size + 1 + 1 + 1) 40 1 (.slice a (L ++ L.drop p).length c) (L ++ L.drop p).length (rowOf (D ++ D.drop p)) ∧ w.grownBy w' none := by
  obtain ⟨k, hk⟩ : ∃ k, L.length = k := ⟨_, rfl⟩
  have hDl : D.length = k := by rw [← hk, ← hD1, List.length_map]
  have htc : k ≤ tc := by omega
  have hLl : (L ++ L.drop p).length = k + (k - p) := by rw [List.length_append, List.length_drop, hk]
  rw [hk] at hpk hk64 ⊢
  rw [hLl]
  have hg := (World.grownBy_alloc w (.cells #[.slice sa n sc, .int .i64 st, .slice (some ⟨tb, to, none⟩) k tc, .int .i64 p] 33) none).trans (World.grownBy_alloc (w.alloc (.cells #[.slice sa n sc, .int .i64 st, .slice (some ⟨tb, to, none⟩) k tc, .int .i64 p] 33)) (.cells #[.slice none 0 0, .int .i64 0, .slice none 0 0, .int .i64 0] 33) none)
  have hc := eight_cells w (.slice sa n sc) (.int .i64 st) (.slice (some ⟨tb, to, none⟩) k tc) (.int .i64 p) (.slice none 0 0) (.int .i64 0) (.slice none 0 0) (.int .i64 0) 33 33
  have hsz : ((w.alloc (.cells #[.slice sa n sc, .int .i64 st, .slice (some ⟨tb, to, none⟩) k tc, .int .i64 p] 33)).alloc (.cells #[.slice none 0 0, .int .i64 0, .slice none 0 0, .int .i64 0] 33)).heap.size = w.heap.size + 1 + 1 := by simp
  have hfz : ∀ o, ((w.alloc (.cells #[.slice sa n sc, .int .i64 st, .slice (some ⟨tb, to, none⟩) k tc, .int .i64 p] 33)).alloc (.cells #[.slice none 0 0, .int .i64 0, .slice none 0 0, .int .i64 0] 33)).frozen? ⟨w.heap.size + 1, o, none⟩ = false := fun o => by go_simp
  obtain ⟨W, hW⟩ : ∃ W, (w.alloc (.cells #[.slice sa n sc, .int .i64 st, .slice (some ⟨tb, to, none⟩) k tc, .int .i64 p] 33)).alloc (.cells #[.slice none 0 0, .int .i64 0, .slice none 0 0, .int .i64 0] 33) = W := ⟨_, rfl⟩
  rw [hW] at hg hc hsz hfz
  have HW := Lib.hid hW; clear hW
  have HG := Lib.hid hg; clear hg
  clear hk hD1 htc0
  obtain ⟨g, hgg⟩ : ∃ g, w.heap.size + 1 + 1 = g := ⟨_, rfl⟩
  have HGB : Hid (W.heap.size = g) := Lib.hid (by rw [hsz, hgg])
  have HD : Hid (D.length = k ∧ (∀ X : World, W.grownBy X none → ∀ j u, (rowOf D)[j]? = some u → X.cell? ((⟨tb, to, none⟩ : Addr).add j) = some u) ∧ (D.drop p).length = k - p ∧ (∀ X : World, W.grownBy X none → ∀ j u, (rowOf (D.drop p))[j]? = some u → X.cell? ((⟨tb, to + p, none⟩ : Addr).add j) = some u)) := Lib.hid ⟨hDl, fun X hX j u hu => by
    rw [add_at']; exact (HG.out.trans hX).cell (hD3 j u hu) (by simp), by rw [List.length_drop, hDl], fun X hX j u hu => by
    rw [add_at']
    rw [rowOf, List.map_drop, List.getElem?_drop] at hu
    have := (HG.out.trans hX).cell (hD3 (p + j) u hu) (by simp)
    rw [Nat.add_assoc]; exact this⟩
  clear hDl hD3 hsz
  go_enter Try.func32, Try.ntmps32
  go_wp2_with fail
  rw [HW.out]
  have hgV := World.grownBy_alloc W (.cells #[.slice sa n sc, .int .i64 st, .slice (some ⟨tb, to, none⟩) k tc, .int .i64 p] 33) none
  have hcV := four_cells W (.slice sa n sc) (.int .i64 st) (.slice (some ⟨tb, to, none⟩) k tc) (.int .i64 p) 33
  rw [HGB.out] at hcV
  have hszV : (W.alloc (.cells #[.slice sa n sc, .int .i64 st, .slice (some ⟨tb, to, none⟩) k tc, .int .i64 p] 33)).heap.size = g + 1 := by rw [World.size_alloc, HGB.out]
  have hfV : ∀ o, (W.alloc (.cells #[.slice sa n sc, .int .i64 st, .slice (some ⟨tb, to, none⟩) k tc, .int .i64 p] 33)).frozen? ⟨g, o, none⟩ = false := fun o => by have := fz_new W (.slice sa n sc) (.int .i64 st) (.slice (some ⟨tb, to, none⟩) k tc) (.int .i64 p) o; rw [HGB.out] at this; exact this
  obtain ⟨V, hV⟩ : ∃ V, W.alloc (.cells #[.slice sa n sc, .int .i64 st, .slice (some ⟨tb, to, none⟩) k tc, .int .i64 p] 33) = V := ⟨_, rfl⟩
  rw [hV] at hgV hcV hszV hfV ⊢
  clear hV HW
  have HGV := Lib.hid hgV; clear hgV
  have HY0 : Hid (W.grownBy (V.drew.alloc (.cells #[] 40)) none) := Lib.hid (HGV.out.trans (World.grownBy.trans (b := V.drew) ⟨rfl, rfl, rfl, Nat.le_refl _, fun _ _ _ => rfl⟩ (World.grownBy_alloc V.drew (.cells #[] 40) none)))
  have HO0 : Hid ((V.drew.alloc (.cells #[] 40)).ownsRow (g + 1) 40 1 (.slice (some ⟨V.drew.heap.size, 0, none⟩) 0 0) 0 []) := Lib.hid (World.ownsRow_made V.drew #[] 0 (Nat.le_of_eq hszV.symm) (Nat.zero_le _) rfl)
  have HB0 : Hid (g + 1 ≤ (V.drew.alloc (.cells #[] 40)).heap.size) := Lib.hid (by rw [World.size_alloc]; have : V.drew.heap.size = V.heap.size := rfl; omega)
  have HB2 : Hid (∀ x1 : World, (V.drew.alloc (.cells #[] 40)).heap.size ≤ x1.heap.size → g + 1 ≤ x1.heap.size) := Lib.hid (fun x1 h => Nat.le_trans HB0.out h)
  have HQ0 : Hid (Held4 (V.drew.alloc (.cells #[] 40)) g (.slice sa n sc) (.int .i64 st) (.slice (some ⟨tb, to, none⟩) k tc) (.int .i64 p)) := Lib.hid (Held4.off (X := V) ⟨hcV, hfV⟩ (World.grownBy.trans (b := V.drew) ⟨rfl, rfl, rfl, Nat.le_refl _, fun _ _ _ => rfl⟩ (World.grownBy_alloc V.drew (.cells #[] 40) none)) (fun x e => by cases e))
  clear hcV hszV hfV
  obtain ⟨m, hm⟩ : ∃ m, k + (k - p) = m := ⟨_, rfl⟩
  obtain ⟨⟨c0, c1, c2, c3⟩, d0, d1, d2, d3⟩ := hc
  have HDZ : Hid (Held4 W (w.heap.size + 1) (.slice none 0 0) (.int .i64 0) (.slice none 0 0) (.int .i64 0)) := Lib.hid ⟨⟨d0, d1, d2, d3⟩, hfz⟩
  clear hfz d0 d1 d2 d3
  have hsl := slice_suf (tb := tb) (to := to) hpk htc
  have a2q : ¬ (tc = p) := by omega
  have a3q : (p : Int) ≤ (k : Int) := by omega
  have HS := Lib.hid (fun (X : World) (hX : W.grownBy X none) => (⟨hX, hX.cell c0 (by simp), hX.cell c1 (by simp), hX.cell c2 (by simp), hX.cell c3 (by simp)⟩ : (fun X : World => W.grownBy X none ∧ X.cell? ⟨w.heap.size, 0, none⟩ = some (.slice sa n sc) ∧ X.cell? ⟨w.heap.size, 1, none⟩ = some (.int .i64 st) ∧ X.cell? ⟨w.heap.size, 2, none⟩ = some (.slice (some ⟨tb, to, none⟩) k tc) ∧ X.cell? ⟨w.heap.size, 3, none⟩ = some (.int .i64 p)) X))
  have hdr : V.grownBy V.drew none := ⟨rfl, rfl, rfl, Nat.le_refl _, fun _ _ _ => rfl⟩
  refine wp_region_held_drew (S := (fun X : World => W.grownBy X none ∧ X.cell? ⟨w.heap.size, 0, none⟩ = some (.slice sa n sc) ∧ X.cell? ⟨w.heap.size, 1, none⟩ = some (.int .i64 st) ∧ X.cell? ⟨w.heap.size, 2, none⟩ = some (.slice (some ⟨tb, to, none⟩) k tc) ∧ X.cell? ⟨w.heap.size, 3, none⟩ = some (.int .i64 p))) (by kernel_rfl) (HS.out _ (HGV.out.trans hdr)) (fun hHeld => ?_)
  refine wpAnyH_take (i := 1) (oi := { dst := some 6, op := Op.fieldAddr 33 (Operand.tmp 1) 1, type := 0, pos := "law.go:87", after := #[], guard := none }) (v := ?_) rfl (by kernel_rfl) (by kernel_rfl) (by kernel_rfl) (fun _ _ _ h => h) (Or.inl ⟨by rfl, ?_⟩) (by assumption) ?_
  rotate_left 1
  · (intro W hSW; (try dsimp only at hSW); first | (go_simp; done) | (go_simp; with_reducible rfl))
  try simp only [Act.put, List.setIfInBounds_toArray, List.set_cons_zero, List.set_cons_succ]
  refine wpAnyH_take (i := 2) (oi := { dst := some 7, op := Op.load 31 (Operand.tmp 6), type := 31, pos := "law.go:87", after := #[{ on := 1, ground := Ground.data }], guard := none }) (v := ?_) rfl (by kernel_rfl) (by kernel_rfl) (by kernel_rfl) (fun _ _ _ h => h) (Or.inl ⟨by rfl, ?_⟩) (by assumption) ?_
  rotate_left 1
  · (intro W hSW; (try dsimp only at hSW); first | (go_simp; done) | (go_simp; with_reducible rfl))
  try simp only [Act.put, List.setIfInBounds_toArray, List.set_cons_zero, List.set_cons_succ]
  refine wpAnyH_take (i := 4) (oi := { dst := some 9, op := Op.fieldAddr 33 (Operand.tmp 1) 1, type := 0, pos := "law.go:87", after := #[], guard := none }) (v := ?_) rfl (by kernel_rfl) (by kernel_rfl) (by kernel_rfl) (fun _ _ _ h => h) (Or.inl ⟨by rfl, ?_⟩) (by assumption) ?_
  rotate_left 1
  · (intro W hSW; (try dsimp only at hSW); first | (go_simp; done) | (go_simp; with_reducible rfl))
  try simp only [Act.put, List.setIfInBounds_toArray, List.set_cons_zero, List.set_cons_succ]
  refine wpAnyH_take (i := 5) (oi := { dst := some 10, op := Op.load 31 (Operand.tmp 9), type := 31, pos := "law.go:87", after := #[{ on := 4, ground := Ground.data }], guard := none }) (v := ?_) rfl (by kernel_rfl) (by kernel_rfl) (by kernel_rfl) (fun _ _ _ h => h) (Or.inl ⟨by rfl, ?_⟩) (by assumption) ?_
  rotate_left 1
  · (intro W hSW; (try dsimp only at hSW); first | (go_simp; done) | (go_simp; with_reducible rfl))
  try simp only [Act.put, List.setIfInBounds_toArray, List.set_cons_zero, List.set_cons_succ]
  refine wpAnyH_take (i := 6) (oi := { dst := some 11, op := Op.fieldAddr 33 (Operand.tmp 1) 2, type := 0, pos := "law.go:87", after := #[], guard := none }) (v := ?_) rfl (by kernel_rfl) (by kernel_rfl) (by kernel_rfl) (fun _ _ _ h => h) (Or.inl ⟨by rfl, ?_⟩) (by assumption) ?_
  rotate_left 1
  · (intro W hSW; (try dsimp only at hSW); first | (go_simp; done) | (go_simp; with_reducible rfl))
  try simp only [Act.put, List.setIfInBounds_toArray, List.set_cons_zero, List.set_cons_succ]
  refine wpAnyH_take (i := 7) (oi := { dst := some 12, op := Op.load 3 (Operand.tmp 11), type := 3, pos := "law.go:87", after := #[{ on := 6, ground := Ground.data }], guard := none }) (v := ?_) rfl (by kernel_rfl) (by kernel_rfl) (by kernel_rfl) (fun _ _ _ h => h) (Or.inl ⟨by rfl, ?_⟩) (by assumption) ?_
  rotate_left 1
  · (intro W hSW; (try dsimp only at hSW); first | (go_simp; done) | (go_simp; with_reducible rfl))
  try simp only [Act.put, List.setIfInBounds_toArray, List.set_cons_zero, List.set_cons_succ]
  refine wpAnyH_take (i := 8) (oi := { dst := some 13, op := Op.slice 31 (Operand.tmp 10) (some (Operand.tmp 12)) none none, type := 31, pos := "law.go:87", after := #[{ on := 5, ground := Ground.data }, { on := 7, ground := Ground.data }], guard := none }) (v := ?_) rfl (by kernel_rfl) (by kernel_rfl) (by kernel_rfl) (fun _ _ _ h => h) (Or.inl ⟨by rfl, ?_⟩) (by assumption) ?_
  rotate_left 1
  · (intro W hSW; (try dsimp only at hSW); first | (go_simp; done) | (go_simp; with_reducible rfl))
  try simp only [Act.put, List.setIfInBounds_toArray, List.set_cons_zero, List.set_cons_succ]
  refine wpAnyH_ready (rs := [0]) (by kernel_rfl) (by simp) ?_
  refine AllReadyH.cons (o := { dst := some 5, op := Op.buildSlice 31 0 #[], type := 31, pos := "law.go:87", after := #[], guard := none }) rfl (fun K hK => ?_) AllReadyH.nil
  rw [if_pos (by rfl)]
  go_simp
  refine hK.out _ _ (HS.out _ (HGV.out.trans (World.grownBy.trans hdr (World.grownBy_alloc V.drew (.cells #[] 40) none)))) (fun hHeld => ?_)
  clear hK K
  try simp only [Act.put, List.setIfInBounds_toArray, List.set_cons_zero, List.set_cons_succ]
  refine wpAnyH_ready (rs := [3]) (by kernel_rfl) (by simp) ?_
  refine AllReadyH.cons (o := { dst := some 8, op := Op.call { callee := Callee.builtin Builtin.append, args := #[Operand.tmp 5, Operand.tmp 7], argTypes := #[31, 31] }, type := 31, pos := "law.go:87", after := #[{ on := 0, ground := Ground.data }, { on := 2, ground := Ground.data }], guard := none }) rfl (fun K hK => ?_) AllReadyH.nil
  refine ready_spread rfl _ _ rfl (g + 1) (.slice (some ⟨V.drew.heap.size, 0, none⟩) 0 0) 0 [] rfl HO0.out ⟨tb, to, none⟩ k tc D rfl HD.out.1 (HD.out.2.1 _ HY0.out) (by omega) HB0.out (fun v1 x1 h1 hg1 => ?_)
  have HQ1 := Lib.hid (HQ0.out.off hg1 (fun x hx => by have := (HO0.out.lt x hx).1; omega))
  have hz1 := hg1.size
  have HZ1 := Lib.hid (HB2.out x1 hz1); clear hz1
  have HX1 := Lib.hid (And.intro (grown_own HY0.out hg1 (fun x hx => by have := (HO0.out.lt x hx).1; have := HGB.out; omega)) h1); clear hg1
  rw [Nat.zero_add, List.nil_append] at h1 HX1
  obtain ⟨va, vc, rfl⟩ := own_shape h1
  clear h1
  refine hK.out _ _ (HS.out _ HX1.out.1) (fun hHeld => ?_)
  clear hK K
  try simp only [Act.put, List.setIfInBounds_toArray, List.set_cons_zero, List.set_cons_succ]
  refine wpAnyH_ready (rs := [9]) (by kernel_rfl) (by simp) ?_
  refine AllReadyH.cons (o := { dst := some 14, op := Op.call { callee := Callee.builtin Builtin.append, args := #[Operand.tmp 8, Operand.tmp 13], argTypes := #[31, 31] }, type := 31, pos := "law.go:87", after := #[{ on := 3, ground := Ground.data }, { on := 8, ground := Ground.data }, { on := 3, ground := Ground.chain }], guard := none }) rfl (fun K hK => ?_) AllReadyH.nil
  refine ready_spread rfl _ _ rfl (g + 1) (.slice va k vc) k (rowOf D) rfl HX1.out.2 ⟨tb, to + p, none⟩ (k - p) (tc - p) (D.drop p) rfl HD.out.2.2.1 (HD.out.2.2.2 _ HX1.out.1) (by omega) HZ1.out (fun v2 x2 h2 hg2 => ?_)
  have HQ2 := Lib.hid (HQ1.out.off hg2 (fun x hx => by have := (HX1.out.2.lt x hx).1; omega))
  rw [hm] at h2
  have HX2 := Lib.hid (And.intro (grown_own HX1.out.1 hg2 (fun x hx => by have := (HX1.out.2.lt x hx).1; have := HGB.out; omega)) h2); clear hg2
  obtain ⟨va2, vc2, rfl⟩ := own_shape h2
  clear h2
  refine hK.out _ _ (HS.out _ HX2.out.1) (fun hHeld => ?_)
  clear hK K
  try simp only [Act.put, List.setIfInBounds_toArray, List.set_cons_zero, List.set_cons_succ]
  refine wpAnyH_take (i := 10) (oi := { dst := some 15, op := Op.fieldAddr 33 (Operand.tmp 3) 1, type := 0, pos := "law.go:87", after := #[{ on := 0, ground := Ground.phase }, { on := 1, ground := Ground.phase }, { on := 2, ground := Ground.phase }, { on := 3, ground := Ground.phase }, { on := 4, ground := Ground.phase }, { on := 5, ground := Ground.phase }, { on := 6, ground := Ground.phase }, { on := 7, ground := Ground.phase }, { on := 8, ground := Ground.phase }, { on := 9, ground := Ground.phase }], guard := none }) (v := ?_) rfl (by kernel_rfl) (by kernel_rfl) (by kernel_rfl) (fun _ _ _ h => h) (Or.inl ⟨by rfl, ?_⟩) (by assumption) ?_
  rotate_left 1
  · (intro W hSW; (try dsimp only at hSW); first | (go_simp; done) | (go_simp; with_reducible rfl))
  try simp only [Act.put, List.setIfInBounds_toArray, List.set_cons_zero, List.set_cons_succ]
  refine wpAnyH_ready (rs := [11]) (by kernel_rfl) (by simp) ?_
  refine AllReadyH.cons (o := { dst := none, op := Op.store 31 (Operand.tmp 15) (Operand.tmp 14), type := 0, pos := "law.go:87", after := #[{ on := 10, ground := Ground.data }, { on := 9, ground := Ground.data }, { on := 9, ground := Ground.chain }, { on := 0, ground := Ground.phase }, { on := 1, ground := Ground.phase }, { on := 2, ground := Ground.phase }, { on := 3, ground := Ground.phase }, { on := 4, ground := Ground.phase }, { on := 5, ground := Ground.phase }, { on := 6, ground := Ground.phase }, { on := 7, ground := Ground.phase }, { on := 8, ground := Ground.phase }, { on := 9, ground := Ground.phase }], guard := none }) rfl (fun K hK => ?_) AllReadyH.nil
  rw [if_pos (by rfl)]
  obtain ⟨⟨zc0, zc1, zc2, zc3⟩, zf⟩ := HQ2.out
  have zf2 := zf 2
  clear zf
  go_simp
  refine hK.out _ _ (HS.out _ (grown_own HX2.out.1 (grown_set x2 g 2 (.slice va2 m vc2)) (fun x hx => by cases hx; exact Nat.le_of_eq HGB.out))) (fun hHeld => ?_)
  clear hK K
  try simp only [Act.put, List.setIfInBounds_toArray, List.set_cons_zero, List.set_cons_succ]
  refine wpAnyH_done (by kernel_rfl) ?_ _
  have hEND := hdr
  clear hHeld
  clear hEND hdr hsl a2q a3q c0 c1 c2 c3 zc0 zc1 zc2 zc3 zf2
  have HX3 := Lib.hid (grown_own HX2.out.1 (grown_set x2 g 2 (.slice va2 m vc2)) (fun x hx => by cases hx; exact Nat.le_of_eq HGB.out))
  have HQ3 := Lib.hid (HQ2.out.set2 (.slice va2 m vc2))
  have HR3 : Hid (∃ c, (∃ a, Value.slice va2 m vc2 = .slice a m c) ∧ True) := Lib.hid ⟨vc2, ⟨va2, rfl⟩, trivial⟩
  have hgne : w.heap.size + 1 ≠ g := by omega
  obtain ⟨X3, hX3⟩ : ∃ X3, x2.setCell ⟨g, 2, none⟩ (.slice va2 m vc2) = X3 := ⟨_, rfl⟩
  have HS2 := Lib.hid hX3
  rw [hX3] at HX3 HQ3 ⊢
  clear hX3
  obtain ⟨⟨e0, e1, e2, e3⟩, ef⟩ := HQ3.out
  have ef1 := ef 1
  clear ef
  have HDZ3 : Hid (Held4 (X3.setCell ⟨g, 1, none⟩ (.int .i64 m)) (w.heap.size + 1) (.slice none 0 0) (.int .i64 0) (.slice none 0 0) (.int .i64 0)) := Lib.hid (Held4.off (Held4.off HDZ.out HX3.out (fun x e => by cases e)) (grown_set X3 g 1 (.int .i64 m)) (fun x hx => by cases hx; omega))
  obtain ⟨⟨d0, d1, d2, d3⟩, df⟩ := HDZ3.out
  have z0 := df 0
  have z1 := df 1
  have z2 := df 2
  have z3 := df 3
  clear df
  go_wp2_with fail
  have hrow : X3.ownsRow (g + 1) 40 1 (.slice va2 m vc2) m (rowOf D ++ rowOf (D.drop p)) := by rw [← HS2.out]; exact HX2.out.2.kept (grown_set x2 g 2 _) (own_ne HX2.out.2 (by omega))
  have hrow4 := hrow.kept (grown_set X3 g 1 (.int .i64 m)) (own_ne hrow (by omega))
  obtain ⟨q0, q1, q2, q3, qg⟩ := four_sets (.slice sa n sc) (.int .i64 m) (.slice va2 m vc2) (.int .i64 p) d0 d1 d2 d3
  have hrow5 := hrow4.kept qg (own_ne hrow4 (by omega))
  rw [show rowOf D ++ rowOf (D.drop p) = rowOf (D ++ D.drop p) from by rw [rowOf, rowOf, rowOf, List.map_append]] at hrow5
  have hgf := grown_own (grown_own (HG.out.trans HX3.out) (grown_set X3 g 1 (.int .i64 m)) (fun x hx => by cases hx; omega)) qg (fun x hx => by cases hx; omega)
  refine bodyPost_ret (results32 _ _ (w.heap.size + 1) sa n sc va2 m vc2 m p rfl q0 q1 q2 q3) rfl ⟨va2, vc2, by rw [hm], by rw [hm, hgg]; exact hrow5, hgf⟩

theorem results33 (tmps : Array Value) (w : World) (b : Nat) (a : Option Addr) (n c : Nat) (a2 : Option Addr) (n2 c2 : Nat) (x y : Int) (ht : tmps.getD 2 undef = .pointer (some ⟨b, 0, none⟩)) (h0 : w.cell? ⟨b, 0, none⟩ = some (.slice a n c)) (h1 : w.cell? ⟨b, 1, none⟩ = some (.int .i64 x))
    (h2 : w.cell? ⟨b, 2, none⟩ = some (.slice a2 n2 c2)) (h3 : w.cell? ⟨b, 3, none⟩ = some (.int .i64 y)) :
    (results Try.f33 tmps).run Try.prog w = .ok (.agg #[.slice a n c, .int .i64 x, .slice a2 n2 c2, .int .i64 y]) w := by
  have ht' : tmps[2]?.getD undef = .pointer (some ⟨b, 0, none⟩) := by simpa using ht
  simp [results, ht', go_sem, h0, h1, h2, h3, Result.andThen]

set_option maxRecDepth 100000 in
set_option maxHeartbeats 8000000 in
theorem shifted_calls (n : Nat) (sa : Option Addr) (sc : Nat) (st : Int) (tb to : Nat) (L : List (List Rl)) (D : List Ds) (tc p : Nat) (w : World) (hD1 : D.map (·.1) = L) (hD3 : ∀ (j : Nat) (u : Value), (rowOf D)[j]? = some u → w.cell? ⟨tb, to + j, none⟩ = some u) (htc0 : L.length ≤ tc) (hpk : p < L.length) (hk64 : L.length ≤ 64) :
    Calls Try.prog 33 #[.agg #[.slice sa n sc, .int .i64 st, .slice (some ⟨tb, to, none⟩) L.length tc, .int .i64 (p : Int)]] w fun e w' =>
      ∃ a c, e = .returned (.agg #[.slice sa n sc, .int .i64 (L.length + 1 : Nat), .slice a (L.length + 1) c, .int .i64 (p + 1 : Nat)]) ∧ w'.ownsRow (w.heap.size + 1 + 1 + 1) 40 1 (.slice a (L.length + 1) c) (L.length + 1) (rowOf (D ++ [D.getD p ([], none, 0)])) ∧ w.grownBy w' none := by
  obtain ⟨k, hk⟩ : ∃ k, L.length = k := ⟨_, rfl⟩
  have hDl : D.length = k := by rw [← hk, ← hD1, List.length_map]
  have htc : k ≤ tc := by omega
  rw [hk] at hpk hk64 ⊢
  have hg := (World.grownBy_alloc w (.cells #[.slice sa n sc, .int .i64 st, .slice (some ⟨tb, to, none⟩) k tc, .int .i64 p] 33) none).trans (World.grownBy_alloc (w.alloc (.cells #[.slice sa n sc, .int .i64 st, .slice (some ⟨tb, to, none⟩) k tc, .int .i64 p] 33)) (.cells #[.slice none 0 0, .int .i64 0, .slice none 0 0, .int .i64 0] 33) none)
  have hc := eight_cells w (.slice sa n sc) (.int .i64 st) (.slice (some ⟨tb, to, none⟩) k tc) (.int .i64 p) (.slice none 0 0) (.int .i64 0) (.slice none 0 0) (.int .i64 0) 33 33
  have hsz : ((w.alloc (.cells #[.slice sa n sc, .int .i64 st, .slice (some ⟨tb, to, none⟩) k tc, .int .i64 p] 33)).alloc (.cells #[.slice none 0 0, .int .i64 0, .slice none 0 0, .int .i64 0] 33)).heap.size = w.heap.size + 1 + 1 := by simp
  have hfz : ∀ o, ((w.alloc (.cells #[.slice sa n sc, .int .i64 st, .slice (some ⟨tb, to, none⟩) k tc, .int .i64 p] 33)).alloc (.cells #[.slice none 0 0, .int .i64 0, .slice none 0 0, .int .i64 0] 33)).frozen? ⟨w.heap.size + 1, o, none⟩ = false := fun o => by go_simp
  obtain ⟨W, hW⟩ : ∃ W, (w.alloc (.cells #[.slice sa n sc, .int .i64 st, .slice (some ⟨tb, to, none⟩) k tc, .int .i64 p] 33)).alloc (.cells #[.slice none 0 0, .int .i64 0, .slice none 0 0, .int .i64 0] 33) = W := ⟨_, rfl⟩
  rw [hW] at hg hc hsz hfz
  have HW := Lib.hid hW; clear hW
  have HG := Lib.hid hg; clear hg
  clear hk hD1 htc0
  obtain ⟨g, hgg⟩ : ∃ g, w.heap.size + 1 + 1 = g := ⟨_, rfl⟩
  have HGB : Hid (W.heap.size = g) := Lib.hid (by rw [hsz, hgg])
  have HD : Hid (D.length = k ∧ (∀ X : World, W.grownBy X none → ∀ j u, (rowOf D)[j]? = some u → X.cell? ((⟨tb, to, none⟩ : Addr).add j) = some u)) := Lib.hid ⟨hDl, fun X hX j u hu => by
    rw [add_at']; exact (HG.out.trans hX).cell (hD3 j u hu) (by simp)⟩
  obtain ⟨⟨lq, pa, pc⟩, hdp⟩ : ∃ d, D[p]? = some d := ⟨_, List.getElem?_eq_getElem (by rw [hDl]; exact hpk)⟩
  obtain ⟨pn, hpn⟩ : ∃ pn, lq.length = pn := ⟨_, rfl⟩
  have HPN : Hid (rowOf [(lq, pa, pc)] = [.slice pa pn pc]) := Lib.hid (by rw [← hpn]; rfl)
  have hcp := hD3 p (.slice pa pn pc) (by rw [rowOf, List.getElem?_map, hdp, ← hpn]; rfl)
  have cpW := HG.out.cell hcp (by simp)
  have HDP := Lib.hid hdp; clear hdp hpn hcp
  clear hDl hD3 hsz
  go_enter Try.func33, Try.ntmps33
  go_wp2_with fail
  rw [HW.out]
  have hgV := World.grownBy_alloc W (.cells #[.slice sa n sc, .int .i64 st, .slice (some ⟨tb, to, none⟩) k tc, .int .i64 p] 33) none
  have hcV := four_cells W (.slice sa n sc) (.int .i64 st) (.slice (some ⟨tb, to, none⟩) k tc) (.int .i64 p) 33
  rw [HGB.out] at hcV
  have hszV : (W.alloc (.cells #[.slice sa n sc, .int .i64 st, .slice (some ⟨tb, to, none⟩) k tc, .int .i64 p] 33)).heap.size = g + 1 := by rw [World.size_alloc, HGB.out]
  have hfV : ∀ o, (W.alloc (.cells #[.slice sa n sc, .int .i64 st, .slice (some ⟨tb, to, none⟩) k tc, .int .i64 p] 33)).frozen? ⟨g, o, none⟩ = false := fun o => by have := fz_new W (.slice sa n sc) (.int .i64 st) (.slice (some ⟨tb, to, none⟩) k tc) (.int .i64 p) o; rw [HGB.out] at this; exact this
  obtain ⟨V, hV⟩ : ∃ V, W.alloc (.cells #[.slice sa n sc, .int .i64 st, .slice (some ⟨tb, to, none⟩) k tc, .int .i64 p] 33) = V := ⟨_, rfl⟩
  rw [hV] at hgV hcV hszV hfV ⊢
  clear hV HW
  have HGV := Lib.hid hgV; clear hgV
  have HC0 : Hid (W.grownBy V.drew none ∧ Held4 V.drew g (.slice sa n sc) (.int .i64 st) (.slice (some ⟨tb, to, none⟩) k tc) (.int .i64 p) ∧ g + 1 ≤ V.drew.heap.size) := Lib.hid ⟨HGV.out.trans ⟨rfl, rfl, rfl, Nat.le_refl _, fun _ _ _ => rfl⟩, Held4.off (X := V) ⟨hcV, hfV⟩ ⟨rfl, rfl, rfl, Nat.le_refl _, fun _ _ _ => rfl⟩ (r := none) (fun x e => by cases e), Nat.le_of_eq hszV.symm⟩
  clear hcV hszV hfV
  obtain ⟨⟨c0, c1, c2, c3⟩, d0, d1, d2, d3⟩ := hc
  have HDZ : Hid (Held4 W (w.heap.size + 1) (.slice none 0 0) (.int .i64 0) (.slice none 0 0) (.int .i64 0)) := Lib.hid ⟨⟨d0, d1, d2, d3⟩, hfz⟩
  clear hfz d0 d1 d2 d3
  have HCB := Lib.hid c3
  have cp := cpW
  clear cpW
  have hpkI : (p : Int) < (k : Int) := by omega
  have HS := Lib.hid (fun (X : World) (hX : W.grownBy X none) => (⟨hX, hX.cell c0 (by simp), hX.cell c1 (by simp), hX.cell c2 (by simp), hX.cell c3 (by simp), hX.cell cp (by simp)⟩ : (fun X : World => W.grownBy X none ∧ X.cell? ⟨w.heap.size, 0, none⟩ = some (.slice sa n sc) ∧ X.cell? ⟨w.heap.size, 1, none⟩ = some (.int .i64 st) ∧ X.cell? ⟨w.heap.size, 2, none⟩ = some (.slice (some ⟨tb, to, none⟩) k tc) ∧ X.cell? ⟨w.heap.size, 3, none⟩ = some (.int .i64 p) ∧ X.cell? ⟨tb, to + p, none⟩ = some (.slice pa pn pc)) X))
  refine wp_region_held_drew (S := (fun X : World => W.grownBy X none ∧ X.cell? ⟨w.heap.size, 0, none⟩ = some (.slice sa n sc) ∧ X.cell? ⟨w.heap.size, 1, none⟩ = some (.int .i64 st) ∧ X.cell? ⟨w.heap.size, 2, none⟩ = some (.slice (some ⟨tb, to, none⟩) k tc) ∧ X.cell? ⟨w.heap.size, 3, none⟩ = some (.int .i64 p) ∧ X.cell? ⟨tb, to + p, none⟩ = some (.slice pa pn pc))) (by kernel_rfl) (HS.out _ HC0.out.1) (fun hHeld => ?_)
  refine wpAnyH_take (i := 1) (oi := { dst := some 6, op := Op.fieldAddr 33 (Operand.tmp 1) 1, type := 0, pos := "law.go:95", after := #[], guard := none }) (v := ?_) rfl (by kernel_rfl) (by kernel_rfl) (by kernel_rfl) (fun _ _ _ h => h) (Or.inl ⟨by rfl, ?_⟩) (by assumption) ?_
  rotate_left 1
  · (intro W hSW; (try dsimp only at hSW); first | (go_simp; done) | (go_simp; with_reducible rfl))
  try simp only [Act.put, List.setIfInBounds_toArray, List.set_cons_zero, List.set_cons_succ]
  refine wpAnyH_take (i := 2) (oi := { dst := some 7, op := Op.load 31 (Operand.tmp 6), type := 31, pos := "law.go:95", after := #[{ on := 1, ground := Ground.data }], guard := none }) (v := ?_) rfl (by kernel_rfl) (by kernel_rfl) (by kernel_rfl) (fun _ _ _ h => h) (Or.inl ⟨by rfl, ?_⟩) (by assumption) ?_
  rotate_left 1
  · (intro W hSW; (try dsimp only at hSW); first | (go_simp; done) | (go_simp; with_reducible rfl))
  try simp only [Act.put, List.setIfInBounds_toArray, List.set_cons_zero, List.set_cons_succ]
  refine wpAnyH_take (i := 4) (oi := { dst := some 9, op := Op.fieldAddr 33 (Operand.tmp 1) 1, type := 0, pos := "law.go:95", after := #[], guard := none }) (v := ?_) rfl (by kernel_rfl) (by kernel_rfl) (by kernel_rfl) (fun _ _ _ h => h) (Or.inl ⟨by rfl, ?_⟩) (by assumption) ?_
  rotate_left 1
  · (intro W hSW; (try dsimp only at hSW); first | (go_simp; done) | (go_simp; with_reducible rfl))
  try simp only [Act.put, List.setIfInBounds_toArray, List.set_cons_zero, List.set_cons_succ]
  refine wpAnyH_take (i := 5) (oi := { dst := some 10, op := Op.load 31 (Operand.tmp 9), type := 31, pos := "law.go:95", after := #[{ on := 4, ground := Ground.data }], guard := none }) (v := ?_) rfl (by kernel_rfl) (by kernel_rfl) (by kernel_rfl) (fun _ _ _ h => h) (Or.inl ⟨by rfl, ?_⟩) (by assumption) ?_
  rotate_left 1
  · (intro W hSW; (try dsimp only at hSW); first | (go_simp; done) | (go_simp; with_reducible rfl))
  try simp only [Act.put, List.setIfInBounds_toArray, List.set_cons_zero, List.set_cons_succ]
  refine wpAnyH_take (i := 6) (oi := { dst := some 11, op := Op.fieldAddr 33 (Operand.tmp 1) 2, type := 0, pos := "law.go:95", after := #[], guard := none }) (v := ?_) rfl (by kernel_rfl) (by kernel_rfl) (by kernel_rfl) (fun _ _ _ h => h) (Or.inl ⟨by rfl, ?_⟩) (by assumption) ?_
  rotate_left 1
  · (intro W hSW; (try dsimp only at hSW); first | (go_simp; done) | (go_simp; with_reducible rfl))
  try simp only [Act.put, List.setIfInBounds_toArray, List.set_cons_zero, List.set_cons_succ]
  refine wpAnyH_take (i := 7) (oi := { dst := some 12, op := Op.load 3 (Operand.tmp 11), type := 3, pos := "law.go:95", after := #[{ on := 6, ground := Ground.data }], guard := none }) (v := ?_) rfl (by kernel_rfl) (by kernel_rfl) (by kernel_rfl) (fun _ _ _ h => h) (Or.inl ⟨by rfl, ?_⟩) (by assumption) ?_
  rotate_left 1
  · (intro W hSW; (try dsimp only at hSW); first | (go_simp; done) | (go_simp; with_reducible rfl))
  try simp only [Act.put, List.setIfInBounds_toArray, List.set_cons_zero, List.set_cons_succ]
  refine wpAnyH_take (i := 8) (oi := { dst := some 13, op := Op.indexAddr 31 (Operand.tmp 10) (Operand.tmp 12), type := 0, pos := "law.go:95", after := #[{ on := 5, ground := Ground.data }, { on := 7, ground := Ground.data }], guard := none }) (v := ?_) rfl (by kernel_rfl) (by kernel_rfl) (by kernel_rfl) (fun _ _ _ h => h) (Or.inl ⟨by rfl, ?_⟩) (by assumption) ?_
  rotate_left 1
  · (intro W hSW; (try dsimp only at hSW); first | (go_simp; done) | (go_simp; with_reducible rfl))
  try simp only [Act.put, List.setIfInBounds_toArray, List.set_cons_zero, List.set_cons_succ]
  refine wpAnyH_take (i := 9) (oi := { dst := some 14, op := Op.load 40 (Operand.tmp 13), type := 40, pos := "law.go:95", after := #[{ on := 8, ground := Ground.data }], guard := none }) (v := ?_) rfl (by kernel_rfl) (by kernel_rfl) (by kernel_rfl) (fun _ _ _ h => h) (Or.inl ⟨by rfl, ?_⟩) (by assumption) ?_
  rotate_left 1
  · (intro W hSW; (try dsimp only at hSW); first | (go_simp; done) | (go_simp; with_reducible rfl))
  try simp only [Act.put, List.setIfInBounds_toArray, List.set_cons_zero, List.set_cons_succ]
  refine wpAnyH_ready (rs := [0, 10]) (by kernel_rfl) (by simp) ?_
  refine (AllReadyH.cons (o := { dst := some 5, op := Op.buildSlice 31 0 #[], type := 31, pos := "law.go:95", after := #[], guard := none }) rfl (fun K hK => ?_) (AllReadyH.cons (o := { dst := some 15, op := Op.buildSlice 31 1 #[(0, Operand.tmp 14)], type := 31, pos := "law.go:95", after := #[{ on := 9, ground := Ground.data }], guard := none }) rfl (fun K hK => ?_) AllReadyH.nil))
  · rw [if_pos (by rfl)]
    go_simp
    have HC1 : Hid (W.grownBy (V.drew.alloc (.cells #[] 40)) none ∧ Held4 (V.drew.alloc (.cells #[] 40)) g (.slice sa n sc) (.int .i64 st) (.slice (some ⟨tb, to, none⟩) k tc) (.int .i64 p) ∧ g + 1 ≤ (V.drew.alloc (.cells #[] 40)).heap.size) := Lib.hid ⟨HC0.out.1.trans (World.grownBy_alloc V.drew (.cells #[] 40) none), HC0.out.2.1.off (World.grownBy_alloc V.drew (.cells #[] 40) none) (fun x e => by cases e), by rw [World.size_alloc]; have := HC0.out.2.2; omega⟩
    have HO1 : Hid ((V.drew.alloc (.cells #[] 40)).ownsRow (g + 1) 40 1 (.slice (some ⟨V.heap.size, 0, none⟩) 0 0) 0 []) := Lib.hid (by have h := World.ownsRow_made (e := 40) (size := 1) V.drew #[] 0 HC0.out.2.2 (Nat.zero_le _) rfl; (try rw [World.size_alloc] at h); exact h)
    refine hK.out _ _ (HS.out _ HC1.out.1) (fun hHeld => ?_)
    clear hK K
    try simp only [Act.put, List.setIfInBounds_toArray, List.set_cons_zero, List.set_cons_succ]
    refine wpAnyH_ready (rs := [3, 10]) (by kernel_rfl) (by simp) ?_
    refine (AllReadyH.cons (o := { dst := some 8, op := Op.call { callee := Callee.builtin Builtin.append, args := #[Operand.tmp 5, Operand.tmp 7], argTypes := #[31, 31] }, type := 31, pos := "law.go:95", after := #[{ on := 0, ground := Ground.data }, { on := 2, ground := Ground.data }], guard := none }) rfl (fun K hK => ?_) (AllReadyH.cons (o := { dst := some 15, op := Op.buildSlice 31 1 #[(0, Operand.tmp 14)], type := 31, pos := "law.go:95", after := #[{ on := 9, ground := Ground.data }], guard := none }) rfl (fun K hK => ?_) AllReadyH.nil))
    · refine ready_spread rfl _ _ rfl (g + 1) (.slice (some ⟨V.heap.size, 0, none⟩) 0 0) 0 [] rfl HO1.out ⟨tb, to, none⟩ k tc D rfl HD.out.1 (HD.out.2 _ HC1.out.1) (by omega) HC1.out.2.2 (fun v1 x2 h1 hg1 => ?_)
      have HC2 : Hid (W.grownBy x2 none ∧ Held4 x2 g (.slice sa n sc) (.int .i64 st) (.slice (some ⟨tb, to, none⟩) k tc) (.int .i64 p) ∧ g + 1 ≤ x2.heap.size) := Lib.hid ⟨grown_own HC1.out.1 hg1 (fun y hy => by have := (HO1.out.lt y hy).1; have := HGB.out; omega), HC1.out.2.1.off hg1 (fun y hy => by have := (HO1.out.lt y hy).1; omega), Nat.le_trans HC1.out.2.2 hg1.size⟩
      clear hg1
      rw [Nat.zero_add, List.nil_append] at h1
      obtain ⟨va, vc, rfl⟩ := own_shape h1
      have HO2 := Lib.hid h1; clear h1
      refine hK.out _ _ (HS.out _ HC2.out.1) (fun hHeld => ?_)
      clear hK K
      try simp only [Act.put, List.setIfInBounds_toArray, List.set_cons_zero, List.set_cons_succ]
      refine wpAnyH_ready (rs := [10]) (by kernel_rfl) (by simp) ?_
      refine (AllReadyH.cons (o := { dst := some 15, op := Op.buildSlice 31 1 #[(0, Operand.tmp 14)], type := 31, pos := "law.go:95", after := #[{ on := 9, ground := Ground.data }], guard := none }) rfl (fun K hK => ?_) AllReadyH.nil)
      rw [if_pos (by rfl)]
      go_simp
      have HC3 : Hid (W.grownBy (x2.alloc (.cells #[.slice pa pn pc] 40)) none ∧ Held4 (x2.alloc (.cells #[.slice pa pn pc] 40)) g (.slice sa n sc) (.int .i64 st) (.slice (some ⟨tb, to, none⟩) k tc) (.int .i64 p) ∧ g + 1 ≤ (x2.alloc (.cells #[.slice pa pn pc] 40)).heap.size) := Lib.hid ⟨HC2.out.1.trans (World.grownBy_alloc x2 (.cells #[.slice pa pn pc] 40) none), HC2.out.2.1.off (World.grownBy_alloc x2 (.cells #[.slice pa pn pc] 40) none) (fun x e => by cases e), by rw [World.size_alloc]; have := HC2.out.2.2; omega⟩
      have HL3 : Hid ((x2.alloc (.cells #[.slice pa pn pc] 40)).cell? ⟨x2.heap.size, 0, none⟩ = some (.slice pa pn pc)) := Lib.hid (by have h := World.cell?_alloc_new x2 #[.slice pa pn pc] 40 0; (try rw [World.size_alloc] at h); exact h)
      have HO3 := Lib.hid (HO2.out.alloc (.cells #[.slice pa pn pc] 40))
      refine hK.out _ _ (HS.out _ HC3.out.1) (fun hHeld => ?_)
      clear hK K
      try simp only [Act.put, List.setIfInBounds_toArray, List.set_cons_zero, List.set_cons_succ]
      refine wpAnyH_ready (rs := [11]) (by kernel_rfl) (by simp) ?_
      refine (AllReadyH.cons (o := { dst := some 16, op := Op.call { callee := Callee.builtin Builtin.append, args := #[Operand.tmp 8, Operand.tmp 15], argTypes := #[31, 31] }, type := 31, pos := "law.go:95", after := #[{ on := 3, ground := Ground.data }, { on := 10, ground := Ground.data }, { on := 3, ground := Ground.chain }], guard := none }) rfl (fun K hK => ?_) AllReadyH.nil)
      refine ready_spread rfl _ _ rfl (g + 1) (.slice va k vc) k (rowOf D) rfl HO3.out ⟨x2.heap.size, 0, none⟩ 1 1 [(lq, pa, pc)] rfl rfl (fun j u hu => by
        match j, hu with
        | 0, hu =>
          rw [HPN.out] at hu
          simp at hu
          subst hu
          exact HL3.out) (by omega) HC3.out.2.2 (fun v2 x2 h2 hg2 => ?_)
      have HX2 := Lib.hid (And.intro (grown_own HC3.out.1 hg2 (fun y hy => by have := (HO3.out.lt y hy).1; have := HGB.out; omega)) h2)
      have HQ2 := Lib.hid (HC3.out.2.1.off hg2 (fun y hy => by have := (HO3.out.lt y hy).1; omega)); clear hg2
      obtain ⟨va2, vc2, rfl⟩ := own_shape h2
      clear h2
      refine hK.out _ _ (HS.out _ HX2.out.1) (fun hHeld => ?_)
      clear hK K
      try simp only [Act.put, List.setIfInBounds_toArray, List.set_cons_zero, List.set_cons_succ]
      refine wpAnyH_take (i := 12) (oi := { dst := some 17, op := Op.fieldAddr 33 (Operand.tmp 3) 1, type := 0, pos := "law.go:95", after := #[{ on := 0, ground := Ground.phase }, { on := 1, ground := Ground.phase }, { on := 2, ground := Ground.phase }, { on := 3, ground := Ground.phase }, { on := 4, ground := Ground.phase }, { on := 5, ground := Ground.phase }, { on := 6, ground := Ground.phase }, { on := 7, ground := Ground.phase }, { on := 8, ground := Ground.phase }, { on := 9, ground := Ground.phase }, { on := 10, ground := Ground.phase }, { on := 11, ground := Ground.phase }], guard := none }) (v := ?_) rfl (by kernel_rfl) (by kernel_rfl) (by kernel_rfl) (fun _ _ _ h => h) (Or.inl ⟨by rfl, ?_⟩) (by assumption) ?_
      rotate_left 1
      · (intro W hSW; (try dsimp only at hSW); first | (go_simp; done) | (go_simp; with_reducible rfl))
      try simp only [Act.put, List.setIfInBounds_toArray, List.set_cons_zero, List.set_cons_succ]
      refine wpAnyH_ready (rs := [13]) (by kernel_rfl) (by simp) ?_
      refine (AllReadyH.cons (o := { dst := none, op := Op.store 31 (Operand.tmp 17) (Operand.tmp 16), type := 0, pos := "law.go:95", after := #[{ on := 12, ground := Ground.data }, { on := 11, ground := Ground.data }, { on := 11, ground := Ground.chain }, { on := 0, ground := Ground.phase }, { on := 1, ground := Ground.phase }, { on := 2, ground := Ground.phase }, { on := 3, ground := Ground.phase }, { on := 4, ground := Ground.phase }, { on := 5, ground := Ground.phase }, { on := 6, ground := Ground.phase }, { on := 7, ground := Ground.phase }, { on := 8, ground := Ground.phase }, { on := 9, ground := Ground.phase }, { on := 10, ground := Ground.phase }, { on := 11, ground := Ground.phase }], guard := none }) rfl (fun K hK => ?_) AllReadyH.nil)
      rw [if_pos (by rfl)]
      obtain ⟨⟨zc0, zc1, zc2, zc3⟩, zf⟩ := HQ2.out
      have zf2 := zf 2
      clear zf
      go_simp
      refine hK.out _ _ (HS.out _ (grown_own HX2.out.1 (grown_set x2 g 2 (.slice va2 (k + 1) vc2)) (fun x hx => by cases hx; exact Nat.le_of_eq HGB.out))) (fun hHeld => ?_)
      clear hK K
      try simp only [Act.put, List.setIfInBounds_toArray, List.set_cons_zero, List.set_cons_succ]
      refine wpAnyH_done (by kernel_rfl) ?_ _
      clear hHeld c0 c1 c2 c3 cp zc0 zc1 zc2 zc3 zf2
      have HX3 := Lib.hid (grown_own HX2.out.1 (grown_set x2 g 2 (.slice va2 (k + 1) vc2)) (fun x hx => by cases hx; exact Nat.le_of_eq HGB.out))
      have HQ3 := Lib.hid (HQ2.out.set2 (.slice va2 (k + 1) vc2))
      have hgne : w.heap.size + 1 ≠ g := by omega
      obtain ⟨X3, hX3⟩ : ∃ X3, x2.setCell ⟨g, 2, none⟩ (.slice va2 (k + 1) vc2) = X3 := ⟨_, rfl⟩
      have HS2 := Lib.hid hX3
      rw [hX3] at HX3 HQ3 ⊢
      clear hX3
      obtain ⟨⟨e0, e1, e2, e3⟩, ef⟩ := HQ3.out
      have ef1 := ef 1
      have ef3 := ef 3
      clear ef
      have c3x := HX3.out.cell HCB.out (by simp)
      have HDZ3 : Hid (Held4 ((X3.setCell ⟨g, 3, none⟩ (.int .i64 ((p : Int) + 1))).setCell ⟨g, 1, none⟩ (.int .i64 ((k : Int) + 1))) (w.heap.size + 1) (.slice none 0 0) (.int .i64 0) (.slice none 0 0) (.int .i64 0)) := Lib.hid (Held4.off (Held4.off (Held4.off HDZ.out HX3.out (fun x e => by cases e)) (grown_set X3 g 3 (.int .i64 ((p : Int) + 1))) (fun x hx => by cases hx; omega)) (grown_set _ g 1 (.int .i64 ((k : Int) + 1))) (fun x hx => by cases hx; omega))
      obtain ⟨⟨d0, d1, d2, d3⟩, df⟩ := HDZ3.out
      have z0 := df 0
      have z1 := df 1
      have z2 := df 2
      have z3 := df 3
      clear df
      go_wp2_with fail
      have hrow : X3.ownsRow (g + 1) 40 1 (.slice va2 (k + 1) vc2) (k + 1) (rowOf D ++ rowOf [(lq, pa, pc)]) := by rw [← HS2.out]; exact HX2.out.2.kept (grown_set x2 g 2 _) (own_ne HX2.out.2 (by omega))
      have hrow3 := hrow.kept (grown_set X3 g 3 (.int .i64 ((p : Int) + 1))) (own_ne hrow (by omega))
      have hrow4 := hrow3.kept (grown_set _ g 1 (.int .i64 ((k : Int) + 1))) (own_ne hrow3 (by omega))
      obtain ⟨q0, q1, q2, q3, qg⟩ := four_sets (.slice sa n sc) (.int .i64 ((k : Int) + 1)) (.slice va2 (k + 1) vc2) (.int .i64 ((p : Int) + 1)) d0 d1 d2 d3
      have hrow5 := hrow4.kept qg (own_ne hrow4 (by omega))
      rw [show rowOf D ++ rowOf [(lq, pa, pc)] = rowOf (D ++ [(lq, pa, pc)]) from by rw [rowOf, rowOf, rowOf, List.map_append]] at hrow5
      have hgf := grown_own (grown_own (grown_own (HG.out.trans HX3.out) (grown_set X3 g 3 (.int .i64 ((p : Int) + 1))) (fun x hx => by cases hx; omega)) (grown_set _ g 1 (.int .i64 ((k : Int) + 1))) (fun x hx => by cases hx; omega)) qg (fun x hx => by cases hx; omega)
      have hgd : D.getD p ([], none, 0) = (lq, pa, pc) := by rw [List.getD_eq_getElem?_getD, HDP.out]; rfl
      exact bodyPost_ret (results33 _ _ (w.heap.size + 1) sa n sc va2 (k + 1) vc2 ((k : Int) + 1) ((p : Int) + 1) rfl q0 q1 q2 q3) rfl ⟨va2, vc2, by simp, by rw [hgg, hgd]; exact hrow5, hgf⟩
    · rw [if_pos (by rfl)]
      go_simp
      have HC6 : Hid (W.grownBy ((V.drew.alloc (.cells #[] 40)).alloc (.cells #[.slice pa pn pc] 40)) none ∧ Held4 ((V.drew.alloc (.cells #[] 40)).alloc (.cells #[.slice pa pn pc] 40)) g (.slice sa n sc) (.int .i64 st) (.slice (some ⟨tb, to, none⟩) k tc) (.int .i64 p) ∧ g + 1 ≤ ((V.drew.alloc (.cells #[] 40)).alloc (.cells #[.slice pa pn pc] 40)).heap.size) := Lib.hid ⟨HC1.out.1.trans (World.grownBy_alloc (V.drew.alloc (.cells #[] 40)) (.cells #[.slice pa pn pc] 40) none), HC1.out.2.1.off (World.grownBy_alloc (V.drew.alloc (.cells #[] 40)) (.cells #[.slice pa pn pc] 40) none) (fun x e => by cases e), by rw [World.size_alloc]; have := HC1.out.2.2; omega⟩
      have HL6 : Hid (((V.drew.alloc (.cells #[] 40)).alloc (.cells #[.slice pa pn pc] 40)).cell? ⟨V.heap.size + 1, 0, none⟩ = some (.slice pa pn pc)) := Lib.hid (by have h := World.cell?_alloc_new (V.drew.alloc (.cells #[] 40)) #[.slice pa pn pc] 40 0; (try rw [World.size_alloc] at h); exact h)
      have HO6 := Lib.hid (HO1.out.alloc (.cells #[.slice pa pn pc] 40))
      have HA6 : Hid (V.heap.size + 1 ≠ V.heap.size) := Lib.hid (by omega)
      refine hK.out _ _ (HS.out _ HC6.out.1) (fun hHeld => ?_)
      clear hK K
      try simp only [Act.put, List.setIfInBounds_toArray, List.set_cons_zero, List.set_cons_succ]
      refine wpAnyH_ready (rs := [3]) (by kernel_rfl) (by simp) ?_
      refine (AllReadyH.cons (o := { dst := some 8, op := Op.call { callee := Callee.builtin Builtin.append, args := #[Operand.tmp 5, Operand.tmp 7], argTypes := #[31, 31] }, type := 31, pos := "law.go:95", after := #[{ on := 0, ground := Ground.data }, { on := 2, ground := Ground.data }], guard := none }) rfl (fun K hK => ?_) AllReadyH.nil)
      refine ready_spread rfl _ _ rfl (g + 1) (.slice (some ⟨V.heap.size, 0, none⟩) 0 0) 0 [] rfl HO6.out ⟨tb, to, none⟩ k tc D rfl HD.out.1 (HD.out.2 _ HC6.out.1) (by omega) HC6.out.2.2 (fun v1 x7 h1 hg1 => ?_)
      have HC7 : Hid (W.grownBy x7 none ∧ Held4 x7 g (.slice sa n sc) (.int .i64 st) (.slice (some ⟨tb, to, none⟩) k tc) (.int .i64 p) ∧ g + 1 ≤ x7.heap.size) := Lib.hid ⟨grown_own HC6.out.1 hg1 (fun y hy => by have := (HO6.out.lt y hy).1; have := HGB.out; omega), HC6.out.2.1.off hg1 (fun y hy => by have := (HO6.out.lt y hy).1; omega), Nat.le_trans HC6.out.2.2 hg1.size⟩
      have HL7 : Hid (x7.cell? ⟨V.heap.size + 1, 0, none⟩ = some (.slice pa pn pc)) := Lib.hid (hg1.cell HL6.out (fun e => by first | (simp [Value.ownBlock] at e; done) | (simp [Value.ownBlock] at e; exact HA6.out e) | (simp [Value.ownBlock] at e; omega)))
      clear hg1
      rw [Nat.zero_add, List.nil_append] at h1
      obtain ⟨va, vc, rfl⟩ := own_shape h1
      have HO7 := Lib.hid h1; clear h1
      refine hK.out _ _ (HS.out _ HC7.out.1) (fun hHeld => ?_)
      clear hK K
      try simp only [Act.put, List.setIfInBounds_toArray, List.set_cons_zero, List.set_cons_succ]
      refine wpAnyH_ready (rs := [11]) (by kernel_rfl) (by simp) ?_
      refine (AllReadyH.cons (o := { dst := some 16, op := Op.call { callee := Callee.builtin Builtin.append, args := #[Operand.tmp 8, Operand.tmp 15], argTypes := #[31, 31] }, type := 31, pos := "law.go:95", after := #[{ on := 3, ground := Ground.data }, { on := 10, ground := Ground.data }, { on := 3, ground := Ground.chain }], guard := none }) rfl (fun K hK => ?_) AllReadyH.nil)
      refine ready_spread rfl _ _ rfl (g + 1) (.slice va k vc) k (rowOf D) rfl HO7.out ⟨V.heap.size + 1, 0, none⟩ 1 1 [(lq, pa, pc)] rfl rfl (fun j u hu => by
        match j, hu with
        | 0, hu =>
          rw [HPN.out] at hu
          simp at hu
          subst hu
          exact HL7.out) (by omega) HC7.out.2.2 (fun v2 x2 h2 hg2 => ?_)
      have HX2 := Lib.hid (And.intro (grown_own HC7.out.1 hg2 (fun y hy => by have := (HO7.out.lt y hy).1; have := HGB.out; omega)) h2)
      have HQ2 := Lib.hid (HC7.out.2.1.off hg2 (fun y hy => by have := (HO7.out.lt y hy).1; omega)); clear hg2
      obtain ⟨va2, vc2, rfl⟩ := own_shape h2
      clear h2
      refine hK.out _ _ (HS.out _ HX2.out.1) (fun hHeld => ?_)
      clear hK K
      try simp only [Act.put, List.setIfInBounds_toArray, List.set_cons_zero, List.set_cons_succ]
      refine wpAnyH_take (i := 12) (oi := { dst := some 17, op := Op.fieldAddr 33 (Operand.tmp 3) 1, type := 0, pos := "law.go:95", after := #[{ on := 0, ground := Ground.phase }, { on := 1, ground := Ground.phase }, { on := 2, ground := Ground.phase }, { on := 3, ground := Ground.phase }, { on := 4, ground := Ground.phase }, { on := 5, ground := Ground.phase }, { on := 6, ground := Ground.phase }, { on := 7, ground := Ground.phase }, { on := 8, ground := Ground.phase }, { on := 9, ground := Ground.phase }, { on := 10, ground := Ground.phase }, { on := 11, ground := Ground.phase }], guard := none }) (v := ?_) rfl (by kernel_rfl) (by kernel_rfl) (by kernel_rfl) (fun _ _ _ h => h) (Or.inl ⟨by rfl, ?_⟩) (by assumption) ?_
      rotate_left 1
      · (intro W hSW; (try dsimp only at hSW); first | (go_simp; done) | (go_simp; with_reducible rfl))
      try simp only [Act.put, List.setIfInBounds_toArray, List.set_cons_zero, List.set_cons_succ]
      refine wpAnyH_ready (rs := [13]) (by kernel_rfl) (by simp) ?_
      refine (AllReadyH.cons (o := { dst := none, op := Op.store 31 (Operand.tmp 17) (Operand.tmp 16), type := 0, pos := "law.go:95", after := #[{ on := 12, ground := Ground.data }, { on := 11, ground := Ground.data }, { on := 11, ground := Ground.chain }, { on := 0, ground := Ground.phase }, { on := 1, ground := Ground.phase }, { on := 2, ground := Ground.phase }, { on := 3, ground := Ground.phase }, { on := 4, ground := Ground.phase }, { on := 5, ground := Ground.phase }, { on := 6, ground := Ground.phase }, { on := 7, ground := Ground.phase }, { on := 8, ground := Ground.phase }, { on := 9, ground := Ground.phase }, { on := 10, ground := Ground.phase }, { on := 11, ground := Ground.phase }], guard := none }) rfl (fun K hK => ?_) AllReadyH.nil)
      rw [if_pos (by rfl)]
      obtain ⟨⟨zc0, zc1, zc2, zc3⟩, zf⟩ := HQ2.out
      have zf2 := zf 2
      clear zf
      go_simp
      refine hK.out _ _ (HS.out _ (grown_own HX2.out.1 (grown_set x2 g 2 (.slice va2 (k + 1) vc2)) (fun x hx => by cases hx; exact Nat.le_of_eq HGB.out))) (fun hHeld => ?_)
      clear hK K
      try simp only [Act.put, List.setIfInBounds_toArray, List.set_cons_zero, List.set_cons_succ]
      refine wpAnyH_done (by kernel_rfl) ?_ _
      clear hHeld c0 c1 c2 c3 cp zc0 zc1 zc2 zc3 zf2
      have HX3 := Lib.hid (grown_own HX2.out.1 (grown_set x2 g 2 (.slice va2 (k + 1) vc2)) (fun x hx => by cases hx; exact Nat.le_of_eq HGB.out))
      have HQ3 := Lib.hid (HQ2.out.set2 (.slice va2 (k + 1) vc2))
      have hgne : w.heap.size + 1 ≠ g := by omega
      obtain ⟨X3, hX3⟩ : ∃ X3, x2.setCell ⟨g, 2, none⟩ (.slice va2 (k + 1) vc2) = X3 := ⟨_, rfl⟩
      have HS2 := Lib.hid hX3
      rw [hX3] at HX3 HQ3 ⊢
      clear hX3
      obtain ⟨⟨e0, e1, e2, e3⟩, ef⟩ := HQ3.out
      have ef1 := ef 1
      have ef3 := ef 3
      clear ef
      have c3x := HX3.out.cell HCB.out (by simp)
      have HDZ3 : Hid (Held4 ((X3.setCell ⟨g, 3, none⟩ (.int .i64 ((p : Int) + 1))).setCell ⟨g, 1, none⟩ (.int .i64 ((k : Int) + 1))) (w.heap.size + 1) (.slice none 0 0) (.int .i64 0) (.slice none 0 0) (.int .i64 0)) := Lib.hid (Held4.off (Held4.off (Held4.off HDZ.out HX3.out (fun x e => by cases e)) (grown_set X3 g 3 (.int .i64 ((p : Int) + 1))) (fun x hx => by cases hx; omega)) (grown_set _ g 1 (.int .i64 ((k : Int) + 1))) (fun x hx => by cases hx; omega))
      obtain ⟨⟨d0, d1, d2, d3⟩, df⟩ := HDZ3.out
      have z0 := df 0
      have z1 := df 1
      have z2 := df 2
      have z3 := df 3
      clear df
      go_wp2_with fail
      have hrow : X3.ownsRow (g + 1) 40 1 (.slice va2 (k + 1) vc2) (k + 1) (rowOf D ++ rowOf [(lq, pa, pc)]) := by rw [← HS2.out]; exact HX2.out.2.kept (grown_set x2 g 2 _) (own_ne HX2.out.2 (by omega))
      have hrow3 := hrow.kept (grown_set X3 g 3 (.int .i64 ((p : Int) + 1))) (own_ne hrow (by omega))
      have hrow4 := hrow3.kept (grown_set _ g 1 (.int .i64 ((k : Int) + 1))) (own_ne hrow3 (by omega))
      obtain ⟨q0, q1, q2, q3, qg⟩ := four_sets (.slice sa n sc) (.int .i64 ((k : Int) + 1)) (.slice va2 (k + 1) vc2) (.int .i64 ((p : Int) + 1)) d0 d1 d2 d3
      have hrow5 := hrow4.kept qg (own_ne hrow4 (by omega))
      rw [show rowOf D ++ rowOf [(lq, pa, pc)] = rowOf (D ++ [(lq, pa, pc)]) from by rw [rowOf, rowOf, rowOf, List.map_append]] at hrow5
      have hgf := grown_own (grown_own (grown_own (HG.out.trans HX3.out) (grown_set X3 g 3 (.int .i64 ((p : Int) + 1))) (fun x hx => by cases hx; omega)) (grown_set _ g 1 (.int .i64 ((k : Int) + 1))) (fun x hx => by cases hx; omega)) qg (fun x hx => by cases hx; omega)
      have hgd : D.getD p ([], none, 0) = (lq, pa, pc) := by rw [List.getD_eq_getElem?_getD, HDP.out]; rfl
      exact bodyPost_ret (results33 _ _ (w.heap.size + 1) sa n sc va2 (k + 1) vc2 ((k : Int) + 1) ((p : Int) + 1) rfl q0 q1 q2 q3) rfl ⟨va2, vc2, by simp, by rw [hgg, hgd]; exact hrow5, hgf⟩
  · rw [if_pos (by rfl)]
    go_simp
    have HC10 : Hid (W.grownBy (V.drew.alloc (.cells #[.slice pa pn pc] 40)) none ∧ Held4 (V.drew.alloc (.cells #[.slice pa pn pc] 40)) g (.slice sa n sc) (.int .i64 st) (.slice (some ⟨tb, to, none⟩) k tc) (.int .i64 p) ∧ g + 1 ≤ (V.drew.alloc (.cells #[.slice pa pn pc] 40)).heap.size) := Lib.hid ⟨HC0.out.1.trans (World.grownBy_alloc V.drew (.cells #[.slice pa pn pc] 40) none), HC0.out.2.1.off (World.grownBy_alloc V.drew (.cells #[.slice pa pn pc] 40) none) (fun x e => by cases e), by rw [World.size_alloc]; have := HC0.out.2.2; omega⟩
    have HL10 : Hid ((V.drew.alloc (.cells #[.slice pa pn pc] 40)).cell? ⟨V.heap.size, 0, none⟩ = some (.slice pa pn pc)) := Lib.hid (by have h := World.cell?_alloc_new V.drew #[.slice pa pn pc] 40 0; (try rw [World.size_alloc] at h); exact h)
    refine hK.out _ _ (HS.out _ HC10.out.1) (fun hHeld => ?_)
    clear hK K
    try simp only [Act.put, List.setIfInBounds_toArray, List.set_cons_zero, List.set_cons_succ]
    refine wpAnyH_ready (rs := [0]) (by kernel_rfl) (by simp) ?_
    refine (AllReadyH.cons (o := { dst := some 5, op := Op.buildSlice 31 0 #[], type := 31, pos := "law.go:95", after := #[], guard := none }) rfl (fun K hK => ?_) AllReadyH.nil)
    rw [if_pos (by rfl)]
    go_simp
    have HC11 : Hid (W.grownBy ((V.drew.alloc (.cells #[.slice pa pn pc] 40)).alloc (.cells #[] 40)) none ∧ Held4 ((V.drew.alloc (.cells #[.slice pa pn pc] 40)).alloc (.cells #[] 40)) g (.slice sa n sc) (.int .i64 st) (.slice (some ⟨tb, to, none⟩) k tc) (.int .i64 p) ∧ g + 1 ≤ ((V.drew.alloc (.cells #[.slice pa pn pc] 40)).alloc (.cells #[] 40)).heap.size) := Lib.hid ⟨HC10.out.1.trans (World.grownBy_alloc (V.drew.alloc (.cells #[.slice pa pn pc] 40)) (.cells #[] 40) none), HC10.out.2.1.off (World.grownBy_alloc (V.drew.alloc (.cells #[.slice pa pn pc] 40)) (.cells #[] 40) none) (fun x e => by cases e), by rw [World.size_alloc]; have := HC10.out.2.2; omega⟩
    have HO11 : Hid (((V.drew.alloc (.cells #[.slice pa pn pc] 40)).alloc (.cells #[] 40)).ownsRow (g + 1) 40 1 (.slice (some ⟨V.heap.size + 1, 0, none⟩) 0 0) 0 []) := Lib.hid (by have h := World.ownsRow_made (e := 40) (size := 1) (V.drew.alloc (.cells #[.slice pa pn pc] 40)) #[] 0 HC10.out.2.2 (Nat.zero_le _) rfl; (try rw [World.size_alloc] at h); exact h)
    have HL11 : Hid (((V.drew.alloc (.cells #[.slice pa pn pc] 40)).alloc (.cells #[] 40)).cell? ⟨V.heap.size, 0, none⟩ = some (.slice pa pn pc)) := Lib.hid ((World.grownBy_alloc (V.drew.alloc (.cells #[.slice pa pn pc] 40)) (.cells #[] 40) none).cell HL10.out (by simp))
    have HA11 : Hid (V.heap.size ≠ V.heap.size + 1) := Lib.hid (by omega)
    refine hK.out _ _ (HS.out _ HC11.out.1) (fun hHeld => ?_)
    clear hK K
    try simp only [Act.put, List.setIfInBounds_toArray, List.set_cons_zero, List.set_cons_succ]
    refine wpAnyH_ready (rs := [3]) (by kernel_rfl) (by simp) ?_
    refine (AllReadyH.cons (o := { dst := some 8, op := Op.call { callee := Callee.builtin Builtin.append, args := #[Operand.tmp 5, Operand.tmp 7], argTypes := #[31, 31] }, type := 31, pos := "law.go:95", after := #[{ on := 0, ground := Ground.data }, { on := 2, ground := Ground.data }], guard := none }) rfl (fun K hK => ?_) AllReadyH.nil)
    refine ready_spread rfl _ _ rfl (g + 1) (.slice (some ⟨V.heap.size + 1, 0, none⟩) 0 0) 0 [] rfl HO11.out ⟨tb, to, none⟩ k tc D rfl HD.out.1 (HD.out.2 _ HC11.out.1) (by omega) HC11.out.2.2 (fun v1 x12 h1 hg1 => ?_)
    have HC12 : Hid (W.grownBy x12 none ∧ Held4 x12 g (.slice sa n sc) (.int .i64 st) (.slice (some ⟨tb, to, none⟩) k tc) (.int .i64 p) ∧ g + 1 ≤ x12.heap.size) := Lib.hid ⟨grown_own HC11.out.1 hg1 (fun y hy => by have := (HO11.out.lt y hy).1; have := HGB.out; omega), HC11.out.2.1.off hg1 (fun y hy => by have := (HO11.out.lt y hy).1; omega), Nat.le_trans HC11.out.2.2 hg1.size⟩
    have HL12 : Hid (x12.cell? ⟨V.heap.size, 0, none⟩ = some (.slice pa pn pc)) := Lib.hid (hg1.cell HL11.out (fun e => by first | (simp [Value.ownBlock] at e; done) | (simp [Value.ownBlock] at e; exact HA11.out e) | (simp [Value.ownBlock] at e; omega)))
    clear hg1
    rw [Nat.zero_add, List.nil_append] at h1
    obtain ⟨va, vc, rfl⟩ := own_shape h1
    have HO12 := Lib.hid h1; clear h1
    refine hK.out _ _ (HS.out _ HC12.out.1) (fun hHeld => ?_)
    clear hK K
    try simp only [Act.put, List.setIfInBounds_toArray, List.set_cons_zero, List.set_cons_succ]
    refine wpAnyH_ready (rs := [11]) (by kernel_rfl) (by simp) ?_
    refine (AllReadyH.cons (o := { dst := some 16, op := Op.call { callee := Callee.builtin Builtin.append, args := #[Operand.tmp 8, Operand.tmp 15], argTypes := #[31, 31] }, type := 31, pos := "law.go:95", after := #[{ on := 3, ground := Ground.data }, { on := 10, ground := Ground.data }, { on := 3, ground := Ground.chain }], guard := none }) rfl (fun K hK => ?_) AllReadyH.nil)
    refine ready_spread rfl _ _ rfl (g + 1) (.slice va k vc) k (rowOf D) rfl HO12.out ⟨V.heap.size, 0, none⟩ 1 1 [(lq, pa, pc)] rfl rfl (fun j u hu => by
      match j, hu with
      | 0, hu =>
        rw [HPN.out] at hu
        simp at hu
        subst hu
        exact HL12.out) (by omega) HC12.out.2.2 (fun v2 x2 h2 hg2 => ?_)
    have HX2 := Lib.hid (And.intro (grown_own HC12.out.1 hg2 (fun y hy => by have := (HO12.out.lt y hy).1; have := HGB.out; omega)) h2)
    have HQ2 := Lib.hid (HC12.out.2.1.off hg2 (fun y hy => by have := (HO12.out.lt y hy).1; omega)); clear hg2
    obtain ⟨va2, vc2, rfl⟩ := own_shape h2
    clear h2
    refine hK.out _ _ (HS.out _ HX2.out.1) (fun hHeld => ?_)
    clear hK K
    try simp only [Act.put, List.setIfInBounds_toArray, List.set_cons_zero, List.set_cons_succ]
    refine wpAnyH_take (i := 12) (oi := { dst := some 17, op := Op.fieldAddr 33 (Operand.tmp 3) 1, type := 0, pos := "law.go:95", after := #[{ on := 0, ground := Ground.phase }, { on := 1, ground := Ground.phase }, { on := 2, ground := Ground.phase }, { on := 3, ground := Ground.phase }, { on := 4, ground := Ground.phase }, { on := 5, ground := Ground.phase }, { on := 6, ground := Ground.phase }, { on := 7, ground := Ground.phase }, { on := 8, ground := Ground.phase }, { on := 9, ground := Ground.phase }, { on := 10, ground := Ground.phase }, { on := 11, ground := Ground.phase }], guard := none }) (v := ?_) rfl (by kernel_rfl) (by kernel_rfl) (by kernel_rfl) (fun _ _ _ h => h) (Or.inl ⟨by rfl, ?_⟩) (by assumption) ?_
    rotate_left 1
    · (intro W hSW; (try dsimp only at hSW); first | (go_simp; done) | (go_simp; with_reducible rfl))
    try simp only [Act.put, List.setIfInBounds_toArray, List.set_cons_zero, List.set_cons_succ]
    refine wpAnyH_ready (rs := [13]) (by kernel_rfl) (by simp) ?_
    refine (AllReadyH.cons (o := { dst := none, op := Op.store 31 (Operand.tmp 17) (Operand.tmp 16), type := 0, pos := "law.go:95", after := #[{ on := 12, ground := Ground.data }, { on := 11, ground := Ground.data }, { on := 11, ground := Ground.chain }, { on := 0, ground := Ground.phase }, { on := 1, ground := Ground.phase }, { on := 2, ground := Ground.phase }, { on := 3, ground := Ground.phase }, { on := 4, ground := Ground.phase }, { on := 5, ground := Ground.phase }, { on := 6, ground := Ground.phase }, { on := 7, ground := Ground.phase }, { on := 8, ground := Ground.phase }, { on := 9, ground := Ground.phase }, { on := 10, ground := Ground.phase }, { on := 11, ground := Ground.phase }], guard := none }) rfl (fun K hK => ?_) AllReadyH.nil)
    rw [if_pos (by rfl)]
    obtain ⟨⟨zc0, zc1, zc2, zc3⟩, zf⟩ := HQ2.out
    have zf2 := zf 2
    clear zf
    go_simp
    refine hK.out _ _ (HS.out _ (grown_own HX2.out.1 (grown_set x2 g 2 (.slice va2 (k + 1) vc2)) (fun x hx => by cases hx; exact Nat.le_of_eq HGB.out))) (fun hHeld => ?_)
    clear hK K
    try simp only [Act.put, List.setIfInBounds_toArray, List.set_cons_zero, List.set_cons_succ]
    refine wpAnyH_done (by kernel_rfl) ?_ _
    clear hHeld c0 c1 c2 c3 cp zc0 zc1 zc2 zc3 zf2
    have HX3 := Lib.hid (grown_own HX2.out.1 (grown_set x2 g 2 (.slice va2 (k + 1) vc2)) (fun x hx => by cases hx; exact Nat.le_of_eq HGB.out))
    have HQ3 := Lib.hid (HQ2.out.set2 (.slice va2 (k + 1) vc2))
    have hgne : w.heap.size + 1 ≠ g := by omega
    obtain ⟨X3, hX3⟩ : ∃ X3, x2.setCell ⟨g, 2, none⟩ (.slice va2 (k + 1) vc2) = X3 := ⟨_, rfl⟩
    have HS2 := Lib.hid hX3
    rw [hX3] at HX3 HQ3 ⊢
    clear hX3
    obtain ⟨⟨e0, e1, e2, e3⟩, ef⟩ := HQ3.out
    have ef1 := ef 1
    have ef3 := ef 3
    clear ef
    have c3x := HX3.out.cell HCB.out (by simp)
    have HDZ3 : Hid (Held4 ((X3.setCell ⟨g, 3, none⟩ (.int .i64 ((p : Int) + 1))).setCell ⟨g, 1, none⟩ (.int .i64 ((k : Int) + 1))) (w.heap.size + 1) (.slice none 0 0) (.int .i64 0) (.slice none 0 0) (.int .i64 0)) := Lib.hid (Held4.off (Held4.off (Held4.off HDZ.out HX3.out (fun x e => by cases e)) (grown_set X3 g 3 (.int .i64 ((p : Int) + 1))) (fun x hx => by cases hx; omega)) (grown_set _ g 1 (.int .i64 ((k : Int) + 1))) (fun x hx => by cases hx; omega))
    obtain ⟨⟨d0, d1, d2, d3⟩, df⟩ := HDZ3.out
    have z0 := df 0
    have z1 := df 1
    have z2 := df 2
    have z3 := df 3
    clear df
    go_wp2_with fail
    have hrow : X3.ownsRow (g + 1) 40 1 (.slice va2 (k + 1) vc2) (k + 1) (rowOf D ++ rowOf [(lq, pa, pc)]) := by rw [← HS2.out]; exact HX2.out.2.kept (grown_set x2 g 2 _) (own_ne HX2.out.2 (by omega))
    have hrow3 := hrow.kept (grown_set X3 g 3 (.int .i64 ((p : Int) + 1))) (own_ne hrow (by omega))
    have hrow4 := hrow3.kept (grown_set _ g 1 (.int .i64 ((k : Int) + 1))) (own_ne hrow3 (by omega))
    obtain ⟨q0, q1, q2, q3, qg⟩ := four_sets (.slice sa n sc) (.int .i64 ((k : Int) + 1)) (.slice va2 (k + 1) vc2) (.int .i64 ((p : Int) + 1)) d0 d1 d2 d3
    have hrow5 := hrow4.kept qg (own_ne hrow4 (by omega))
    rw [show rowOf D ++ rowOf [(lq, pa, pc)] = rowOf (D ++ [(lq, pa, pc)]) from by rw [rowOf, rowOf, rowOf, List.map_append]] at hrow5
    have hgf := grown_own (grown_own (grown_own (HG.out.trans HX3.out) (grown_set X3 g 3 (.int .i64 ((p : Int) + 1))) (fun x hx => by cases hx; omega)) (grown_set _ g 1 (.int .i64 ((k : Int) + 1))) (fun x hx => by cases hx; omega)) qg (fun x hx => by cases hx; omega)
    have hgd : D.getD p ([], none, 0) = (lq, pa, pc) := by rw [List.getD_eq_getElem?_getD, HDP.out]; rfl
    exact bodyPost_ret (results33 _ _ (w.heap.size + 1) sa n sc va2 (k + 1) vc2 ((k : Int) + 1) ((p : Int) + 1) rfl q0 q1 q2 q3) rfl ⟨va2, vc2, by simp, by rw [hgg, hgd]; exact hrow5, hgf⟩

section
variable {w : World} {us : List Int} {sa sa' ta ta' : Option Addr} {sc sc' tc tc' n k k' p p' N l : Nat} {st st' lp lp' : Int} {L L' M L0 : List (List Rl)} {p0 : Nat}
theorem same_true (hu : IntsW w sa sc us) (hu' : IntsW w sa' sc' us) (hT : Sts w ta tc L) (hT' : Sts w ta' tc' L') (hn : us.length = n) (hk : L.length = k) (hk' : L'.length = k') (hus : n ≤ 100000) (h64 : k ≤ 64) (h64' : k' ≤ 64) (hp : p < k) (hp' : p' < k')
    (hs : ∀ l ∈ L, l.length ≤ 10 ∧ ∀ r ∈ l, r.2.length ≤ 200) (htr : ∀ t, trL L p t = trL L' p' t) (hlp : (p : Int) = lp) (hlp' : (p' : Int) = lp') :
    Calls Try.prog 28 #[.agg #[.slice sa n sc, .int .i64 st, .slice ta k tc, .int .i64 lp], .agg #[.slice sa' n sc', .int .i64 st', .slice ta' k' tc', .int .i64 lp']] w fun e w' => e = .returned (.bool true) ∧ w.grownBy w' none := by
  subst hlp hlp'
  have h := sameTrace_calls us us sa sa' sc sc' st st' p p' L L' ta ta' tc tc' w hu hu' hT hT' (by omega) (small_lens (by omega) hs) (loopedB_iff.2 (by omega)) (loopedB_iff.2 (by omega))
  rw [show (decide (us = us) && agreeTo L L' p p' (timesN L.length L'.length p p')) = true from (sameB_iff (by omega) (by omega)).2 ⟨rfl, htr⟩, hn, hk, hk'] at h
  exact h
theorem short_same (hu : IntsW w sa sc us) (hT : Sts w ta tc L) (hn : us.length = n) (hk : L.length = k) (hus : n ≤ 100000) (h64 : k ≤ 64) (hp : p < k) (hp0 : p0 < L0.length)
    (hs : ∀ l ∈ L, l.length ≤ 10 ∧ ∀ r ∈ l, r.2.length ≤ 200) (htr : ∀ t, trL L p t = trL L0 p0 t) (hlp : (p : Int) = lp) (hM : shSts L0 p0 = M) (hl : shLoop L0 p0 = l) (hN : M.length = N) :
    Calls Try.prog 30 #[.agg #[.slice sa n sc, .int .i64 st, .slice ta k tc, .int .i64 lp]] w fun e w' => ∃ a c a' c', e = .returned (.agg #[.slice a n c, .int .i64 (N : Int), .slice a' N c', .int .i64 (l : Int)]) ∧ (Ints w' a c us ∧ Sts w' a' c' M) ∧ w.grownBy w' none := by
  subst hlp
  have h := shorten_calls us sa sc st ta L tc p w hu hT (by omega) (by omega) (by omega) hs
  obtain ⟨e1, e2⟩ := sh_same (by omega) hp0 htr
  have e3 : shLoop L p + shPer L p = N := by rw [← sh_len, e1, hM, hN]
  rw [e3, e1, e2, hM, hl, hN, hn, hk] at h
  exact h.mono fun _ _ ⟨a, c, a', c', he, hs, hg⟩ => ⟨a, c, a', c', he, hs.here, hg⟩
theorem req_true (hu : IntsW w sa sc us) (hu' : IntsW w sa' sc' us) (hT : Sts w ta tc M) (hT' : Sts w ta' tc' M) (hn : us.length = n) (hN : M.length = N) (hus : n ≤ 100000) (h64 : N ≤ 64) (hs : ∀ l ∈ M, l.length ≤ 10 ∧ ∀ r ∈ l, r.2.length ≤ 200) :
    Calls Try.prog 21 #[.agg #[.slice sa n sc, .int .i64 st, .slice ta N tc, .int .i64 lp], .agg #[.slice sa' n sc', .int .i64 st, .slice ta' N tc', .int .i64 lp]] w fun e w' => e = .returned (.bool true) ∧ w.grownBy w' none := by
  have h := rEqual_calls us us sa sa' sc sc' st st lp lp M M ta ta' tc tc' w hu hu' hT hT' (by omega) (small_lens (by omega) hs)
  rw [show modelEq us us st st lp lp M M = true from by simp [modelEq], hn, hN] at h
  exact h
end
end Go.Proofs.Ytbddpjofhddilaa

/- Texts of the proof: K3. -/
import Derived.Test.YthkjjiijjedipaaDoorCD27
import Derived.Test.YthkjjiijjedipaaDoorCD43
namespace Go.Proofs.YthkjjiijjedipaaDoor
open Go.RowKit
theorem bools_news {w : World} {ad : Addr} {c : Nat} {news : List Bool} (hi : BoolsW w (some ad) c news) : ∀ j u, (boolCells news)[j]? = some u → w.cell? (ad.add j) = some u := by
  intro j u hj
  rw [boolCells, List.getElem?_map] at hj
  obtain ⟨z, hz, rfl⟩ := Option.map_eq_some_iff.1 hj
  obtain ⟨b, o, e, h0⟩ := hi.at hz
  cases e
  have hadd : (⟨b, o, none⟩ : Addr).add j = ⟨b, o + j, none⟩ := by unfold Addr.add; split <;> simp_all
  rw [hadd]; exact h0
theorem run_append_nilB {w : World} {base n : Nat} {v : Value} {xs : List Value} (hown : w.ownsRow base 4 1 v n xs) (ty : TypeId) (c : Nat) : (Builtin.append_ #[23, 23] ty #[v, .slice none 0 c]).run Tryd.prog w = .ok v w := by
  obtain ⟨i0, hi, hz0, hz1, hz2⟩ := info_parts info4
  rcases hown.2 with ⟨rfl, rfl⟩ | ⟨g, cap, cur, rfl, _, _, hnc, _⟩
  · simp [Builtin.append_, run_underlying Tryd.underlying23, sizeOf, typeInfo, hi, Builtin.lenOf, Builtin.firstCells]
  · simp [Builtin.append_, run_underlying Tryd.underlying23, sizeOf, typeInfo, hi, Builtin.lenOf, Builtin.firstCells, hnc, storeCells]
theorem run_append_bools (base : Nat) (ty : TypeId) {v : Value} {n : Nat} {l : List Bool} {w : World} (hown : w.ownsRow base 4 1 v n (boolCells l)) {xa : Option Addr} {m c : Nat} {news : List Bool} (hm : news.length = m) (hi : BoolsW w xa c news)
    (h63 : n + m ≤ 100000) (hbase : base ≤ w.heap.size) :
    ∃ v' w', (Builtin.append_ #[23, 23] ty #[v, .slice xa m c]).run Tryd.prog w = .ok v' w' ∧ w'.ownsRow base 4 1 v' (n + m) (boolCells (l ++ news)) ∧ w.grownBy w' v.ownBlock := by
  obtain ⟨i0, hi0, hz0, hz1, hz2⟩ := info_parts info4
  cases xa with
  | none =>
    obtain rfl : news = [] := by
      rcases hi.2 with h0 | ⟨_, _, e, _⟩
      · exact h0
      · cases e
    obtain rfl : 0 = m := hm
    exact ⟨v, w, run_append_nilB hown ty c, by rw [List.append_nil]; exact hown, grown_refl _ _⟩
  | some ad =>
    obtain ⟨v', w', hr, h2, h3, _, _⟩ := run_append_own_at (P := Tryd.prog) w base 23 ty 4 i0 (.bool false) 1 1 Tryd.underlying23 hi0 hz0 hz1 hz2 rfl (by decide) v n (boolCells l) hown ad m c (boolCells news) (by rw [boolCells, List.length_map, hm, Nat.mul_one]) (bools_news hi) (fun u hu => by obtain ⟨z, _, rfl⟩ := List.mem_map.1 hu; rfl) (by unfold maxLen; omega) (by omega) hbase
    exact ⟨v', w', hr, by rw [boolCells, List.map_append]; exact h2, h3⟩
/-- The append of a row of truth values. -/
theorem append_bools {ops : Array Oper} {rest : List Oper} {o : Oper} {a : Act} {Q : Exit → Act → World → Prop} {w : World} (hgd : o.guard = none) (s x : Operand)
    (ho : o.op = .call { callee := .builtin .append, args := #[s, x], argTypes := #[23, 23] })
    (base : Nat) (v : Value) (n : Nat) (l : List Bool) (hs : a.eval s = v) (hown : w.ownsRow base 4 1 v n (boolCells l))
    (xa : Option Addr) (m c : Nat) (news : List Bool) (hx : a.eval x = .slice xa m c) (hm : news.length = m) (hi : BoolsW w xa c news)
    (h63 : n + m ≤ 100000) (hbase : base ≤ w.heap.size)
    (h : ∀ v' w', w'.ownsRow base 4 1 v' (n + m) (boolCells (l ++ news)) → w.grownBy w' v.ownBlock → wpList Tryd.prog ops Q rest (a.put o.dst v') w') : wpList Tryd.prog ops Q (o :: rest) a w := by
  refine wpList_plain hgd fun K' hK' => ?_
  obtain ⟨v', w', hr, h2, h3⟩ := run_append_bools base o.type hown hm hi h63 hbase
  unfold Oper.wp execOp
  simp only [ho, resolve, invoke, builtin, Sem.run_bind, Sem.run_pure, Result.andThen_ok, List.map_toArray, List.map_cons, List.map_nil, hs, hx, hr]
  exact hK' _ _ (h v' w' h2 h3)
/-- An own row that is not empty is written in its place. -/
theorem own_barr {w : World} {B n c : Nat} {a : Option Addr} {Z : List Bool} (h : w.ownsRow B 4 1 (.slice a n c) n (boolCells Z)) (hn : 0 < n) : ∃ b, a = some ⟨b, 0, none⟩ ∧ BArr w b Z ∧ B ≤ b ∧ n ≤ c := by
  have hc := @World.ownsRow.cells w B 4 1 (.slice a n c) n _ h
  rcases h.2 with ⟨_, h0⟩ | ⟨g, cap, cur, e, hb, hg, hnc, hcm, _⟩
  · omega
  · injection e with e1 _ e3
    subst e1 e3
    refine ⟨g, rfl, ⟨fun j z hj => ?_, fun o => ?_, (Array.getElem?_eq_some_iff.1 hg).1⟩, hb, hnc⟩
    · have := hc (g := g) rfl j (.bool z) (by rw [boolCells, List.getElem?_map, hj]; rfl)
      rw [add_at] at this
      exact this
    · unfold World.frozen?
      simp [hg]
theorem given_succ (vals : List Bool) (k : Nat) : givenP (k + 1) vals = givenP k vals ++ [(vals[k]?).getD false] := by
  unfold givenP
  rw [List.range_succ, List.map_append]
  rfl
/-- A satisfying extension does not bear the turn of one of its gates. -/
theorem flip_no {gs : List Gt} (hG : Good gs) (h8 : In8 gs) {m : Nat} (hm : 8 ≤ m) {r : Int} (hr : Ok gs r) {V : Nat} {L : List (List Int)} (e : tseP gs r m = (V, L)) (g : List Bool) (hg : g.length = m) {k : Nat} (hk : m ≤ k) {b : Bool} (hb : (extP gs r m g)[k]? = some b) :
    satP ((extP gs r m g).set k (!b)) L = false := by
  have hx := ext_tse hG h8 hm hr g
  rw [e] at hx
  have hl : ((extP gs r m g).set k (!b)).length = (tseP gs r m).1 := by rw [List.length_set, hx.1, e]
  have h := tse_ext hG h8 hm hr _ hl
  have ht : ((extP gs r m g).set k (!b)).take m = g := by
    rw [List.take_set_of_le hk, hx.2.1, given_self hg]
  rw [ht, e] at h
  cases hs : satP ((extP gs r m g).set k (!b)) L with
  | false => rfl
  | true =>
    obtain ⟨h1, _⟩ := h.1 hs
    have h2 := congrArg (fun z => z[k]?) h1
    simp only [List.getElem?_set_self (List.getElem?_eq_some_iff.1 hb).1, hb] at h2
    cases b <;> simp at h2
end Go.Proofs.YthkjjiijjedipaaDoor

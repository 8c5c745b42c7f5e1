/- Copies of rows of numbers and of relations. -/
import Derived.Test.YtbddpjofhddilaaRE
import Derived.Laws.AppendOwn
import Derived.Deep.RegionWith
import Derived.Lib.SliceRun
namespace Go.Proofs.Ytbddpjofhddilaa
open Go.RowKit

set_option maxRecDepth 100000 in
set_option maxHeartbeats 1000000 in
theorem cloneInts_calls (zs : List Int) (a : Option Addr) (c : Nat) (w : World) (h : IntsW w a c zs) (hl : zs.length ≤ 100000) :
    Calls Try.prog 86 #[.slice a zs.length c] w fun e w' => ∃ a' c', e = .returned (.slice a' zs.length c') ∧ Span w.heap.size w'.heap.size w' (fun W => Ints W a' c' zs) ∧ w.grownBy w' none := by
  obtain ⟨n, hn⟩ : ∃ n, zs.length = n := ⟨_, rfl⟩
  rw [hn] at hl ⊢
  have HN := Lib.hid hn; clear hn
  cases a with
  | none =>
    obtain rfl : zs = [] := by
      obtain ⟨_, h | ⟨_, _, e, _⟩⟩ := h
      · exact h
      · cases e
    have q28 : ∀ (w : World) (a : Option Addr) (n c n' c' : Nat), (binOp .eql 28 (.slice a n c) (.slice none n' c')).run Try.prog w = .ok (.bool a.isNone) w := fun w a n c n' c' => Lib.run_eql_slice_nil w _ _ a n c n' c' Try.underlying28
    have hn0 : n = 0 := by rw [← HN.out]; rfl
    subst hn0
    go_enter Try.func86, Try.ntmps86
    go_wp2_with fail
    go_ret
    exact ⟨none, 0, rfl, ⟨Nat.le_refl _, fun W _ => ints_nil W⟩, grown_refl _ _⟩
  | some ad =>
    obtain ⟨i0, hi0, hz0, hz1, hz2⟩ := info_parts info3
    have HC := Lib.hid h.2; have hc := h.1; clear h
    rw [HN.out] at hc
    have q28 : ∀ (w : World) (a : Option Addr) (n c n' c' : Nat), (binOp .eql 28 (.slice a n c) (.slice none n' c')).run Try.prog w = .ok (.bool a.isNone) w := fun w a n c n' c' => Lib.run_eql_slice_nil w _ _ a n c n' c' Try.underlying28
    go_enter Try.func86, Try.ntmps86
    go_wp2_with (at_builtin; refine wpList_append_own _ rfl _ _ 28 rfl w.heap.size 3 i0 (.int .i64 0) 1 8 Try.underlying28 hi0 hz0 hz1 hz2 rfl (by decide) _ _ _ rfl (World.ownsRow_made w #[] 0 (Nat.le_refl _) (Nat.zero_le _) rfl) ad n c (intCells zs) rfl ?qc1 ?qc2 ?qc3 ?qc4 ?qc5 ?qc6 ?_)
    case qc1 => rw [intCells, List.length_map, HN.out]; omega
    case qc2 =>
      intro j u hj
      rw [intCells, List.getElem?_map] at hj
      cases hq : zs[j]? with
      | none => rw [hq] at hj; simp at hj
      | some z =>
        rw [hq] at hj
        simp only [Option.map_some, Option.some.injEq] at hj
        rcases HC.out with h0 | ⟨b, o, e, hz⟩
        · rw [h0] at hq; simp at hq
        · cases e
          have hadd : (⟨b, o, none⟩ : Addr).add j = ⟨b, o + j, none⟩ := by unfold Addr.add; split <;> simp_all
          rw [hadd, ← hj]
          exact (World.grownBy_alloc w _ none).cell (hz j z hq) (by simp)
    case qc3 => intro u hu; obtain ⟨x, _, rfl⟩ := List.mem_map.1 hu; rfl
    case qc4 => unfold maxLen; omega
    case qc5 => omega
    case qc6 => simp
    intro v' w1 hown hgrow hnil
    have hown' : w1.ownsRow w.heap.size 3 1 v' zs.length (intCells zs) := by rw [HN.out]; simpa using hown
    obtain ⟨a', c', rfl, hi⟩ := ints_span hown'
    have HR := Lib.hid hi; clear hi hown hown' hnil
    have HG : Hid (w.grownBy w1 none) := Lib.hid (grown_own (World.grownBy_alloc w _ none) hgrow (fun k hk => by simp [Value.ownBlock] at hk; omega))
    clear hgrow
    rw [HN.out]
    go_wp2
    go_ret
    exact ⟨a', c', rfl, HR.out, HG.out⟩

theorem results119 (tmps : Array Value) (w : World) (b : Nat) (a : Option Addr) (n c : Nat) (x : Int) (ht : tmps.getD 2 undef = .pointer (some ⟨b, 0, none⟩)) (h0 : w.cell? ⟨b, 0, none⟩ = some (.int .i64 x)) (h1 : w.cell? ⟨b, 1, none⟩ = some (.slice a n c)) :
    (results Try.f119 tmps).run Try.prog w = .ok (.agg #[.int .i64 x, .slice a n c]) w := by
  have ht' : tmps[2]?.getD undef = .pointer (some ⟨b, 0, none⟩) := by simpa using ht
  simp [results, ht', go_sem, h0, h1, Result.andThen]

theorem grown_frozen {w w' : World} {b : Nat} (h : w.grownBy w' none) (hb : b < w.heap.size) (o : Nat) : w'.frozen? ⟨b, o, none⟩ = w.frozen? ⟨b, o, none⟩ :=
  World.frozen?_of_block (a := ⟨b, o, none⟩) (h.block b hb (by simp))
theorem two_cells (w : World) (u0 u1 v0 v1 : Value) (s t : TypeId) :
    w.heap.size + 1 < ((w.alloc (.cells #[u0, u1] s)).alloc (.cells #[v0, v1] t)).heap.size ∧
    ((w.alloc (.cells #[u0, u1] s)).alloc (.cells #[v0, v1] t)).cell? ⟨w.heap.size, 0, none⟩ = some u0 ∧ ((w.alloc (.cells #[u0, u1] s)).alloc (.cells #[v0, v1] t)).cell? ⟨w.heap.size, 1, none⟩ = some u1 ∧
    ((w.alloc (.cells #[u0, u1] s)).alloc (.cells #[v0, v1] t)).cell? ⟨w.heap.size + 1, 0, none⟩ = some v0 ∧ ((w.alloc (.cells #[u0, u1] s)).alloc (.cells #[v0, v1] t)).cell? ⟨w.heap.size + 1, 1, none⟩ = some v1 ∧
    ((w.alloc (.cells #[u0, u1] s)).alloc (.cells #[v0, v1] t)).frozen? ⟨w.heap.size + 1, 0, none⟩ = false ∧ ((w.alloc (.cells #[u0, u1] s)).alloc (.cells #[v0, v1] t)).frozen? ⟨w.heap.size + 1, 1, none⟩ = false := by
  refine ⟨by simp, by go_simp, by go_simp, by go_simp, by go_simp, by go_simp, by go_simp⟩

set_option maxRecDepth 100000 in
set_option maxHeartbeats 1000000 in
theorem cloneRel_calls (x : Int) (zs : List Int) (a : Option Addr) (c : Nat) (w : World) (h : IntsW w a c zs) (hl : zs.length ≤ 100000) :
    Calls Try.prog 119 #[.agg #[.int .i64 x, .slice a zs.length c]] w fun e w' => ∃ a' c', e = .returned (.agg #[.int .i64 x, .slice a' zs.length c']) ∧ Span w.heap.size w'.heap.size w' (fun W => IntsW W a' c' zs) ∧ w.grownBy w' none := by
  obtain ⟨n, hn⟩ : ∃ n, zs.length = n := ⟨_, rfl⟩
  rw [hn] at hl ⊢
  have HN := Lib.hid hn; clear hn
  have hg1 := World.grownBy_alloc w (.cells #[.int .i64 x, .slice a n c] 53) none
  have hg2 := World.grownBy_alloc (w.alloc (.cells #[.int .i64 x, .slice a n c] 53)) (.cells #[.int .i64 0, .slice none 0 0] 53) none
  have HC := Lib.hid (And.intro (fun (W' : World) (hW' : World.grownBy _ W' none) => by
    have hf := cloneInts_calls zs a c W' ((h.grown (hg1.trans hg2)).grown hW') (by rw [HN.out]; exact hl)
    rw [HN.out] at hf; exact hf) (hg1.trans hg2))
  clear hg1 hg2 h
  go_enter Try.func119, Try.ntmps119
  go_wp2_with fail
  have hc := two_cells w (.int .i64 x) (.slice a n c) (.int .i64 0) (.slice none 0 0) 53 53
  obtain ⟨W, hW⟩ : ∃ W, (w.alloc (.cells #[.int .i64 x, .slice a n c] 53)).alloc (.cells #[.int .i64 0, .slice none 0 0] 53) = W := ⟨_, rfl⟩
  rw [hW] at HC hc ⊢
  clear hW
  obtain ⟨hlt, c0, c1, e0, e1, ef0, ef1⟩ := hc
  go_region_with (go_at_call 86; refine (HC.out.1 W.drew (grown_drewN W 1 _)).mono ?_; rintro e w3 ⟨a', c', rfl, hi, g3⟩; have HI := Lib.hid hi; clear hi; replace g3 := World.grownBy.trans (b := W.drew) (grown_drewN W 1 _) g3; have k0 := g3.cell c0 (by simp); have k1 := g3.cell c1 (by simp); have m0 := g3.cell e0 (by simp); have m1 := g3.cell e1 (by simp); have f0 := (grown_frozen g3 hlt 0).trans ef0; have f1 := (grown_frozen g3 hlt 1).trans ef1; have HG3 := Lib.hid g3; clear g3)
  all_goals
    go_wp2_with fail
    refine bodyPost_ret (results119 _ _ (w.heap.size + 1) a' n c' x rfl (by rw [World.cell?_setCell_other _ _ _ _ (by intro e; injection e with _ e; cases e)]; exact World.cell?_setCell_same _ _ _ m0) (World.cell?_setCell_same _ _ _ (by rw [World.cell?_setCell_other _ _ _ _ (by intro e; injection e with _ e; cases e)]; exact m1))) rfl ⟨a', c', rfl, ?_, ?_⟩
    · have hs := HI.out
      have hs2 := (hs.off (grown_set w3 (w.heap.size + 1) 0 (.int .i64 x)) (fun y hy => by cases hy; exact .inl (by simpa using hlt))).off (grown_set _ (w.heap.size + 1) 1 (.slice a' n c')) (fun y hy => by cases hy; exact .inl (by simpa using hlt))
      exact (hs2.wide (Nat.le_trans HC.out.2.size (Nat.le_refl _)) (by simp [World.setCell]) (Nat.le_refl _)).map fun _ h => h.weak
    · have hg := HC.out.2.trans HG3.out
      have hg1 := grown_own hg (grown_set w3 (w.heap.size + 1) 0 (.int .i64 x)) (fun k hk => by cases hk; omega)
      exact grown_own hg1 (grown_set _ (w.heap.size + 1) 1 (.slice a' n c')) (fun k hk => by cases hk; omega)

theorem relFlat_take {l : List Rl} {j : Nat} {r : Rl} (h : l[j]? = some r) : l.take (j + 1) = l.take j ++ [r] := by
  rw [List.take_add_one, h, Option.toList_some]

set_option maxRecDepth 100000 in
set_option maxHeartbeats 2000000 in
theorem cloneRels_calls (l : List Rl) (a : Option Addr) (c : Nat) (w : World) (h : Rels w a c l) (hl : l.length ≤ 100000) (hr : ∀ r ∈ l, r.2.length ≤ 100000) :
    Calls Try.prog 118 #[.slice a l.length c, .func (.func 119) #[] #[]] w fun e w' => ∃ a' c', e = .returned (.slice a' l.length c') ∧ Span w.heap.size w'.heap.size w' (fun W => Rels W a' c' l) ∧ w.grownBy w' none := by
  obtain ⟨n, hn⟩ : ∃ n, l.length = n := ⟨_, rfl⟩
  rw [hn] at hl ⊢
  have HN := Lib.hid hn; clear hn
  have HH := Lib.hid (And.intro h hr); clear h hr
  obtain ⟨i0, hi0, hz0, hz1, hz2⟩ := info_parts info53
  go_enter Try.func118, Try.ntmps118
  go_wp2_with fail
  go_loopg [5, 10] n (fun g s5 s10 wr => ∃ (i : Nat) (D : List Dr), s10 = .int .i64 (i : Int) ∧ g = n - i ∧ i ≤ n ∧ D.map (·.1) = l.take i ∧ OutR wr w.heap.size s5 D ∧ w.grownBy wr none)
  case atStart => exact ⟨0, [], rfl, rfl, Nat.zero_le _, rfl, Out.start _ _ _, grown_refl _ _⟩
  case round =>
    obtain ⟨i, D, rfl, hgi, hi, hD, hO, hgr⟩ := hrel
    have hDl : D.length = i := by rw [← List.length_map (f := (·.1)), hD, List.length_take, HN.out]; omega
    have HI := Lib.hid (And.intro hgi (And.intro hD (And.intro hgr hDl))); clear hgi hD hgr
    have HO := Lib.hid hO; clear hO
    by_cases hin : i < n
    · have hinB : decide (i < n) = true := by simpa using hin
      have hinI : (i : Int) < (n : Int) := by omega
      obtain ⟨r, hx⟩ : ∃ r, l[i]? = some r := ⟨_, List.getElem?_eq_getElem (by rw [HN.out]; exact hin)⟩
      obtain ⟨b, o, rfl, c0, la, lc, c1, hints⟩ := (HH.out.1.grown HI.out.2.2.1).2 i r hx
      have HX := Lib.hid (And.intro hx hints); clear hx hints
      obtain ⟨ga, gc, hs5⟩ := own_shape HO.out.own
      subst hs5
      rw [hDl] at HO ⊢
      clear hDl
      go_wp2_with fail
      refine (cloneRel_calls r.1 r.2 la lc _ (HX.out.2.grown (World.grownBy_alloc _ _ none)) (HH.out.2 r (List.mem_of_getElem? HX.out.1))).mono ?_
      rintro e w1 ⟨a', c', rfl, hs, hg⟩
      have hg2 := (World.grownBy_alloc wr (.cells #[.int .i64 r.1, .slice la r.2.length lc] 53) none).trans hg
      have hsz := Nat.le_trans HI.out.2.2.1.size hg2.size
      have HO1 := Lib.hid (Out.quiet HO.out hg2 (fun x e => by cases e))
      have hlo : ∀ x, (Value.slice ga i gc).ownBlock = some x → x < (wr.alloc (.cells #[.int .i64 r.1, .slice la r.2.length lc] 53)).heap.size ∨ w1.heap.size ≤ x := fun x hx => by
        have := (HO.out.own.lt x hx).2
        simp only [World.size_alloc]; omega
      have hB : w.heap.size ≤ (wr.alloc (.cells #[.int .i64 r.1, .slice la r.2.length lc] 53)).heap.size := by have := HI.out.2.2.1.size; simp only [World.size_alloc]; omega
      have HS := Lib.hid (And.intro hs (And.intro hB (And.intro hlo (HI.out.2.2.1.trans hg2)))); clear hs hB hlo hg hg2
      have HOW : Hid (w1.ownsRow w.heap.size 53 2 (.slice ga i gc) i (D.flatMap relCells)) := Lib.hid (by have := HO1.out.own; rw [HI.out.2.2.2] at this; exact this)
      go_wp2_with (at_builtin; refine wpList_append_own_at _ rfl _ _ 40 rfl w.heap.size 53 i0 (.agg #[.int .i64 0, .slice none 0 0]) 2 32 Try.underlying40 hi0 hz0 hz1 hz2 rfl (by decide) _ _ _ rfl (HOW.out.alloc _) ⟨w1.heap.size, 0, none⟩ 1 1 [.int .i64 r.1, .slice a' r.2.length c'] rfl rfl (cell_two_new _ _ _ _) (fun u hu => by simp at hu; rcases hu with rfl | rfl <;> rfl) (by unfold maxLen; omega) (by omega) (by simp only [World.size_alloc]; omega) ?_; intro v' w3 hown' hgrow3 hnil3 hat3; obtain ⟨g', cap', rfl⟩ := own_shape hown')
      go_roundg (n - (i + 1))
      case measure => rw [HI.out.1]; omega
      case rel =>
        refine ⟨i + 1, D ++ [(r, a', c')], rfl, rfl, by omega, by rw [List.map_append, HI.out.2.1, relFlat_take HX.out.1]; rfl, ?_, ?_⟩
        · exact Out.push HO1.out HS.out.1 HS.out.2.1 HS.out.2.2.1 (by rw [HI.out.2.2.2]; exact hown') hgrow3 hat3
        · exact grown_own (HS.out.2.2.2.trans (World.grownBy_alloc _ _ none)) hgrow3 (fun k hk => (HOW.out.lt k hk).1)
    · have hie : i = n := by omega
      subst hie
      have hinB : decide (i < i) = false := by simp
      obtain ⟨a', c', hv, hsp⟩ := OutR.rels HO.out
      rw [HI.out.2.1, List.take_of_length_le (by rw [HN.out]; exact Nat.le_refl _), HN.out] at hv
      rw [HI.out.2.1, List.take_of_length_le (by rw [HN.out]; exact Nat.le_refl _)] at hsp
      subst hv
      have HSP := Lib.hid hsp; clear hsp
      go_wp2_with fail
      go_ret
      exact ⟨a', c', rfl, HSP.out, HI.out.2.2.1⟩

set_option maxRecDepth 100000 in
set_option maxHeartbeats 1000000 in
theorem cloneState_calls (l : List Rl) (a : Option Addr) (c : Nat) (w : World) (h : Rels w a c l) (hl : l.length ≤ 100000) (hr : ∀ r ∈ l, r.2.length ≤ 100000) :
    Calls Try.prog 79 #[.slice a l.length c] w fun e w' => ∃ a' c', e = .returned (.slice a' l.length c') ∧ Span w.heap.size w'.heap.size w' (fun W => Rels W a' c' l) ∧ w.grownBy w' none := by
  go_enter Try.func79, Try.ntmps79
  go_wp2_with fail
  refine (cloneRels_calls l a c w h hl hr).mono ?_
  rintro e w' ⟨a', c', rfl, hs, hg⟩
  have HS := Lib.hid (And.intro hs hg); clear hs hg
  go_wp2
  go_ret
  exact ⟨a', c', rfl, HS.out.1, HS.out.2⟩
end Go.Proofs.Ytbddpjofhddilaa

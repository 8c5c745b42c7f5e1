/- Common texts of the laws of stage 9, joined: RD RF RG RH RI. -/
import Derived.Test.YtbddpjofhddilaaN04
import Derived.Laws.AppendOwn
import Derived.Deep.RegionWith
import Derived.Lib.SliceRun
import Derived.Deep.RegionHeld3
import Derived.Laws.EntriesVeiled
/- Copies of rows of numbers and of relations. -/
namespace Go.Proofs.Ytbddpjofhddilaa
open Go.RowKit

set_option maxRecDepth 100000 in
set_option maxHeartbeats 1000000 in
theorem cloneInts_calls (zs : List Int) (a : Option Addr) (c : Nat) (w : World) (h : IntsW w a c zs) (hl : zs.length ≤ 100000) :
    Calls Try.prog 86 #[.slice a zs.length c] w fun e w' => ∃ a' c', e = .returned (.slice a' zs.length c') ∧ Span w.heap.size w'.heap.size w' (fun W => Ints W a' c' zs) ∧ w.grownBy w' none := by
  obtain ⟨n, hn⟩ : ∃ n, zs.length = n := ⟨_, rfl⟩
  rw [hn] at hl ⊢
  have HN := Lib.hid hn; clear hn
  cases a with
  | none =>
    obtain rfl : zs = [] := by
      obtain ⟨_, h | ⟨_, _, e, _⟩⟩ := h
      · exact h
      · cases e
    have q28 : ∀ (w : World) (a : Option Addr) (n c n' c' : Nat), (binOp .eql 28 (.slice a n c) (.slice none n' c')).run Try.prog w = .ok (.bool a.isNone) w := fun w a n c n' c' => Lib.run_eql_slice_nil w _ _ a n c n' c' Try.underlying28
    have hn0 : n = 0 := by rw [← HN.out]; rfl
    subst hn0
    go_enter Try.func86, Try.ntmps86
    go_wp2_with fail
    go_ret
    exact ⟨none, 0, rfl, ⟨Nat.le_refl _, fun W _ => ints_nil W⟩, grown_refl _ _⟩
  | some ad =>
    obtain ⟨i0, hi0, hz0, hz1, hz2⟩ := info_parts info3
    have HC := Lib.hid h.2; have hc := h.1; clear h
    rw [HN.out] at hc
    have q28 : ∀ (w : World) (a : Option Addr) (n c n' c' : Nat), (binOp .eql 28 (.slice a n c) (.slice none n' c')).run Try.prog w = .ok (.bool a.isNone) w := fun w a n c n' c' => Lib.run_eql_slice_nil w _ _ a n c n' c' Try.underlying28
    go_enter Try.func86, Try.ntmps86
    go_wp2_with (at_builtin; refine wpList_append_own _ rfl _ _ 28 rfl w.heap.size 3 i0 (.int .i64 0) 1 8 Try.underlying28 hi0 hz0 hz1 hz2 rfl (by decide) _ _ _ rfl (World.ownsRow_made w #[] 0 (Nat.le_refl _) (Nat.zero_le _) rfl) ad n c (intCells zs) rfl ?qc1 ?qc2 ?qc3 ?qc4 ?qc5 ?qc6 ?_)
    case qc1 => rw [intCells, List.length_map, HN.out]; omega
    case qc2 =>
      intro j u hj
      rw [intCells, List.getElem?_map] at hj
      cases hq : zs[j]? with
      | none => rw [hq] at hj; simp at hj
      | some z =>
        rw [hq] at hj
        simp only [Option.map_some, Option.some.injEq] at hj
        rcases HC.out with h0 | ⟨b, o, e, hz⟩
        · rw [h0] at hq; simp at hq
        · cases e
          have hadd : (⟨b, o, none⟩ : Addr).add j = ⟨b, o + j, none⟩ := by unfold Addr.add; split <;> simp_all
          rw [hadd, ← hj]
          exact (World.grownBy_alloc w _ none).cell (hz j z hq) (by simp)
    case qc3 => intro u hu; obtain ⟨x, _, rfl⟩ := List.mem_map.1 hu; rfl
    case qc4 => unfold maxLen; omega
    case qc5 => omega
    case qc6 => simp
    intro v' w1 hown hgrow hnil
    have hown' : w1.ownsRow w.heap.size 3 1 v' zs.length (intCells zs) := by rw [HN.out]; simpa using hown
    obtain ⟨a', c', rfl, hi⟩ := ints_span hown'
    have HR := Lib.hid hi; clear hi hown hown' hnil
    have HG : Hid (w.grownBy w1 none) := Lib.hid (grown_own (World.grownBy_alloc w _ none) hgrow (fun k hk => by simp [Value.ownBlock] at hk; omega))
    clear hgrow
    rw [HN.out]
    go_wp2
    go_ret
    exact ⟨a', c', rfl, HR.out, HG.out⟩

theorem results119 (tmps : Array Value) (w : World) (b : Nat) (a : Option Addr) (n c : Nat) (x : Int) (ht : tmps.getD 2 undef = .pointer (some ⟨b, 0, none⟩)) (h0 : w.cell? ⟨b, 0, none⟩ = some (.int .i64 x)) (h1 : w.cell? ⟨b, 1, none⟩ = some (.slice a n c)) :
    (results Try.f119 tmps).run Try.prog w = .ok (.agg #[.int .i64 x, .slice a n c]) w := by
  have ht' : tmps[2]?.getD undef = .pointer (some ⟨b, 0, none⟩) := by simpa using ht
  simp [results, ht', go_sem, h0, h1, Result.andThen]

theorem grown_frozen {w w' : World} {b : Nat} (h : w.grownBy w' none) (hb : b < w.heap.size) (o : Nat) : w'.frozen? ⟨b, o, none⟩ = w.frozen? ⟨b, o, none⟩ :=
  World.frozen?_of_block (a := ⟨b, o, none⟩) (h.block b hb (by simp))
theorem two_cells (w : World) (u0 u1 v0 v1 : Value) (s t : TypeId) :
    w.heap.size + 1 < ((w.alloc (.cells #[u0, u1] s)).alloc (.cells #[v0, v1] t)).heap.size ∧
    ((w.alloc (.cells #[u0, u1] s)).alloc (.cells #[v0, v1] t)).cell? ⟨w.heap.size, 0, none⟩ = some u0 ∧ ((w.alloc (.cells #[u0, u1] s)).alloc (.cells #[v0, v1] t)).cell? ⟨w.heap.size, 1, none⟩ = some u1 ∧
    ((w.alloc (.cells #[u0, u1] s)).alloc (.cells #[v0, v1] t)).cell? ⟨w.heap.size + 1, 0, none⟩ = some v0 ∧ ((w.alloc (.cells #[u0, u1] s)).alloc (.cells #[v0, v1] t)).cell? ⟨w.heap.size + 1, 1, none⟩ = some v1 ∧
    ((w.alloc (.cells #[u0, u1] s)).alloc (.cells #[v0, v1] t)).frozen? ⟨w.heap.size + 1, 0, none⟩ = false ∧ ((w.alloc (.cells #[u0, u1] s)).alloc (.cells #[v0, v1] t)).frozen? ⟨w.heap.size + 1, 1, none⟩ = false := by
  refine ⟨by simp, by go_simp, by go_simp, by go_simp, by go_simp, by go_simp, by go_simp⟩

set_option maxRecDepth 100000 in
set_option maxHeartbeats 1000000 in
theorem cloneRel_calls (x : Int) (zs : List Int) (a : Option Addr) (c : Nat) (w : World) (h : IntsW w a c zs) (hl : zs.length ≤ 100000) :
    Calls Try.prog 119 #[.agg #[.int .i64 x, .slice a zs.length c]] w fun e w' => ∃ a' c', e = .returned (.agg #[.int .i64 x, .slice a' zs.length c']) ∧ Span w.heap.size w'.heap.size w' (fun W => IntsW W a' c' zs) ∧ w.grownBy w' none := by
  obtain ⟨n, hn⟩ : ∃ n, zs.length = n := ⟨_, rfl⟩
  rw [hn] at hl ⊢
  have HN := Lib.hid hn; clear hn
  have hg1 := World.grownBy_alloc w (.cells #[.int .i64 x, .slice a n c] 53) none
  have hg2 := World.grownBy_alloc (w.alloc (.cells #[.int .i64 x, .slice a n c] 53)) (.cells #[.int .i64 0, .slice none 0 0] 53) none
  have HC := Lib.hid (And.intro (fun (W' : World) (hW' : World.grownBy _ W' none) => by
    have hf := cloneInts_calls zs a c W' ((h.grown (hg1.trans hg2)).grown hW') (by rw [HN.out]; exact hl)
    rw [HN.out] at hf; exact hf) (hg1.trans hg2))
  clear hg1 hg2 h
  go_enter Try.func119, Try.ntmps119
  go_wp2_with fail
  have hc := two_cells w (.int .i64 x) (.slice a n c) (.int .i64 0) (.slice none 0 0) 53 53
  obtain ⟨W, hW⟩ : ∃ W, (w.alloc (.cells #[.int .i64 x, .slice a n c] 53)).alloc (.cells #[.int .i64 0, .slice none 0 0] 53) = W := ⟨_, rfl⟩
  rw [hW] at HC hc ⊢
  clear hW
  obtain ⟨hlt, c0, c1, e0, e1, ef0, ef1⟩ := hc
  go_region_with (go_at_call 86; refine (HC.out.1 W.drew (grown_drewN W 1 _)).mono ?_; rintro e w3 ⟨a', c', rfl, hi, g3⟩; have HI := Lib.hid hi; clear hi; replace g3 := World.grownBy.trans (b := W.drew) (grown_drewN W 1 _) g3; have k0 := g3.cell c0 (by simp); have k1 := g3.cell c1 (by simp); have m0 := g3.cell e0 (by simp); have m1 := g3.cell e1 (by simp); have f0 := (grown_frozen g3 hlt 0).trans ef0; have f1 := (grown_frozen g3 hlt 1).trans ef1; have HG3 := Lib.hid g3; clear g3)
  all_goals
    go_wp2_with fail
    refine bodyPost_ret (results119 _ _ (w.heap.size + 1) a' n c' x rfl (by rw [World.cell?_setCell_other _ _ _ _ (by intro e; injection e with _ e; cases e)]; exact World.cell?_setCell_same _ _ _ m0) (World.cell?_setCell_same _ _ _ (by rw [World.cell?_setCell_other _ _ _ _ (by intro e; injection e with _ e; cases e)]; exact m1))) rfl ⟨a', c', rfl, ?_, ?_⟩
    · have hs := HI.out
      have hs2 := (hs.off (grown_set w3 (w.heap.size + 1) 0 (.int .i64 x)) (fun y hy => by cases hy; exact .inl (by simpa using hlt))).off (grown_set _ (w.heap.size + 1) 1 (.slice a' n c')) (fun y hy => by cases hy; exact .inl (by simpa using hlt))
      exact (hs2.wide (Nat.le_trans HC.out.2.size (Nat.le_refl _)) (by simp [World.setCell]) (Nat.le_refl _)).map fun _ h => h.weak
    · have hg := HC.out.2.trans HG3.out
      have hg1 := grown_own hg (grown_set w3 (w.heap.size + 1) 0 (.int .i64 x)) (fun k hk => by cases hk; omega)
      exact grown_own hg1 (grown_set _ (w.heap.size + 1) 1 (.slice a' n c')) (fun k hk => by cases hk; omega)

theorem relFlat_take {l : List Rl} {j : Nat} {r : Rl} (h : l[j]? = some r) : l.take (j + 1) = l.take j ++ [r] := by
  rw [List.take_add_one, h, Option.toList_some]

set_option maxRecDepth 100000 in
set_option maxHeartbeats 2000000 in
theorem cloneRels_calls (l : List Rl) (a : Option Addr) (c : Nat) (w : World) (h : Rels w a c l) (hl : l.length ≤ 100000) (hr : ∀ r ∈ l, r.2.length ≤ 100000) :
    Calls Try.prog 118 #[.slice a l.length c, .func (.func 119) #[] #[]] w fun e w' => ∃ a' c', e = .returned (.slice a' l.length c') ∧ Span w.heap.size w'.heap.size w' (fun W => Rels W a' c' l) ∧ w.grownBy w' none := by
  obtain ⟨n, hn⟩ : ∃ n, l.length = n := ⟨_, rfl⟩
  rw [hn] at hl ⊢
  have HN := Lib.hid hn; clear hn
  have HH := Lib.hid (And.intro h hr); clear h hr
  obtain ⟨i0, hi0, hz0, hz1, hz2⟩ := info_parts info53
  go_enter Try.func118, Try.ntmps118
  go_wp2_with fail
  go_loopg [5, 10] n (fun g s5 s10 wr => ∃ (i : Nat) (D : List Dr), s10 = .int .i64 (i : Int) ∧ g = n - i ∧ i ≤ n ∧ D.map (·.1) = l.take i ∧ OutR wr w.heap.size s5 D ∧ w.grownBy wr none)
  case atStart => exact ⟨0, [], rfl, rfl, Nat.zero_le _, rfl, Out.start _ _ _, grown_refl _ _⟩
  case round =>
    obtain ⟨i, D, rfl, hgi, hi, hD, hO, hgr⟩ := hrel
    have hDl : D.length = i := by rw [← List.length_map (f := (·.1)), hD, List.length_take, HN.out]; omega
    have HI := Lib.hid (And.intro hgi (And.intro hD (And.intro hgr hDl))); clear hgi hD hgr
    have HO := Lib.hid hO; clear hO
    by_cases hin : i < n
    · have hinB : decide (i < n) = true := by simpa using hin
      have hinI : (i : Int) < (n : Int) := by omega
      obtain ⟨r, hx⟩ : ∃ r, l[i]? = some r := ⟨_, List.getElem?_eq_getElem (by rw [HN.out]; exact hin)⟩
      obtain ⟨b, o, rfl, c0, la, lc, c1, hints⟩ := (HH.out.1.grown HI.out.2.2.1).2 i r hx
      have HX := Lib.hid (And.intro hx hints); clear hx hints
      obtain ⟨ga, gc, hs5⟩ := own_shape HO.out.own
      subst hs5
      rw [hDl] at HO ⊢
      clear hDl
      go_wp2_with fail
      refine (cloneRel_calls r.1 r.2 la lc _ (HX.out.2.grown (World.grownBy_alloc _ _ none)) (HH.out.2 r (List.mem_of_getElem? HX.out.1))).mono ?_
      rintro e w1 ⟨a', c', rfl, hs, hg⟩
      have hg2 := (World.grownBy_alloc wr (.cells #[.int .i64 r.1, .slice la r.2.length lc] 53) none).trans hg
      have hsz := Nat.le_trans HI.out.2.2.1.size hg2.size
      have HO1 := Lib.hid (Out.quiet HO.out hg2 (fun x e => by cases e))
      have hlo : ∀ x, (Value.slice ga i gc).ownBlock = some x → x < (wr.alloc (.cells #[.int .i64 r.1, .slice la r.2.length lc] 53)).heap.size ∨ w1.heap.size ≤ x := fun x hx => by
        have := (HO.out.own.lt x hx).2
        simp only [World.size_alloc]; omega
      have hB : w.heap.size ≤ (wr.alloc (.cells #[.int .i64 r.1, .slice la r.2.length lc] 53)).heap.size := by have := HI.out.2.2.1.size; simp only [World.size_alloc]; omega
      have HS := Lib.hid (And.intro hs (And.intro hB (And.intro hlo (HI.out.2.2.1.trans hg2)))); clear hs hB hlo hg hg2
      have HOW : Hid (w1.ownsRow w.heap.size 53 2 (.slice ga i gc) i (D.flatMap relCells)) := Lib.hid (by have := HO1.out.own; rw [HI.out.2.2.2] at this; exact this)
      go_wp2_with (at_builtin; refine wpList_append_own_at _ rfl _ _ 40 rfl w.heap.size 53 i0 (.agg #[.int .i64 0, .slice none 0 0]) 2 32 Try.underlying40 hi0 hz0 hz1 hz2 rfl (by decide) _ _ _ rfl (HOW.out.alloc _) ⟨w1.heap.size, 0, none⟩ 1 1 [.int .i64 r.1, .slice a' r.2.length c'] rfl rfl (cell_two_new _ _ _ _) (fun u hu => by simp at hu; rcases hu with rfl | rfl <;> rfl) (by unfold maxLen; omega) (by omega) (by simp only [World.size_alloc]; omega) ?_; intro v' w3 hown' hgrow3 hnil3 hat3; obtain ⟨g', cap', rfl⟩ := own_shape hown')
      go_roundg (n - (i + 1))
      case measure => rw [HI.out.1]; omega
      case rel =>
        refine ⟨i + 1, D ++ [(r, a', c')], rfl, rfl, by omega, by rw [List.map_append, HI.out.2.1, relFlat_take HX.out.1]; rfl, ?_, ?_⟩
        · exact Out.push HO1.out HS.out.1 HS.out.2.1 HS.out.2.2.1 (by rw [HI.out.2.2.2]; exact hown') hgrow3 hat3
        · exact grown_own (HS.out.2.2.2.trans (World.grownBy_alloc _ _ none)) hgrow3 (fun k hk => (HOW.out.lt k hk).1)
    · have hie : i = n := by omega
      subst hie
      have hinB : decide (i < i) = false := by simp
      obtain ⟨a', c', hv, hsp⟩ := OutR.rels HO.out
      rw [HI.out.2.1, List.take_of_length_le (by rw [HN.out]; exact Nat.le_refl _), HN.out] at hv
      rw [HI.out.2.1, List.take_of_length_le (by rw [HN.out]; exact Nat.le_refl _)] at hsp
      subst hv
      have HSP := Lib.hid hsp; clear hsp
      go_wp2_with fail
      go_ret
      exact ⟨a', c', rfl, HSP.out, HI.out.2.2.1⟩

set_option maxRecDepth 100000 in
set_option maxHeartbeats 1000000 in
theorem cloneState_calls (l : List Rl) (a : Option Addr) (c : Nat) (w : World) (h : Rels w a c l) (hl : l.length ≤ 100000) (hr : ∀ r ∈ l, r.2.length ≤ 100000) :
    Calls Try.prog 79 #[.slice a l.length c] w fun e w' => ∃ a' c', e = .returned (.slice a' l.length c') ∧ Span w.heap.size w'.heap.size w' (fun W => Rels W a' c' l) ∧ w.grownBy w' none := by
  go_enter Try.func79, Try.ntmps79
  go_wp2_with fail
  refine (cloneRels_calls l a c w h hl hr).mono ?_
  rintro e w' ⟨a', c', rfl, hs, hg⟩
  have HS := Lib.hid (And.intro hs hg); clear hs hg
  go_wp2
  go_ret
  exact ⟨a', c', rfl, HS.out.1, HS.out.2⟩
end Go.Proofs.Ytbddpjofhddilaa
/- The state at a time; the reference's comparisons. -/
namespace Go.Proofs.Ytbddpjofhddilaa
open Go.RowKit

theorem indexI_in {k : Nat} {lp t : Int} (hl0 : 0 ≤ lp) (hl1 : lp < (k : Int)) (ht : 0 ≤ t) : 0 ≤ indexI k lp t ∧ indexI k lp t < (k : Int) := by
  unfold indexI
  split
  · omega
  · have h1 := Int.emod_nonneg (t - lp) (b := (k : Int) - lp) (by omega)
    have h2 := Int.emod_lt_of_pos (t - lp) (b := (k : Int) - lp) (by omega)
    omega
/-- The state at a time. -/
def atL (L : List (List Rl)) (lp t : Int) : List Rl := L.getD (indexI L.length lp t).toNat []

set_option maxRecDepth 100000 in
set_option maxHeartbeats 1000000 in
theorem at_neg (sa : Option Addr) (n sc : Nat) (st : Int) (ta : Option Addr) (k tc : Nat) (lp t : Int) (w : World) (ht : t < 0) :
    Calls Try.prog 26 #[.agg #[.slice sa n sc, .int .i64 st, .slice ta k tc, .int .i64 lp], .int .i64 t] w fun e w' => e = .returned (.slice none 0 0) ∧ w.grownBy w' none := by
  have HG := Lib.hid (World.grownBy_alloc w (.cells #[.slice sa n sc, .int .i64 st, .slice ta k tc, .int .i64 lp] 33) none)
  have f0 : decide (t < 0) = true := decide_eq_true ht
  clear ht
  go_enter Try.func26, Try.ntmps26
  go_wp2_with fail
  go_ret
  exact ⟨rfl, HG.out⟩

theorem held_nextM {wr W W' : World} {b sb so : Nat} {v0 v1 v2 v3 u : Value} (g : W.grownBy W' none) (h : wr.grownBy W none)
    (h0 : W.cell? ⟨b, 0, none⟩ = some v0) (h1 : W.cell? ⟨b, 1, none⟩ = some v1) (h2 : W.cell? ⟨b, 2, none⟩ = some v2) (h3 : W.cell? ⟨b, 3, none⟩ = some v3) (h4 : W.cell? ⟨sb, so, none⟩ = some u) :
    wr.grownBy W' none ∧ W'.cell? ⟨b, 0, none⟩ = some v0 ∧ W'.cell? ⟨b, 1, none⟩ = some v1 ∧ W'.cell? ⟨b, 2, none⟩ = some v2 ∧ W'.cell? ⟨b, 3, none⟩ = some v3 ∧ W'.cell? ⟨sb, so, none⟩ = some u :=
  ⟨h.trans g, g.cell h0 (by simp), g.cell h1 (by simp), g.cell h2 (by simp), g.cell h3 (by simp), g.cell h4 (by simp)⟩
theorem four_cells (w : World) (u0 u1 u2 u3 : Value) (t : TypeId) : (w.alloc (.cells #[u0, u1, u2, u3] t)).cell? ⟨w.heap.size, 0, none⟩ = some u0 ∧ (w.alloc (.cells #[u0, u1, u2, u3] t)).cell? ⟨w.heap.size, 1, none⟩ = some u1 ∧
    (w.alloc (.cells #[u0, u1, u2, u3] t)).cell? ⟨w.heap.size, 2, none⟩ = some u2 ∧ (w.alloc (.cells #[u0, u1, u2, u3] t)).cell? ⟨w.heap.size, 3, none⟩ = some u3 := by
  refine ⟨by go_simp, by go_simp, by go_simp, by go_simp⟩

set_option maxRecDepth 100000 in
set_option maxHeartbeats 2000000 in
theorem at_calls (sa : Option Addr) (n sc : Nat) (st : Int) (ta : Option Addr) (L : List (List Rl)) (tc : Nat) (lp t : Int) (w : World) (h : Sts w ta tc L) (hlo : loopedB L.length lp = true) (ht0 : 0 ≤ t) (ht1 : t ≤ 9223372036854775807)
    (hr : ∀ l ∈ L, l.length ≤ 100000 ∧ ∀ r ∈ l, r.2.length ≤ 100000) :
    Calls Try.prog 26 #[.agg #[.slice sa n sc, .int .i64 st, .slice ta L.length tc, .int .i64 lp], .int .i64 t] w fun e w' =>
      ∃ a' c', e = .returned (.slice a' (atL L lp t).length c') ∧ Span w.heap.size w'.heap.size w' (fun W => Rels W a' c' (atL L lp t)) ∧ w.grownBy w' none := by
  have hlo' := loopedB_iff.1 hlo
  obtain ⟨hi0, hi1⟩ := indexI_in hlo'.2.2.1 hlo'.2.2.2 ht0
  obtain ⟨I, hI⟩ : ∃ I : Nat, indexI L.length lp t = (I : Int) := ⟨_, (Int.toNat_of_nonneg hi0).symm⟩
  rw [hI] at hi0 hi1
  obtain ⟨l, hl⟩ : ∃ l, L[I]? = some l := ⟨_, List.getElem?_eq_getElem (by omega)⟩
  have hat : atL L lp t = l := by unfold atL; rw [hI, Int.toNat_natCast, List.getD_eq_getElem?_getD, hl]; rfl
  rw [hat]
  have hg1 := World.grownBy_alloc w (.cells #[.slice sa n sc, .int .i64 st, .slice ta L.length tc, .int .i64 lp] 33) none
  obtain ⟨sb, so, rfl, la, lc, cs, hrels⟩ := (h.grown hg1).2 I l hl
  have hfc := four_cells w (.slice sa n sc) (.int .i64 st) (.slice (some ⟨sb, so, none⟩) L.length tc) (.int .i64 lp) 33
  have HIX := Lib.hid (fun (W' : World) => index_calls sa n sc st (some ⟨sb, so, none⟩) L.length tc lp t W' hlo'.2.1 hlo'.2.2.1 hlo'.2.2.2 ht0 ht1)
  have HLO := Lib.hid (fun (W' : World) => looped_calls sa n sc st (some ⟨sb, so, none⟩) L.length tc lp W')
  rw [hI] at HIX
  rw [hlo] at HLO
  obtain ⟨k, hk⟩ : ∃ k, L.length = k := ⟨_, rfl⟩
  rw [hk] at hi1 HIX HLO hfc hg1 cs hrels ⊢
  obtain ⟨W, hW⟩ : ∃ W, w.alloc (.cells #[.slice sa n sc, .int .i64 st, .slice (some ⟨sb, so, none⟩) k tc, .int .i64 lp] 33) = W := ⟨_, rfl⟩
  rw [hW] at hfc hg1 cs hrels
  obtain ⟨c0, c1, c2, c3⟩ := hfc
  have hrl := hr l (List.mem_of_getElem? hl)
  have HST := Lib.hid (fun (W' : World) (hW' : W.grownBy W' none) => cloneState_calls l la lc W' (hrels.grown hW') hrl.1 hrl.2)
  have HG := Lib.hid hg1
  have f0 : decide (t < 0) = false := decide_eq_false (by omega)
  have hIk : (I : Int) < (k : Int) := hi1
  obtain ⟨p, hp⟩ : ∃ p, l.length = p := ⟨_, rfl⟩
  rw [hp] at cs HST ⊢
  clear hrels hrl hr hl hat hI hlo hlo' h hk hp hg1 ht0 hi0
  go_enter Try.func26, Try.ntmps26
  go_wp2_with fail
  clear hW
  refine (HLO.out _).mono ?_
  rintro e W1 ⟨rfl, g1⟩
  have d0 := g1.cell c0 (by simp)
  have d1 := g1.cell c1 (by simp)
  have d2 := g1.cell c2 (by simp)
  have d3 := g1.cell c3 (by simp)
  have ds := g1.cell cs (by simp)
  have HG1 := Lib.hid g1; clear g1 c0 c1 c2 c3 cs
  have HST1 := Lib.hid (fun (W' : World) (hW' : W1.grownBy W' none) => HST.out W' (HG1.out.trans hW'))
  go_wp2_with fail
  go_region_held3 (fun w' => W1.grownBy w' none ∧ w'.cell? ⟨w.heap.size, 0, none⟩ = some (.slice sa n sc) ∧ w'.cell? ⟨w.heap.size, 1, none⟩ = some (.int .i64 st) ∧ w'.cell? ⟨w.heap.size, 2, none⟩ = some (.slice (some ⟨sb, so, none⟩) k tc) ∧ w'.cell? ⟨w.heap.size, 3, none⟩ = some (.int .i64 lp) ∧ w'.cell? ⟨sb, so + I, none⟩ = some (.slice la p lc))
    (first | exact ⟨⟨rfl, rfl, rfl, Nat.le_refl _, fun _ _ _ => rfl⟩, d0, d1, d2, d3, ds⟩ | (go_split_ands; exact held_nextM g3 (by assumption) (by assumption) (by assumption) (by assumption) (by assumption) (by assumption)) | fail)
    (first | (go_at_call 80; with_reducible refine (HIX.out _).mono ?_; rintro e w3 ⟨rfl, g3⟩; have hsz : W1.heap.size ≤ w3.heap.size := (by first | exact g3.size | (go_split_ands; exact Nat.le_trans (World.grownBy.size (by assumption)) g3.size))) | (go_at_call 79; with_reducible refine (HST1.out _ ?_).mono ?_; (go_split_ands; assumption); rintro e w4 ⟨a', c', rfl, hs, g3⟩) | fail)
  all_goals
    have h14 : W1.grownBy w4 none := by go_split_ands; assumption
    have HS := Lib.hid (And.intro (hs.wide (Nat.le_trans (HG.out.trans HG1.out).size hsz) (Nat.le_refl _) (Nat.le_refl _)) ((HG.out.trans HG1.out).trans h14))
    clear hs h14
    go_wp2
    go_ret
    exact ⟨a', c', rfl, HS.out.1, HS.out.2⟩

set_option maxRecDepth 100000 in
set_option maxHeartbeats 2000000 in
theorem rRelEqual_calls (x y : Rl) (a a' : Option Addr) (c c' : Nat) (w : World) (h : IntsW w a c x.2) (h' : IntsW w a' c' y.2) (hl : (x.2.length : Int) ≤ 9223372036854775807) :
    Calls Try.prog 59 #[.agg #[.int .i64 x.1, .slice a x.2.length c], .agg #[.int .i64 y.1, .slice a' y.2.length c']] w
      fun e w' => e = .returned (.bool (decide (x = y))) ∧ w.grownBy w' none := by
  obtain ⟨kx, lx⟩ := x
  obtain ⟨ky, ly⟩ := y
  simp only at h h' hl ⊢
  obtain ⟨n, hn⟩ : ∃ n, lx.length = n := ⟨_, rfl⟩
  obtain ⟨m, hm⟩ : ∃ m, ly.length = m := ⟨_, rfl⟩
  have hg : w.grownBy ((w.alloc (.cells #[.int .i64 kx, .slice a lx.length c] 53)).alloc (.cells #[.int .i64 ky, .slice a' ly.length c'] 53)) none := (World.grownBy_alloc _ _ none).trans (World.grownBy_alloc _ _ none)
  have hc := two_cells w (.int .i64 kx) (.slice a lx.length c) (.int .i64 ky) (.slice a' ly.length c') 53 53
  rw [hn, hm] at hg hc
  rw [hn] at hl
  rw [hn, hm]
  have HN := Lib.hid (And.intro hn hm); clear hn hm
  have HH := Lib.hid (And.intro (h.grown hg) (h'.grown hg)); clear h h'
  by_cases hk : kx = ky
  · have k1 : (kx != ky) = false := by simpa using hk
    subst hk
    by_cases hnm : n = m
    · have k2 : ((n : Int) != (m : Int)) = false := by simp; omega
      subst hnm
      have HG := Lib.hid hg; clear hg
      go_enter Try.func59, Try.ntmps59
      go_wp2_with fail
      obtain ⟨W, hW⟩ : ∃ W, (w.alloc (.cells #[.int .i64 kx, .slice a n c] 53)).alloc (.cells #[.int .i64 kx, .slice a' n c'] 53) = W := ⟨_, rfl⟩
      rw [hW] at HG HH hc ⊢
      clear hW
      obtain ⟨-, c0, c1, e0, e1, -, -⟩ := hc
      go_loopg [5] n (fun g s5 wr => ∃ i : Nat, s5 = .int .i64 (i : Int) ∧ g = n - i ∧ i ≤ n ∧ (∀ j, j < i → lx[j]? = ly[j]?) ∧ ∃ q, wr = W.drewN q)
      case atStart => exact ⟨0, rfl, rfl, Nat.zero_le _, fun j hj => absurd hj (Nat.not_lt_zero _), 0, rfl⟩
      case round =>
        obtain ⟨i, rfl, hgi, hi, hok, q, rfl⟩ := hrel
        have HGI := Lib.hid (And.intro hgi hok); clear hgi hok
        by_cases hin : i < n
        · have hinB : decide (i < n) = true := by simpa using hin
          have hinI : (i : Int) < (n : Int) := by omega
          obtain ⟨x, hx⟩ : ∃ x, lx[i]? = some x := ⟨_, List.getElem?_eq_getElem (by rw [HN.out.1]; exact hin)⟩
          obtain ⟨y, hy⟩ : ∃ y, ly[i]? = some y := ⟨_, List.getElem?_eq_getElem (by rw [HN.out.2]; exact hin)⟩
          obtain ⟨b, o, rfl, hcell⟩ := HH.out.1.at hx
          obtain ⟨b', o', rfl, hcell'⟩ := HH.out.2.at hy
          have HX := Lib.hid (And.intro hx hy); clear hx hy
          by_cases hxy : x = y
          · subst hxy
            have hb2 : (x != x) = false := by simp
            go_wp2
            go_quiet (fail)
            go_wp2
            go_roundg (n - (i + 1))
            case measure => rw [HGI.out.1]; omega
            case rel => exact ⟨i + 1, rfl, rfl, by omega, agree_step HGI.out.2 (by rw [HX.out.1, HX.out.2]), _, rfl⟩
          · have hb2 : (x != y) = true := by simpa using hxy
            have HR : Hid (decide ((kx, lx) = (kx, ly)) = false) := Lib.hid (decide_eq_false (by intro e; injection e with _ e; exact list_ne HX.out.1 HX.out.2 hxy e))
            clear hxy
            go_wp2
            go_quiet (fail)
            go_wp2
            go_ret
            exact ⟨by rw [HR.out]; rfl, HG.out.trans (by first | exact grown_drewN _ _ _ | (rw [World.drewN_drewN]; exact grown_drewN _ _ _))⟩
        · have hie : i = n := by omega
          subst hie
          have hinB : decide (i < i) = false := by simp
          have HR : Hid (decide ((kx, lx) = (kx, ly)) = true) := Lib.hid (decide_eq_true (by rw [list_eq HN.out.1 HN.out.2 HGI.out.2]))
          go_wp2
          go_ret
          exact ⟨by rw [HR.out]; rfl, HG.out.trans (grown_drewN _ _ _)⟩
    · have k2 : ((n : Int) != (m : Int)) = true := by simp; omega
      have HR : Hid (decide ((kx, lx) = (kx, ly)) = false) := Lib.hid (decide_eq_false (by intro e; injection e with _ e; have h1 := HN.out.1; have h2 := HN.out.2; rw [e] at h1; omega))
      have HG := Lib.hid hg; clear hg hnm
      go_enter Try.func59, Try.ntmps59
      go_wp2_with fail
      go_ret
      exact ⟨by rw [HR.out]; rfl, HG.out⟩
  · have k1 : (kx != ky) = true := by simpa using hk
    have HR : Hid (decide ((kx, lx) = (ky, ly)) = false) := Lib.hid (decide_eq_false (by intro e; injection e with e _; exact hk e))
    have HG := Lib.hid hg; clear hg hk
    go_enter Try.func59, Try.ntmps59
    go_wp2_with fail
    go_ret
    exact ⟨by rw [HR.out]; rfl, HG.out⟩
end Go.Proofs.Ytbddpjofhddilaa
/- The reference's comparison of two states; two models are compared. -/
namespace Go.Proofs.Ytbddpjofhddilaa
open Go.RowKit

theorem held_next4' {wr W W' : World} {a b c d : Addr} {x y z u : Value} (g : W.grownBy W' none) (h1 : wr.grownBy W none) (h2 : W.cell? a = some x) (h3 : W.cell? b = some y) (h4 : W.cell? c = some z) (h5 : W.cell? d = some u) :
    wr.grownBy W' none ∧ W'.cell? a = some x ∧ W'.cell? b = some y ∧ W'.cell? c = some z ∧ W'.cell? d = some u :=
  ⟨h1.trans g, g.cell h2 (by simp), g.cell h3 (by simp), g.cell h4 (by simp), g.cell h5 (by simp)⟩

theorem eight_cells (w : World) (u0 u1 u2 u3 v0 v1 v2 v3 : Value) (s t : TypeId) : (((w.alloc (.cells #[u0, u1, u2, u3] s)).alloc (.cells #[v0, v1, v2, v3] t)).cell? ⟨w.heap.size, 0, none⟩ = some u0 ∧ ((w.alloc (.cells #[u0, u1, u2, u3] s)).alloc (.cells #[v0, v1, v2, v3] t)).cell? ⟨w.heap.size, 1, none⟩ = some u1 ∧
    ((w.alloc (.cells #[u0, u1, u2, u3] s)).alloc (.cells #[v0, v1, v2, v3] t)).cell? ⟨w.heap.size, 2, none⟩ = some u2 ∧ ((w.alloc (.cells #[u0, u1, u2, u3] s)).alloc (.cells #[v0, v1, v2, v3] t)).cell? ⟨w.heap.size, 3, none⟩ = some u3) ∧
    ((w.alloc (.cells #[u0, u1, u2, u3] s)).alloc (.cells #[v0, v1, v2, v3] t)).cell? ⟨w.heap.size + 1, 0, none⟩ = some v0 ∧ ((w.alloc (.cells #[u0, u1, u2, u3] s)).alloc (.cells #[v0, v1, v2, v3] t)).cell? ⟨w.heap.size + 1, 1, none⟩ = some v1 ∧
    ((w.alloc (.cells #[u0, u1, u2, u3] s)).alloc (.cells #[v0, v1, v2, v3] t)).cell? ⟨w.heap.size + 1, 2, none⟩ = some v2 ∧ ((w.alloc (.cells #[u0, u1, u2, u3] s)).alloc (.cells #[v0, v1, v2, v3] t)).cell? ⟨w.heap.size + 1, 3, none⟩ = some v3 := by
  refine ⟨⟨by go_simp, by go_simp, by go_simp, by go_simp⟩, by go_simp, by go_simp, by go_simp, by go_simp⟩

set_option maxRecDepth 100000 in
set_option maxHeartbeats 2000000 in
theorem rSame_calls (l m : List Rl) (a a' : Option Addr) (c c' : Nat) (w : World) (h : Rels w a c l) (h' : Rels w a' c' m) (hlen : Len l) :
    Calls Try.prog 25 #[.slice a l.length c, .slice a' m.length c'] w fun e w' => e = .returned (.bool (decide (l = m))) ∧ w.grownBy w' none := by
  obtain ⟨hl, hlits⟩ := hlen
  obtain ⟨n, hn⟩ : ∃ n, l.length = n := ⟨_, rfl⟩
  obtain ⟨n', hn'⟩ : ∃ n', m.length = n' := ⟨_, rfl⟩
  rw [hn] at hl ⊢
  rw [hn']
  have HN := Lib.hid (And.intro hn hn')
  have HH := Lib.hid (And.intro h (And.intro h' hlits)); clear h h' hlits
  by_cases hnm : n = n'
  · have hB : ((n : Int) != (n' : Int)) = false := by simp; omega
    subst hnm
    clear hn hn'
    go_enter Try.func25, Try.ntmps25
    go_wp2
    go_loopg [5] n (fun g s5 wr => ∃ i : Nat, s5 = .int .i64 (i : Int) ∧ g = n - i ∧ i ≤ n ∧ (∀ j, j < i → l[j]? = m[j]?) ∧ w.grownBy wr none)
    case atStart => exact ⟨0, rfl, rfl, Nat.zero_le _, fun j hj => absurd hj (Nat.not_lt_zero _), grown_refl _ _⟩
    case round =>
      obtain ⟨i, rfl, hgi, hi, hok, hgr⟩ := hrel
      have HGI := Lib.hid (And.intro hgi (And.intro hok hgr)); clear hgi hok hgr
      by_cases hin : i < n
      · have hinB : decide (i < n) = true := by simpa using hin
        have hinI : (i : Int) < (n : Int) := by omega
        obtain ⟨x, hx⟩ : ∃ x, l[i]? = some x := ⟨_, List.getElem?_eq_getElem (by rw [HN.out.1]; exact hin)⟩
        obtain ⟨y, hy⟩ : ∃ y, m[i]? = some y := ⟨_, List.getElem?_eq_getElem (by rw [HN.out.2]; exact hin)⟩
        obtain ⟨b, o, rfl, c0, la, lc, c1, hints⟩ := (HH.out.1.grown HGI.out.2.2).2 i x hx
        obtain ⟨b', o', rfl, d0, la', lc', d1, hints'⟩ := (HH.out.2.1.grown HGI.out.2.2).2 i y hy
        have HK := Lib.hid (HH.out.2.2 x (List.mem_of_getElem? hx))
        have HX := Lib.hid (And.intro hx hy); clear hx hy
        have HE := Lib.hid (fun (W' : World) (hW' : wr.grownBy W' none) => rRelEqual_calls x y la la' lc lc' W' (hints.grown hW') (hints'.grown hW') HK.out)
        clear hints hints'
        obtain ⟨B, hBB⟩ : ∃ B, decide (x = y) = B := ⟨_, rfl⟩
        rw [hBB] at HE
        have HBB := Lib.hid hBB; clear hBB
        go_wp2_with fail
        go_region_held3 (fun w' => wr.grownBy w' none ∧ w'.cell? ⟨b, o + i * 2, none⟩ = some (.int .i64 x.1) ∧ w'.cell? ⟨b, o + i * 2 + 1, none⟩ = some (.slice la x.2.length lc) ∧ w'.cell? ⟨b', o' + i * 2, none⟩ = some (.int .i64 y.1) ∧ w'.cell? ⟨b', o' + i * 2 + 1, none⟩ = some (.slice la' y.2.length lc'))
          (first | exact ⟨⟨rfl, rfl, rfl, Nat.le_refl _, fun _ _ _ => rfl⟩, c0, c1, d0, d1⟩ | (go_split_ands; exact held_next4' g3 (by assumption) (by assumption) (by assumption) (by assumption) (by assumption)) | fail)
          (first | (go_at_call 59; with_reducible refine (HE.out _ ?_).mono ?_; (go_split_ands; assumption); rintro e w3 ⟨rfl, g3⟩) | fail)
        all_goals
          have h3 : wr.grownBy w3 none := by go_split_ands; assumption
          have HG := Lib.hid (HGI.out.2.2.trans h3); clear h3
          cases B with
          | true =>
            have HQ : Hid (l[i]? = m[i]?) := Lib.hid (by rw [HX.out.1, HX.out.2, of_decide_eq_true HBB.out])
            go_wp2_with fail
            go_roundg (n - (i + 1))
            case measure => rw [HGI.out.1]; omega
            case rel => exact ⟨i + 1, rfl, rfl, by omega, agree_step HGI.out.2.1 HQ.out, HG.out⟩
          | false =>
            have HR : Hid (decide (l = m) = false) := Lib.hid (decide_eq_false (list_ne HX.out.1 HX.out.2 (of_decide_eq_false HBB.out)))
            go_wp2_with fail
            go_ret
            exact ⟨by rw [HR.out]; rfl, HG.out⟩
      · have hie : i = n := by omega
        subst hie
        have hinB : decide (i < i) = false := by simp
        have HR : Hid (decide (l = m) = true) := Lib.hid (decide_eq_true (list_eq HN.out.1 HN.out.2 HGI.out.2.1))
        go_wp2
        go_ret
        exact ⟨by rw [HR.out]; rfl, HGI.out.2.2⟩
  · have hB : ((n : Int) != (n' : Int)) = true := by simp; omega
    have HR : Hid (decide (l = m) = false) := Lib.hid (decide_eq_false (by rintro rfl; omega))
    clear hn hn'
    go_enter Try.func25, Try.ntmps25
    go_wp2
    go_ret
    exact ⟨by rw [HR.out]; rfl, grown_refl _ _⟩

set_option maxHeartbeats 2000000 in
theorem equalTraces_calls (l m : List (List Rl)) (a a' : Option Addr) (c c' : Nat) (w : World) (h : Sts w a c l) (h' : Sts w a' c' m) (hlen : Lens l) :
    Calls Try.prog 76 #[.slice a l.length c, .slice a' m.length c', .func (.func 77) #[] #[]] w fun e w' => e = .returned (.bool (decide (l = m))) ∧ w.grownBy w' none := by
  obtain ⟨hl, hlits⟩ := hlen
  obtain ⟨n, hn⟩ : ∃ n, l.length = n := ⟨_, rfl⟩
  obtain ⟨n', hn'⟩ : ∃ n', m.length = n' := ⟨_, rfl⟩
  rw [hn] at hl ⊢
  rw [hn']
  have HN := Lib.hid (And.intro hn hn')
  have HH := Lib.hid (And.intro h (And.intro h' hlits)); clear h h' hlits
  by_cases hnm : n = n'
  · have hB : ((n : Int) != (n' : Int)) = false := by simp; omega
    subst hnm
    clear hn hn'
    go_enter Try.func76, Try.ntmps76
    go_wp2
    go_loopg [17] n (fun g s5 wr => ∃ i : Nat, s5 = .int .i64 (i : Int) ∧ g = n - i ∧ i ≤ n ∧ (∀ j, j < i → l[j]? = m[j]?) ∧ w.grownBy wr none)
    case atStart => exact ⟨0, rfl, rfl, Nat.zero_le _, fun j hj => absurd hj (Nat.not_lt_zero _), grown_refl _ _⟩
    case round =>
      obtain ⟨i, rfl, hgi, hi, hok, hgr⟩ := hrel
      have HGI := Lib.hid (And.intro hgi (And.intro hok hgr)); clear hgi hok hgr
      by_cases hin : i < n
      · have hinB : decide (i < n) = true := by simpa using hin
        have hinI : (i : Int) < (n : Int) := by omega
        obtain ⟨x, hx⟩ : ∃ x, l[i]? = some x := ⟨_, List.getElem?_eq_getElem (by rw [HN.out.1]; exact hin)⟩
        obtain ⟨y, hy⟩ : ∃ y, m[i]? = some y := ⟨_, List.getElem?_eq_getElem (by rw [HN.out.2]; exact hin)⟩
        obtain ⟨b, o, rfl, la, lc, c1, hints⟩ := (HH.out.1.grown HGI.out.2.2).2 i x hx
        obtain ⟨b', o', rfl, la', lc', d1, hints'⟩ := (HH.out.2.1.grown HGI.out.2.2).2 i y hy
        have HK := Lib.hid (HH.out.2.2 x (List.mem_of_getElem? hx))
        have HX := Lib.hid (And.intro hx hy); clear hx hy
        have HI := Lib.hid (And.intro hints hints'); clear hints hints'
        go_wp2_with fail
        refine (equalStates_calls x y la la' lc lc' _ HI.out.1 HI.out.2 HK.out).mono ?_
        rintro e w' ⟨rfl, hg⟩
        have HG := Lib.hid (HGI.out.2.2.trans hg); clear hg
        by_cases hxy : x = y
        · have HE : Hid (l[i]? = m[i]?) := Lib.hid (by rw [HX.out.1, HX.out.2, hxy])
          obtain ⟨B, hBB⟩ : ∃ B, decide (x = y) = B := ⟨_, rfl⟩
          have hBt : B = true := by rw [← hBB]; exact decide_eq_true hxy
          rw [hBB]
          subst hBt
          clear hBB hxy
          go_wp2_with fail
          go_roundg (n - (i + 1))
          case measure => rw [HGI.out.1]; omega
          case rel => exact ⟨i + 1, rfl, rfl, by omega, agree_step HGI.out.2.1 HE.out, HG.out⟩
        · have HR : Hid (decide (l = m) = false) := Lib.hid (decide_eq_false (list_ne HX.out.1 HX.out.2 hxy))
          obtain ⟨B, hBB⟩ : ∃ B, decide (x = y) = B := ⟨_, rfl⟩
          have hBt : B = false := by rw [← hBB]; exact decide_eq_false hxy
          rw [hBB]
          subst hBt
          clear hBB hxy
          go_wp2_with fail
          go_ret
          exact ⟨by rw [HR.out]; rfl, HG.out⟩
      · have hie : i = n := by omega
        subst hie
        have hinB : decide (i < i) = false := by simp
        have HR : Hid (decide (l = m) = true) := Lib.hid (decide_eq_true (list_eq HN.out.1 HN.out.2 HGI.out.2.1))
        go_wp2
        go_ret
        exact ⟨by rw [HR.out]; rfl, HGI.out.2.2⟩
  · have hB : ((n : Int) != (n' : Int)) = true := by simp; omega
    have HR : Hid (decide (l = m) = false) := Lib.hid (decide_eq_false (by rintro rfl; omega))
    clear hn hn'
    go_enter Try.func76, Try.ntmps76
    go_wp2
    go_ret
    exact ⟨by rw [HR.out]; rfl, grown_refl _ _⟩

/-- Two models are equal. -/
def modelEq (us us' : List Int) (st st' lp lp' : Int) (L L' : List (List Rl)) : Bool := decide (us = us') && decide (st = st') && decide (lp = lp') && decide (L = L')

set_option maxRecDepth 100000 in
set_option maxHeartbeats 2000000 in
theorem modelEqual_calls (us us' : List Int) (sa sa' : Option Addr) (sc sc' : Nat) (st st' lp lp' : Int) (L L' : List (List Rl)) (ta ta' : Option Addr) (tc tc' : Nat) (w : World) (h : IntsW w sa sc us) (h' : IntsW w sa' sc' us') (hT : Sts w ta tc L) (hT' : Sts w ta' tc' L')
    (hl : (us.length : Int) ≤ 9223372036854775807) (hL : Lens L) :
    Calls Try.prog 20 #[.agg #[.slice sa us.length sc, .int .i64 st, .slice ta L.length tc, .int .i64 lp], .agg #[.slice sa' us'.length sc', .int .i64 st', .slice ta' L'.length tc', .int .i64 lp']] w
      fun e w' => e = .returned (.bool (modelEq us us' st st' lp lp' L L')) ∧ w.grownBy w' none := by
  obtain ⟨n, hn⟩ : ∃ n, us.length = n := ⟨_, rfl⟩
  obtain ⟨n', hn'⟩ : ∃ n', us'.length = n' := ⟨_, rfl⟩
  obtain ⟨k, hk⟩ : ∃ k, L.length = k := ⟨_, rfl⟩
  obtain ⟨k', hk'⟩ : ∃ k', L'.length = k' := ⟨_, rfl⟩
  have hg : w.grownBy ((w.alloc (.cells #[.slice sa n sc, .int .i64 st, .slice ta k tc, .int .i64 lp] 33)).alloc (.cells #[.slice sa' n' sc', .int .i64 st', .slice ta' k' tc', .int .i64 lp'] 33)) none := (World.grownBy_alloc _ _ none).trans (World.grownBy_alloc _ _ none)
  have HA := Lib.hid (And.intro (equalInts_calls us us' sa sa' sc sc' _ (h.grown hg) (h'.grown hg) hl) (fun (W' : World) (hW' : World.grownBy _ W' none) => equalTraces_calls L L' ta ta' tc tc' W' ((hT.grown hg).grown hW') ((hT'.grown hg).grown hW') hL))
  have hc := eight_cells w (.slice sa n sc) (.int .i64 st) (.slice ta k tc) (.int .i64 lp) (.slice sa' n' sc') (.int .i64 st') (.slice ta' k' tc') (.int .i64 lp') 33 33
  rw [hn, hn', hk, hk'] at HA ⊢
  clear hn hn' hk hk' h h' hT hT' hl hL
  obtain ⟨W, hW⟩ : ∃ W, (w.alloc (.cells #[.slice sa n sc, .int .i64 st, .slice ta k tc, .int .i64 lp] 33)).alloc (.cells #[.slice sa' n' sc', .int .i64 st', .slice ta' k' tc', .int .i64 lp'] 33) = W := ⟨_, rfl⟩
  rw [hW] at hg HA hc
  obtain ⟨⟨c0, c1, c2, c3⟩, d0, d1, d2, d3⟩ := hc
  have HG := Lib.hid hg; clear hg
  have HR : ∀ b, b = modelEq us us' st st' lp lp' L L' → Hid (modelEq us us' st st' lp lp' L L' = b) := fun b h => Lib.hid h.symm
  by_cases hB1 : us = us'
  · have hD := decide_eq_true hB1
    rw [hD] at HA
    by_cases hB2 : st = st'
    · have f2 : (st == st') = true := by simpa using hB2
      by_cases hB3 : lp = lp'
      · have f3 : (lp == lp') = true := by simpa using hB3
        have HRR := HR (decide (L = L')) (by simp [modelEq, hB1, hB2, hB3])
        subst hB2 hB3
        clear HR hB1 hD
        go_enter Try.func20, Try.ntmps20
        go_wp2_with fail
        refine HA.out.1.mono ?_
        rintro e w1 ⟨rfl, q, rfl⟩
        go_wp2_with fail
        refine (HA.out.2 _ (grown_drewN _ _ _)).mono ?_
        rintro e w2 ⟨rfl, g2⟩
        have HG2 := Lib.hid (HG.out.trans (World.grownBy.trans (grown_drewN _ _ _) g2)); clear g2
        go_wp2_with fail
        go_ret
        exact ⟨by rw [HRR.out]; rfl, HG2.out⟩
      · have f3 : (lp == lp') = false := by simpa using hB3
        have HRR := HR false (by simp [modelEq, hB3])
        subst hB2
        clear HR hB1 hB3 hD
        go_enter Try.func20, Try.ntmps20
        go_wp2_with fail
        refine HA.out.1.mono ?_
        rintro e w1 ⟨rfl, q, rfl⟩
        go_wp2_with fail
        go_ret
        exact ⟨by rw [HRR.out]; rfl, HG.out.trans (grown_drewN _ _ _)⟩
    · have f2 : (st == st') = false := by simpa using hB2
      have HRR := HR false (by simp [modelEq, hB2])
      clear HR hB1 hB2 hD
      go_enter Try.func20, Try.ntmps20
      go_wp2_with fail
      refine HA.out.1.mono ?_
      rintro e w1 ⟨rfl, q, rfl⟩
      go_wp2_with fail
      go_ret
      exact ⟨by rw [HRR.out]; rfl, HG.out.trans (grown_drewN _ _ _)⟩
  · have hD := decide_eq_false hB1
    rw [hD] at HA
    have HRR := HR false (by simp [modelEq, hB1])
    clear HR hB1 hD
    go_enter Try.func20, Try.ntmps20
    go_wp2_with fail
    refine HA.out.1.mono ?_
    rintro e w1 ⟨rfl, q, rfl⟩
    go_wp2_with fail
    go_ret
    exact ⟨by rw [HRR.out]; rfl, HG.out.trans (grown_drewN _ _ _)⟩
end Go.Proofs.Ytbddpjofhddilaa
/- Two traces are compared. -/
namespace Go.Proofs.Ytbddpjofhddilaa
open Go.RowKit

/-- A model that lies in a box. -/
structure Box (w : World) (b : Nat) (sa : Option Addr) (n sc : Nat) (st : Int) (ta : Option Addr) (k tc : Nat) (lp : Int) : Prop where
  c0 : w.cell? ⟨b, 0, none⟩ = some (.slice sa n sc)
  c1 : w.cell? ⟨b, 1, none⟩ = some (.int .i64 st)
  c2 : w.cell? ⟨b, 2, none⟩ = some (.slice ta k tc)
  c3 : w.cell? ⟨b, 3, none⟩ = some (.int .i64 lp)
theorem Box.grown {w w' : World} {b : Nat} {sa : Option Addr} {n sc : Nat} {st : Int} {ta : Option Addr} {k tc : Nat} {lp : Int} (h : Box w b sa n sc st ta k tc lp) (g : w.grownBy w' none) : Box w' b sa n sc st ta k tc lp :=
  ⟨g.cell h.c0 (by simp), g.cell h.c1 (by simp), g.cell h.c2 (by simp), g.cell h.c3 (by simp)⟩

theorem held_next10 {wr W W' : World} {a0 a1 a2 a3 a4 a5 a6 a7 a8 a9 : Addr} {v0 v1 v2 v3 v4 v5 v6 v7 v8 v9 : Value} (g : W.grownBy W' none) (h : wr.grownBy W none) (h0 : W.cell? a0 = some v0) (h1 : W.cell? a1 = some v1) (h2 : W.cell? a2 = some v2) (h3 : W.cell? a3 = some v3) (h4 : W.cell? a4 = some v4) (h5 : W.cell? a5 = some v5) (h6 : W.cell? a6 = some v6) (h7 : W.cell? a7 = some v7) (h8 : W.cell? a8 = some v8) (h9 : W.cell? a9 = some v9) :
    wr.grownBy W' none ∧ W'.cell? a0 = some v0 ∧ W'.cell? a1 = some v1 ∧ W'.cell? a2 = some v2 ∧ W'.cell? a3 = some v3 ∧ W'.cell? a4 = some v4 ∧ W'.cell? a5 = some v5 ∧ W'.cell? a6 = some v6 ∧ W'.cell? a7 = some v7 ∧ W'.cell? a8 = some v8 ∧ W'.cell? a9 = some v9 :=
  ⟨h.trans g, g.cell h0 (by simp), g.cell h1 (by simp), g.cell h2 (by simp), g.cell h3 (by simp), g.cell h4 (by simp), g.cell h5 (by simp), g.cell h6 (by simp), g.cell h7 (by simp), g.cell h8 (by simp), g.cell h9 (by simp)⟩

set_option maxRecDepth 100000 in
set_option maxHeartbeats 4000000 in
theorem same1_calls (sa sa' : Option Addr) (n sc n' sc' : Nat) (st st' : Int) (ta ta' : Option Addr) (L L' : List (List Rl)) (tc tc' : Nat) (lp lp' t : Int) (b1 b2 : Nat) (w : World) (hb : Box w b1 sa n sc st ta L.length tc lp) (hb' : Box w b2 sa' n' sc' st' ta' L'.length tc' lp')
    (h : Sts w ta tc L) (h' : Sts w ta' tc' L') (hlo : loopedB L.length lp = true) (hlo' : loopedB L'.length lp' = true) (ht0 : 0 ≤ t) (ht1 : t ≤ 9223372036854775807) (hr : Lens L) :
    Calls Try.prog 82 #[.int .i64 t, .pointer (some ⟨b1, 0, none⟩), .pointer (some ⟨b2, 0, none⟩)] w fun e w' => e = .returned (.bool (decide (atL L lp t = atL L' lp' t))) ∧ w.grownBy w' none := by
  have hlo1 := loopedB_iff.1 hlo
  have hlo2 := loopedB_iff.1 hlo'
  obtain ⟨hi0, hi1⟩ := indexI_in hlo1.2.2.1 hlo1.2.2.2 ht0
  obtain ⟨hj0, hj1⟩ := indexI_in hlo2.2.2.1 hlo2.2.2.2 ht0
  obtain ⟨I, hI⟩ : ∃ I : Nat, indexI L.length lp t = (I : Int) := ⟨_, (Int.toNat_of_nonneg hi0).symm⟩
  obtain ⟨J, hJ⟩ : ∃ J : Nat, indexI L'.length lp' t = (J : Int) := ⟨_, (Int.toNat_of_nonneg hj0).symm⟩
  rw [hI] at hi0 hi1
  rw [hJ] at hj0 hj1
  obtain ⟨l, hl⟩ : ∃ l, L[I]? = some l := ⟨_, List.getElem?_eq_getElem (by omega)⟩
  obtain ⟨m, hm⟩ : ∃ m, L'[J]? = some m := ⟨_, List.getElem?_eq_getElem (by omega)⟩
  have hat : atL L lp t = l := by unfold atL; rw [hI, Int.toNat_natCast, List.getD_eq_getElem?_getD, hl]; rfl
  have hat' : atL L' lp' t = m := by unfold atL; rw [hJ, Int.toNat_natCast, List.getD_eq_getElem?_getD, hm]; rfl
  rw [hat, hat']
  obtain ⟨sb, so, rfl, la, lc, cs, hrels⟩ := h.2 I l hl
  obtain ⟨sb', so', rfl, la', lc', cs', hrels'⟩ := h'.2 J m hm
  have HIX := Lib.hid (fun (W' : World) => index_calls sa n sc st (some ⟨sb, so, none⟩) L.length tc lp t W' hlo1.2.1 hlo1.2.2.1 hlo1.2.2.2 ht0 ht1)
  have HIY := Lib.hid (fun (W' : World) => index_calls sa' n' sc' st' (some ⟨sb', so', none⟩) L'.length tc' lp' t W' hlo2.2.1 hlo2.2.2.1 hlo2.2.2.2 ht0 ht1)
  rw [hI] at HIX
  rw [hJ] at HIY
  have hrl := hr.2 l (List.mem_of_getElem? hl)
  have HST := Lib.hid (fun (W' : World) (hW' : w.grownBy W' none) => equalStates_calls l m la la' lc lc' W' (hrels.grown hW') (hrels'.grown hW') hrl)
  obtain ⟨k, hk⟩ : ∃ k, L.length = k := ⟨_, rfl⟩
  obtain ⟨k', hk'⟩ : ∃ k', L'.length = k' := ⟨_, rfl⟩
  rw [hk] at hi1 HIX hb
  rw [hk'] at hj1 HIY hb'
  obtain ⟨c0, c1, c2, c3⟩ := hb
  obtain ⟨d0, d1, d2, d3⟩ := hb'
  have hIk : (I : Int) < (k : Int) := hi1
  have hJk : (J : Int) < (k' : Int) := hj1
  obtain ⟨p, hp⟩ : ∃ p, l.length = p := ⟨_, rfl⟩
  obtain ⟨p', hp'⟩ : ∃ p', m.length = p' := ⟨_, rfl⟩
  rw [hp] at cs
  rw [hp'] at cs'
  rw [hp, hp'] at HST
  clear hrels hrels' hrl hr hl hm hat hat' hI hJ hlo hlo' hlo1 hlo2 h h' hk hk' hp hp' ht0 hi0 hj0
  go_enter Try.func82, Try.ntmps82
  go_wp2_with fail
  go_region_held3 (fun w' => w.grownBy w' none ∧ w'.cell? ⟨b1, 0, none⟩ = some (.slice sa n sc) ∧ w'.cell? ⟨b1, 1, none⟩ = some (.int .i64 st) ∧ w'.cell? ⟨b1, 2, none⟩ = some (.slice (some ⟨sb, so, none⟩) k tc) ∧ w'.cell? ⟨b1, 3, none⟩ = some (.int .i64 lp) ∧ w'.cell? ⟨b2, 0, none⟩ = some (.slice sa' n' sc') ∧ w'.cell? ⟨b2, 1, none⟩ = some (.int .i64 st') ∧ w'.cell? ⟨b2, 2, none⟩ = some (.slice (some ⟨sb', so', none⟩) k' tc') ∧ w'.cell? ⟨b2, 3, none⟩ = some (.int .i64 lp') ∧ w'.cell? ⟨sb, so + I, none⟩ = some (.slice la p lc) ∧ w'.cell? ⟨sb', so' + J, none⟩ = some (.slice la' p' lc'))
    (first | exact ⟨⟨rfl, rfl, rfl, Nat.le_refl _, fun _ _ _ => rfl⟩, c0, c1, c2, c3, d0, d1, d2, d3, cs, cs'⟩ | (go_split_ands; exact held_next10 g3 (by assumption) (by assumption) (by assumption) (by assumption) (by assumption) (by assumption) (by assumption) (by assumption) (by assumption) (by assumption) (by assumption)) | fail)
    (first | (go_at_call 80; with_reducible refine (HIX.out _).mono ?_; rintro e w3 ⟨rfl, g3⟩) | (go_at_call 80; with_reducible refine (HIY.out _).mono ?_; rintro e w3 ⟨rfl, g3⟩) | (go_at_call 77; with_reducible refine (HST.out _ ?_).mono ?_; (go_split_ands; assumption); rintro e w4 ⟨rfl, g3⟩) | fail)
  all_goals
    have h14 : w.grownBy w4 none := by go_split_ands; assumption
    have HS := Lib.hid h14
    clear h14
    go_wp2
    go_ret
    exact ⟨rfl, HS.out⟩

/-- The traces agree at all times before N. -/
def agreeTo (L L' : List (List Rl)) (lp lp' : Int) (N : Nat) : Bool := (List.range N).all fun t => decide (atL L lp (t : Int) = atL L' lp' (t : Int))
theorem agreeTo_iff {L L' : List (List Rl)} {lp lp' : Int} {N : Nat} : agreeTo L L' lp lp' N = true ↔ ∀ t : Nat, t < N → atL L lp (t : Int) = atL L' lp' (t : Int) := by
  simp [agreeTo, List.all_eq_true]
/-- So many times are compared. -/
def timesN (k k' : Nat) (lp lp' : Int) : Nat := (max lp lp' + ((k : Int) - lp) * ((k' : Int) - lp')).toNat
end Go.Proofs.Ytbddpjofhddilaa
/- SameTrace. -/
namespace Go.Proofs.Ytbddpjofhddilaa
open Go.RowKit

set_option maxRecDepth 100000 in
set_option maxHeartbeats 4000000 in
theorem sameTrace_calls (us us' : List Int) (sa sa' : Option Addr) (sc sc' : Nat) (st st' lp lp' : Int) (L L' : List (List Rl)) (ta ta' : Option Addr) (tc tc' : Nat) (w : World) (h : IntsW w sa sc us) (h' : IntsW w sa' sc' us') (hT : Sts w ta tc L) (hT' : Sts w ta' tc' L')
    (hl : (us.length : Int) ≤ 9223372036854775807) (hL : Lens L) (hlo : loopedB L.length lp = true) (hlo' : loopedB L'.length lp' = true) :
    Calls Try.prog 28 #[.agg #[.slice sa us.length sc, .int .i64 st, .slice ta L.length tc, .int .i64 lp], .agg #[.slice sa' us'.length sc', .int .i64 st', .slice ta' L'.length tc', .int .i64 lp']] w
      fun e w' => e = .returned (.bool (decide (us = us') && agreeTo L L' lp lp' (timesN L.length L'.length lp lp'))) ∧ w.grownBy w' none := by
  obtain ⟨n, hn⟩ : ∃ n, us.length = n := ⟨_, rfl⟩
  obtain ⟨n', hn'⟩ : ∃ n', us'.length = n' := ⟨_, rfl⟩
  obtain ⟨k, hk⟩ : ∃ k, L.length = k := ⟨_, rfl⟩
  obtain ⟨k', hk'⟩ : ∃ k', L'.length = k' := ⟨_, rfl⟩
  have hg : w.grownBy ((w.alloc (.cells #[.slice sa n sc, .int .i64 st, .slice ta k tc, .int .i64 lp] 33)).alloc (.cells #[.slice sa' n' sc', .int .i64 st', .slice ta' k' tc', .int .i64 lp'] 33)) none := (World.grownBy_alloc _ _ none).trans (World.grownBy_alloc _ _ none)
  have hc := eight_cells w (.slice sa n sc) (.int .i64 st) (.slice ta k tc) (.int .i64 lp) (.slice sa' n' sc') (.int .i64 st') (.slice ta' k' tc') (.int .i64 lp') 33 33
  obtain ⟨W, hW⟩ : ∃ W, (w.alloc (.cells #[.slice sa n sc, .int .i64 st, .slice ta k tc, .int .i64 lp] 33)).alloc (.cells #[.slice sa' n' sc', .int .i64 st', .slice ta' k' tc', .int .i64 lp'] 33) = W := ⟨_, rfl⟩
  rw [hW] at hg hc
  have HEQ := Lib.hid (fun (W' : World) (hW' : W.grownBy W' none) => equalInts_calls us us' sa sa' sc sc' W' ((h.grown hg).grown hW') ((h'.grown hg).grown hW') hl)
  rw [hn, hn'] at HEQ
  have HLO := Lib.hid (fun (W' : World) => looped_calls sa n sc st ta L.length tc lp W')
  have HLP := Lib.hid (fun (W' : World) => looped_calls sa' n' sc' st' ta' L'.length tc' lp' W')
  rw [hlo] at HLO
  rw [hlo'] at HLP
  have HS1 := Lib.hid (fun (t : Nat) (W' : World) (hW' : W.grownBy W' none) (hb : Box W' w.heap.size sa n sc st ta L.length tc lp) (hb' : Box W' (w.heap.size + 1) sa' n' sc' st' ta' L'.length tc' lp') (ht : (t : Int) ≤ 9223372036854775807) =>
    same1_calls sa sa' n sc n' sc' st st' ta ta' L L' tc tc' lp lp' t w.heap.size (w.heap.size + 1) W' hb hb' ((hT.grown hg).grown hW') ((hT'.grown hg).grown hW') hlo hlo' (by omega) ht hL)
  have hlo1 := loopedB_iff.1 hlo
  have hlo2 := loopedB_iff.1 hlo'
  obtain ⟨A, hA⟩ : ∃ A, (k : Int) - lp = A := ⟨_, rfl⟩
  obtain ⟨B, hB⟩ : ∃ B, (k' : Int) - lp' = B := ⟨_, rfl⟩
  obtain ⟨M, hM⟩ : ∃ M, max lp lp' = M := ⟨_, rfl⟩
  obtain ⟨P, hP⟩ : ∃ P, A * B = P := ⟨_, rfl⟩
  obtain ⟨N, hN⟩ : ∃ N, timesN k k' lp lp' = N := ⟨_, rfl⟩
  rw [hk] at hlo1 HLO HS1
  rw [hk'] at hlo2 HLP HS1
  rw [hk, hk', hN]
  rw [hn, hn']
  have hA1 : 1 ≤ A ∧ A ≤ 64 := by omega
  have hB1 : 1 ≤ B ∧ B ≤ 64 := by omega
  have hP0 : 0 ≤ P := by rw [← hP]; exact Int.mul_nonneg (by omega) (by omega)
  have hP1 : P ≤ 4096 := by
    rw [← hP]
    have h1 : A * B ≤ 64 * B := Int.mul_le_mul_of_nonneg_right hA1.2 (by omega)
    omega
  have hM0 : 0 ≤ M ∧ M ≤ 64 := by omega
  have hNP : M + P = (N : Int) := by rw [← hN, timesN, hA, hB, hP, hM]; omega
  have hN1 : N ≤ 4160 := by omega
  clear hA1 hlo hlo' h h' hT hT' hl hL hn hn' hk hk' hN
  obtain ⟨hA1, hA2⟩ : 1 ≤ A ∧ A ≤ 64 := by omega
  obtain ⟨hB1, hB2⟩ := hB1
  obtain ⟨hM0, hM1⟩ := hM0
  have HG := Lib.hid hg
  obtain ⟨⟨c0, c1, c2, c3⟩, d0, d1, d2, d3⟩ := hc
  have HBX := Lib.hid (fun (W' : World) (hW' : W.grownBy W' none) => And.intro ((⟨c0, c1, c2, c3⟩ : Box W w.heap.size sa n sc st ta k tc lp).grown hW') ((⟨d0, d1, d2, d3⟩ : Box W (w.heap.size + 1) sa' n' sc' st' ta' k' tc' lp').grown hW'))
  have HLO1 := Lib.hid (And.intro hlo1 hlo2); clear hlo1 hlo2 hg
  go_enter Try.func28, Try.ntmps28
  go_wp2_with fail
  clear hW
  refine (HLO.out _).mono ?_
  rintro e W1 ⟨rfl, g1⟩
  have HG1 := Lib.hid g1; clear g1 c0 c1 c2 c3 d0 d1 d2 d3
  obtain ⟨⟨c0, c1, c2, c3⟩, d0, d1, d2, d3⟩ := HBX.out W1 HG1.out
  go_wp2_with fail
  refine (HLP.out _).mono ?_
  rintro e W2 ⟨rfl, g2⟩
  have HG2 := Lib.hid (HG1.out.trans g2); clear g2 c0 c1 c2 c3 d0 d1 d2 d3
  obtain ⟨⟨c0, c1, c2, c3⟩, d0, d1, d2, d3⟩ := HBX.out W2 HG2.out
  go_wp2_with fail
  refine (HEQ.out _ HG2.out).mono ?_
  rintro e W3 ⟨rfl, q, rfl⟩
  by_cases hus : us = us'
  · have hD := decide_eq_true hus
    have HD := Lib.hid hD
    rw [hD]
    clear hD hus
    have HG3 := Lib.hid (HG2.out.trans (grown_drewN W2 q none))
    have HMX := HLO1.out
    have hlow : 0 ≤ lp ∧ 0 ≤ lp' ∧ lp ≤ 64 ∧ lp' ≤ 64 := by omega
    obtain ⟨hl0, hl0', hl1, hl1'⟩ := hlow
    clear HMX
    have key : ((¬ lp' ≤ lp) ∧ decide (lp' ≤ lp) = false ∧ max lp lp' = lp' ∧ lp' + P = (N : Int)) ∨ (lp' ≤ lp ∧ decide (lp' ≤ lp) = true ∧ max lp lp' = lp ∧ lp + P = (N : Int)) := by
      by_cases h : lp' ≤ lp
      · exact .inr ⟨h, decide_eq_true h, by omega, by omega⟩
      · exact .inl ⟨h, decide_eq_false h, by omega, by omega⟩
    rcases key with ⟨hle, hle2, hmx, hNQ⟩ | ⟨hle, hle2, hmx, hNQ⟩
    all_goals
      clear hM hNP
      go_wp2_with fail
      clear hA hB hmx hP hNQ hA1 hA2 hB1 hB2 hP0 hP1 hM0 hM1 hl0 hl0' hl1 hl1' hle hle2 c0 c1 c2 c3 d0 d1 d2 d3
      obtain ⟨W4, hW4⟩ : ∃ W4, W2.drewN q = W4 := ⟨_, rfl⟩
      rw [hW4] at HG3 ⊢
      clear hW4
      go_loopg [47] N (fun g s47 wr => ∃ (i : Nat), s47 = .int .i64 (i : Int) ∧ g = N - i ∧ i ≤ N ∧ (∀ t : Nat, t < i → atL L lp (t : Int) = atL L' lp' (t : Int)) ∧ W.grownBy wr none)
      case atStart => exact ⟨0, rfl, rfl, Nat.zero_le _, fun t ht => absurd ht (Nat.not_lt_zero _), HG3.out⟩
      case round =>
        obtain ⟨i, rfl, hgi, hi, hok, hgr⟩ := hrel
        have HGI := Lib.hid (And.intro hgi (And.intro hok hgr)); clear hgi hok hgr
        by_cases hiN : i < N
        · have hinB : decide (i < N) = true := by simpa using hiN
          have hb := HBX.out wr HGI.out.2.2
          have HC := Lib.hid (HS1.out i wr HGI.out.2.2 hb.1 hb.2 (by omega)); clear hb
          obtain ⟨R, hR⟩ : ∃ R, decide (atL L lp (i : Int) = atL L' lp' (i : Int)) = R := ⟨_, rfl⟩
          rw [hR] at HC
          have HRR := Lib.hid hR; clear hR
          go_wp2_with fail
          refine HC.out.mono ?_
          rintro e w5 ⟨rfl, g5⟩
          have HG5 := Lib.hid (HGI.out.2.2.trans g5); clear g5
          cases R with
          | true =>
            go_wp2_with fail
            go_roundg (N - (i + 1))
            case measure => rw [HGI.out.1]; omega
            case rel => exact ⟨i + 1, rfl, rfl, by omega, fun t ht => by
              by_cases h1 : t < i
              · exact HGI.out.2.1 t h1
              · have : t = i := by omega
                subst this
                exact of_decide_eq_true HRR.out, HG5.out⟩
          | false =>
            have HF : Hid ((decide (us = us') && agreeTo L L' lp lp' N) = false) := Lib.hid (by
              rw [Bool.and_eq_false_iff]
              right
              cases h : agreeTo L L' lp lp' N with
              | false => rfl
              | true => exact absurd (agreeTo_iff.1 h i hiN) (of_decide_eq_false HRR.out))
            go_wp2_with fail
            go_ret
            exact ⟨by rw [HF.out]; rfl, HG.out.trans HG5.out⟩
        · have hie : i = N := by omega
          subst hie
          have hinB : decide (i < i) = false := by simp
          have HF : Hid ((decide (us = us') && agreeTo L L' lp lp' i) = true) := Lib.hid (by
            rw [HD.out, Bool.true_and]
            exact agreeTo_iff.2 HGI.out.2.1)
          go_wp2_with fail
          go_ret
          exact ⟨by rw [HF.out]; rfl, HG.out.trans HGI.out.2.2⟩
  · have hD := decide_eq_false hus
    have HD := Lib.hid hD
    rw [hD]
    clear hD hus
    go_wp2_with fail
    go_ret
    exact ⟨by rw [HD.out]; rfl, (HG.out.trans HG2.out).trans (grown_drewN _ _ _)⟩
end Go.Proofs.Ytbddpjofhddilaa

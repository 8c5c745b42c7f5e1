/- Ported from stages 7 and 9: UA UF UT RA RB RE RD RF RJ UAo. -/
import Derived.Test.YtkoigonbncpbaaaProg
import Derived.WalkKit
import Derived.WalkSpells
import Derived.WalkLawsBesides
import Derived.Deep.QuietTactic
import Derived.Deep.LoopGhost
import Derived.Maps.AppendAt
import Derived.BigQuiet
import Derived.Lib.Hide
import Derived.IntWalk
import Derived.Laws.AppendOwn
import Derived.OwnWalk
import Derived.Maps.OwnIn
import Derived.Deep.RegionWith
import Derived.Lib.SliceRun
import Derived.Deep.RegionHeld3
namespace Go.Proofs.Ytkoigonbncpbaaa
open Go.RowKit

/-- A row of integers that is read. -/
def Ints (w : World) (a : Option Addr) (c : Nat) (zs : List Int) : Prop :=
  zs.length ≤ c ∧ ((zs = [] ∧ a = none ∧ c = 0) ∨ ∃ b o, a = some ⟨b, o, none⟩ ∧ b < w.heap.size ∧ ∀ (j : Nat) (z : Int), zs[j]? = some z → w.cell? ⟨b, o + j, none⟩ = some (.int .i64 z))
theorem Ints.grown {w w' : World} {a : Option Addr} {c : Nat} {zs : List Int} (h : Ints w a c zs) (hg : w.grownBy w' none) : Ints w' a c zs := by
  obtain ⟨hc, h | ⟨b, o, ha, hb, hz⟩⟩ := h
  · exact ⟨hc, .inl h⟩
  · exact ⟨hc, .inr ⟨b, o, ha, Nat.lt_of_lt_of_le hb hg.size, fun j z hj => hg.cell (hz j z hj) (by simp)⟩⟩
theorem grown_drewN (w : World) (n : Nat) (r : Option Nat) : w.grownBy (w.drewN n) r := ⟨rfl, rfl, rfl, Nat.le_refl _, fun _ _ _ => rfl⟩
theorem grown_refl (w : World) (r : Option Nat) : w.grownBy w r := ⟨rfl, rfl, rfl, Nat.le_refl _, fun _ _ _ => rfl⟩

theorem info3 : (Try.prog.info? 3).map (fun i => (i.zero, i.size, i.bytes)) = some (some (.int .i64 0), 1, 8) := by kernel_rfl
theorem grown_set (w : World) (b o : Nat) (v : Value) : w.grownBy (w.setCell ⟨b, o, none⟩ v) (some b) :=
  ⟨rfl, rfl, rfl, by simp [World.setCell], fun k _ hk => Below.heap_setCell _ _ _ _ (fun e => hk (by rw [e]))⟩
theorem grown_own {w w1 : World} {r : Option Nat} (h : w.grownBy w1 none) {w2 : World} (h2 : w1.grownBy w2 r) (hr : ∀ k, r = some k → w.heap.size ≤ k) : w.grownBy w2 none :=
  ⟨h2.os.trans h.os, h2.tape.trans h.tape, h2.output.trans h.output, Nat.le_trans h.size h2.size, fun k hk _ => by
    rw [h2.block k (by have := h.size; omega) (fun e => by have := hr k e.symm; omega)]; exact h.block k hk (by simp)⟩
theorem own_shape {w : World} {B n size : Nat} {e : TypeId} {v : Value} {xs : List Value} (h : w.ownsRow B e size v n xs) : ∃ a c, v = .slice a n c := by
  rcases h.2 with ⟨hv, h0⟩ | ⟨g, cap, cur, rfl, _⟩
  · exact ⟨none, 0, by rw [hv, h0]⟩
  · exact ⟨_, _, rfl⟩

abbrev intCells (l : List Int) : List Value := l.map fun (z : Int) => Value.int .i64 z

/-- A row of integers that is read: where it is empty, nothing is known of its place. -/
def IntsW (w : World) (a : Option Addr) (c : Nat) (zs : List Int) : Prop :=
  zs.length ≤ c ∧ (zs = [] ∨ ∃ b o, a = some ⟨b, o, none⟩ ∧ ∀ (j : Nat) (z : Int), zs[j]? = some z → w.cell? ⟨b, o + j, none⟩ = some (.int .i64 z))
theorem Ints.weak {w : World} {a : Option Addr} {c : Nat} {zs : List Int} (h : Ints w a c zs) : IntsW w a c zs := by
  obtain ⟨hc, h | ⟨b, o, ha, _, hz⟩⟩ := h
  · exact ⟨hc, .inl h.1⟩
  · exact ⟨hc, .inr ⟨b, o, ha, hz⟩⟩
theorem IntsW.grown {w w' : World} {a : Option Addr} {c : Nat} {zs : List Int} (h : IntsW w a c zs) (hg : w.grownBy w' none) : IntsW w' a c zs := by
  obtain ⟨hc, h | ⟨b, o, ha, hz⟩⟩ := h
  · exact ⟨hc, .inl h⟩
  · exact ⟨hc, .inr ⟨b, o, ha, fun j z hj => hg.cell (hz j z hj) (by simp)⟩⟩
theorem IntsW.at {w : World} {a : Option Addr} {c : Nat} {zs : List Int} (h : IntsW w a c zs) {i : Nat} {z : Int} (hz : zs[i]? = some z) : ∃ b o, a = some ⟨b, o, none⟩ ∧ w.cell? ⟨b, o + i, none⟩ = some (.int .i64 z) := by
  obtain ⟨_, h | ⟨b, o, ha, hc⟩⟩ := h
  · rw [h] at hz; simp at hz
  · exact ⟨b, o, ha, hc i z hz⟩
theorem lies_lt {w : World} {a : Addr} {v : Value} (h : w.cell? a = some v) : a.block < w.heap.size := by
  unfold World.cell? at h
  split at h
  · rename_i hb; exact (Array.getElem?_eq_some_iff.1 hb).1
  · cases h
theorem IntsW.strict {w : World} {a : Option Addr} {c : Nat} {zs : List Int} (h : IntsW w a c zs) (hne : zs ≠ []) : Ints w a c zs := by
  obtain ⟨hc, h | ⟨b, o, ha, hz⟩⟩ := h
  · exact absurd h hne
  · refine ⟨hc, .inr ⟨b, o, ha, ?_, hz⟩⟩
    cases zs with
    | nil => exact absurd rfl hne
    | cons z l => exact lies_lt (hz 0 z rfl)
theorem ints_nil (w : World) : Ints w none 0 [] := ⟨Nat.le_refl _, .inl ⟨rfl, rfl, rfl⟩⟩
theorem intsW_nil (w : World) (a : Option Addr) (c : Nat) : IntsW w a c [] := ⟨Nat.zero_le _, .inl rfl⟩
/-- A relation: its arity, its tuples. -/
abbrev Rl := Int × List Int
theorem list_ne {α : Type} {xs ys : List α} {i : Nat} {x y : α} (hx : xs[i]? = some x) (hy : ys[i]? = some y) (h : x ≠ y) : xs ≠ ys := by
  rintro rfl; rw [hx] at hy; cases hy; exact h rfl
theorem list_eq {α : Type} {xs ys : List α} {n : Nat} (hx : xs.length = n) (hy : ys.length = n) (h : ∀ j, j < n → xs[j]? = ys[j]?) : xs = ys := by
  apply List.ext_getElem?
  intro j
  by_cases hj : j < n
  · exact h j hj
  · rw [List.getElem?_eq_none (by omega), List.getElem?_eq_none (by omega)]
theorem agree_step {α : Type} {xs ys : List α} {i : Nat} (h : ∀ j, j < i → xs[j]? = ys[j]?) (hi : xs[i]? = ys[i]?) : ∀ j, j < i + 1 → xs[j]? = ys[j]? := by
  intro j hj
  by_cases hji : j < i
  · exact h j hji
  · have : j = i := by omega
    subst this; exact hi

set_option maxHeartbeats 1000000 in
theorem equalInts_calls (xs ys : List Int) (a a' : Option Addr) (c c' : Nat) (w : World) (h : IntsW w a c xs) (h' : IntsW w a' c' ys) (hl : (xs.length : Int) ≤ 9223372036854775807) :
    Calls Try.prog 46 #[.slice a xs.length c, .slice a' ys.length c'] w fun e w' => e = .returned (.bool (decide (xs = ys))) ∧ ∃ q, w' = w.drewN q := by
  obtain ⟨n, hn⟩ : ∃ n, xs.length = n := ⟨_, rfl⟩
  obtain ⟨m, hm⟩ : ∃ m, ys.length = m := ⟨_, rfl⟩
  rw [hn] at hl ⊢
  rw [hm]
  have HN := Lib.hid (And.intro hn hm)
  have HH := Lib.hid (And.intro h h'); clear h h'
  by_cases hnm : n = m
  · have hB : ((n : Int) != (m : Int)) = false := by simp; omega
    subst hnm
    clear hn hm
    go_enter Try.func46, Try.ntmps46
    go_wp2
    go_loopg [13] n (fun g s5 wr => ∃ i : Nat, s5 = .int .i64 (i : Int) ∧ g = n - i ∧ i ≤ n ∧ (∀ j, j < i → xs[j]? = ys[j]?) ∧ ∃ q, wr = w.drewN q)
    case atStart => exact ⟨0, rfl, rfl, Nat.zero_le _, fun j hj => absurd hj (Nat.not_lt_zero _), 0, rfl⟩
    case round =>
      obtain ⟨i, rfl, hgi, hi, hok, q, rfl⟩ := hrel
      have HGI := Lib.hid (And.intro hgi hok); clear hgi hok
      by_cases hin : i < n
      · have hinB : decide (i < n) = true := by simpa using hin
        have hinI : (i : Int) < (n : Int) := by omega
        obtain ⟨x, hx⟩ : ∃ x, xs[i]? = some x := ⟨_, List.getElem?_eq_getElem (by rw [HN.out.1]; exact hin)⟩
        obtain ⟨y, hy⟩ : ∃ y, ys[i]? = some y := ⟨_, List.getElem?_eq_getElem (by rw [HN.out.2]; exact hin)⟩
        obtain ⟨b, o, rfl, hcell⟩ := HH.out.1.at hx
        obtain ⟨b', o', rfl, hcell'⟩ := HH.out.2.at hy
        have HX := Lib.hid (And.intro hx hy); clear hx hy
        by_cases hxy : x = y
        · subst hxy
          have hb2 : (x != x) = false := by simp
          go_wp2
          go_quiet (fail)
          go_wp2
          go_roundg (n - (i + 1))
          case measure => rw [HGI.out.1]; omega
          case rel => exact ⟨i + 1, rfl, rfl, by omega, agree_step HGI.out.2 (by rw [HX.out.1, HX.out.2]), _, rfl⟩
        · have hb2 : (x != y) = true := by simpa using hxy
          have HR : Hid (decide (xs = ys) = false) := Lib.hid (decide_eq_false (list_ne HX.out.1 HX.out.2 hxy))
          clear hxy
          go_wp2
          go_quiet (fail)
          go_wp2
          go_ret
          exact ⟨by rw [HR.out]; rfl, _, World.drewN_drewN _ _ _⟩
      · have hie : i = n := by omega
        subst hie
        have hinB : decide (i < i) = false := by simp
        have HR : Hid (decide (xs = ys) = true) := Lib.hid (decide_eq_true (list_eq HN.out.1 HN.out.2 HGI.out.2))
        go_wp2
        go_ret
        exact ⟨by rw [HR.out]; rfl, _, rfl⟩
  · have hB : ((n : Int) != (m : Int)) = true := by simp; omega
    have HR : Hid (decide (xs = ys) = false) := Lib.hid (decide_eq_false (by rintro rfl; omega))
    clear hn hm
    go_enter Try.func46, Try.ntmps46
    go_wp2
    go_ret
    exact ⟨by rw [HR.out]; rfl, 0, rfl⟩
set_option maxHeartbeats 1000000 in
theorem relEqual_calls (x y : Rl) (a a' : Option Addr) (c c' : Nat) (w : World) (h : IntsW w a c x.2) (h' : IntsW w a' c' y.2) (hl : (x.2.length : Int) ≤ 9223372036854775807) :
    Calls Try.prog 19 #[.agg #[.int .i64 x.1, .slice a x.2.length c], .agg #[.int .i64 y.1, .slice a' y.2.length c']] w
      fun e w' => e = .returned (.bool (decide (x = y))) ∧ w.grownBy w' none := by
  obtain ⟨kx, lx⟩ := x
  obtain ⟨ky, ly⟩ := y
  simp only at h h' hl ⊢
  obtain ⟨n, hn⟩ : ∃ n, lx.length = n := ⟨_, rfl⟩
  obtain ⟨m, hm⟩ : ∃ m, ly.length = m := ⟨_, rfl⟩
  have HL := Lib.hid hl; clear hl
  have HH := Lib.hid (And.intro h h'); clear h h'
  have hg : w.grownBy ((w.alloc (.cells #[.int .i64 kx, .slice a lx.length c] 27)).alloc (.cells #[.int .i64 ky, .slice a' ly.length c'] 27)) none := (World.grownBy_alloc _ _ none).trans (World.grownBy_alloc _ _ none)
  rw [hn, hm] at hg ⊢
  have HG := Lib.hid hg; clear hg
  have HN := Lib.hid (And.intro hn hm); clear hn hm
  by_cases hk : kx = ky
  · have k1 : (kx == ky) = true := by simpa using hk
    subst hk
    go_enter Try.func19, Try.ntmps19
    go_wp2_with fail
    have hc := equalInts_calls lx ly a a' c c' _ (HH.out.1.grown HG.out) (HH.out.2.grown HG.out) HL.out
    rw [HN.out.1, HN.out.2] at hc
    refine hc.mono ?_
    clear hc
    rintro e w' ⟨rfl, q, rfl⟩
    have HR : Hid (decide ((kx, lx) = (kx, ly)) = decide (lx = ly)) := Lib.hid (by congr 1; simp)
    go_wp2
    go_ret
    exact ⟨by rw [HR.out]; rfl, HG.out.trans (grown_drewN _ _ _)⟩
  · have k1 : (kx == ky) = false := by simpa using hk
    have HR : Hid (decide ((kx, lx) = (ky, ly)) = false) := Lib.hid (decide_eq_false (by intro e; injection e with e _; exact hk e))
    clear hk
    go_enter Try.func19, Try.ntmps19
    go_wp2_with fail
    go_ret
    exact ⟨by rw [HR.out]; rfl, HG.out⟩

/-- P holds of whatever world has the blocks from lo up to hi as they lie in w. -/
def Span (lo hi : Nat) (w : World) (P : World → Prop) : Prop := hi ≤ w.heap.size ∧ ∀ W : World, (∀ b, lo ≤ b → b < hi → W.heap[b]? = w.heap[b]?) → P W
theorem Span.here {lo hi : Nat} {w : World} {P : World → Prop} (h : Span lo hi w P) : P w := h.2 w fun _ _ _ => rfl
theorem Span.off {lo hi : Nat} {w w' : World} {P : World → Prop} {r : Option Nat} (h : Span lo hi w P) (hg : w.grownBy w' r) (hr : ∀ x, r = some x → x < lo ∨ hi ≤ x) : Span lo hi w' P := by
  refine ⟨Nat.le_trans h.1 hg.size, fun W hW => h.2 W fun b hl hh => ?_⟩
  rw [hW b hl hh]
  refine hg.block b (Nat.lt_of_lt_of_le hh h.1) fun e => ?_
  have := hr b e.symm
  omega
theorem Span.grown {lo hi : Nat} {w w' : World} {P : World → Prop} (h : Span lo hi w P) (hg : w.grownBy w' none) : Span lo hi w' P := h.off hg fun _ e => by cases e
theorem Span.wide {lo hi lo' hi' : Nat} {w : World} {P : World → Prop} (h : Span lo hi w P) (hl : lo' ≤ lo) (hh : hi ≤ hi') (hs : hi' ≤ w.heap.size) : Span lo' hi' w P :=
  ⟨hs, fun W hW => h.2 W fun b h1 h2 => hW b (by omega) (by omega)⟩
theorem Span.map {lo hi : Nat} {w : World} {P Q : World → Prop} (h : Span lo hi w P) (f : ∀ W, P W → Q W) : Span lo hi w Q := ⟨h.1, fun W hW => f W (h.2 W hW)⟩
theorem add_at (g j : Nat) : (⟨g, 0, none⟩ : Addr).add j = ⟨g, j, none⟩ := by unfold Addr.add; split <;> simp_all
theorem size_of_heap {w W : World} {b : Nat} (h : W.heap[b]? = w.heap[b]?) (hb : b < w.heap.size) : b < W.heap.size := by
  rw [Array.getElem?_eq_getElem hb] at h
  exact (Array.getElem?_eq_some_iff.1 h).1
theorem ints_span {w : World} {B : Nat} {v : Value} {l : List Int} (h : w.ownsRow B 3 1 v l.length (intCells l)) : ∃ a c, v = .slice a l.length c ∧ Span B w.heap.size w (fun W => Ints W a c l) := by
  have hc := @World.ownsRow.cells w B 3 1 v l.length _ h
  rcases h.2 with ⟨hv, h0⟩ | ⟨g, cap, cur, rfl, hb, hg, hnc, hcm, _⟩
  · have hl : l = [] := List.eq_nil_of_length_eq_zero h0
    subst hl
    exact ⟨none, 0, hv, Nat.le_refl _, fun W _ => ints_nil W⟩
  · have hlt := (Array.getElem?_eq_some_iff.1 hg).1
    refine ⟨_, _, rfl, Nat.le_refl _, fun W hW => ⟨hnc, .inr ⟨g, 0, rfl, size_of_heap (hW g hb hlt) hlt, fun j z hj => ?_⟩⟩⟩
    have := hc (g := g) rfl j (.int .i64 z) (by rw [intCells, List.getElem?_map, hj]; rfl)
    rw [add_at] at this
    rw [Nat.zero_add, World.cell?_of_block (hW g hb hlt)]; exact this

set_option maxRecDepth 100000 in
set_option maxHeartbeats 1000000 in
theorem cloneInts_calls (zs : List Int) (a : Option Addr) (c : Nat) (w : World) (h : IntsW w a c zs) (hl : zs.length ≤ 100000) :
    Calls Try.prog 53 #[.slice a zs.length c] w fun e w' => ∃ a' c', e = .returned (.slice a' zs.length c') ∧ Span w.heap.size w'.heap.size w' (fun W => Ints W a' c' zs) ∧ w.grownBy w' none := by
  obtain ⟨n, hn⟩ : ∃ n, zs.length = n := ⟨_, rfl⟩
  rw [hn] at hl ⊢
  have HN := Lib.hid hn; clear hn
  cases a with
  | none =>
    obtain rfl : zs = [] := by
      obtain ⟨_, h | ⟨_, _, e, _⟩⟩ := h
      · exact h
      · cases e
    have q28 : ∀ (w : World) (a : Option Addr) (n c n' c' : Nat), (binOp .eql 25 (.slice a n c) (.slice none n' c')).run Try.prog w = .ok (.bool a.isNone) w := fun w a n c n' c' => Lib.run_eql_slice_nil w _ _ a n c n' c' Try.underlying25
    have hn0 : n = 0 := by rw [← HN.out]; rfl
    subst hn0
    go_enter Try.func53, Try.ntmps53
    go_wp2_with fail
    go_ret
    exact ⟨none, 0, rfl, ⟨Nat.le_refl _, fun W _ => ints_nil W⟩, grown_refl _ _⟩
  | some ad =>
    obtain ⟨i0, hi0, hz0, hz1, hz2⟩ := info_parts info3
    have HC := Lib.hid h.2; have hc := h.1; clear h
    rw [HN.out] at hc
    have q28 : ∀ (w : World) (a : Option Addr) (n c n' c' : Nat), (binOp .eql 25 (.slice a n c) (.slice none n' c')).run Try.prog w = .ok (.bool a.isNone) w := fun w a n c n' c' => Lib.run_eql_slice_nil w _ _ a n c n' c' Try.underlying25
    go_enter Try.func53, Try.ntmps53
    go_wp2_with (at_builtin; refine wpList_append_own _ rfl _ _ 25 rfl w.heap.size 3 i0 (.int .i64 0) 1 8 Try.underlying25 hi0 hz0 hz1 hz2 rfl (by decide) _ _ _ rfl (World.ownsRow_made w #[] 0 (Nat.le_refl _) (Nat.zero_le _) rfl) ad n c (intCells zs) rfl ?qc1 ?qc2 ?qc3 ?qc4 ?qc5 ?qc6 ?_)
    case qc1 => rw [intCells, List.length_map, HN.out]; omega
    case qc2 =>
      intro j u hj
      rw [intCells, List.getElem?_map] at hj
      cases hq : zs[j]? with
      | none => rw [hq] at hj; simp at hj
      | some z =>
        rw [hq] at hj
        simp only [Option.map_some, Option.some.injEq] at hj
        rcases HC.out with h0 | ⟨b, o, e, hz⟩
        · rw [h0] at hq; simp at hq
        · cases e
          have hadd : (⟨b, o, none⟩ : Addr).add j = ⟨b, o + j, none⟩ := by unfold Addr.add; split <;> simp_all
          rw [hadd, ← hj]
          exact (World.grownBy_alloc w _ none).cell (hz j z hq) (by simp)
    case qc3 => intro u hu; obtain ⟨x, _, rfl⟩ := List.mem_map.1 hu; rfl
    case qc4 => unfold maxLen; omega
    case qc5 => omega
    case qc6 => simp
    intro v' w1 hown hgrow hnil
    have hown' : w1.ownsRow w.heap.size 3 1 v' zs.length (intCells zs) := by rw [HN.out]; simpa using hown
    obtain ⟨a', c', rfl, hi⟩ := ints_span hown'
    have HR := Lib.hid hi; clear hi hown hown' hnil
    have HG : Hid (w.grownBy w1 none) := Lib.hid (grown_own (World.grownBy_alloc w _ none) hgrow (fun k hk => by simp [Value.ownBlock] at hk; omega))
    clear hgrow
    rw [HN.out]
    go_wp2
    go_ret
    exact ⟨a', c', rfl, HR.out, HG.out⟩
theorem grown_frozen {w w' : World} {b : Nat} (h : w.grownBy w' none) (hb : b < w.heap.size) (o : Nat) : w'.frozen? ⟨b, o, none⟩ = w.frozen? ⟨b, o, none⟩ :=
  World.frozen?_of_block (a := ⟨b, o, none⟩) (h.block b hb (by simp))
theorem two_cells (w : World) (u0 u1 v0 v1 : Value) (s t : TypeId) :
    w.heap.size + 1 < ((w.alloc (.cells #[u0, u1] s)).alloc (.cells #[v0, v1] t)).heap.size ∧
    ((w.alloc (.cells #[u0, u1] s)).alloc (.cells #[v0, v1] t)).cell? ⟨w.heap.size, 0, none⟩ = some u0 ∧ ((w.alloc (.cells #[u0, u1] s)).alloc (.cells #[v0, v1] t)).cell? ⟨w.heap.size, 1, none⟩ = some u1 ∧
    ((w.alloc (.cells #[u0, u1] s)).alloc (.cells #[v0, v1] t)).cell? ⟨w.heap.size + 1, 0, none⟩ = some v0 ∧ ((w.alloc (.cells #[u0, u1] s)).alloc (.cells #[v0, v1] t)).cell? ⟨w.heap.size + 1, 1, none⟩ = some v1 ∧
    ((w.alloc (.cells #[u0, u1] s)).alloc (.cells #[v0, v1] t)).frozen? ⟨w.heap.size + 1, 0, none⟩ = false ∧ ((w.alloc (.cells #[u0, u1] s)).alloc (.cells #[v0, v1] t)).frozen? ⟨w.heap.size + 1, 1, none⟩ = false := by
  refine ⟨by simp, by go_simp, by go_simp, by go_simp, by go_simp, by go_simp, by go_simp⟩

set_option maxRecDepth 100000 in
set_option maxHeartbeats 2000000 in
theorem rRelEqual_calls (x y : Rl) (a a' : Option Addr) (c c' : Nat) (w : World) (h : IntsW w a c x.2) (h' : IntsW w a' c' y.2) (hl : (x.2.length : Int) ≤ 9223372036854775807) :
    Calls Try.prog 20 #[.agg #[.int .i64 x.1, .slice a x.2.length c], .agg #[.int .i64 y.1, .slice a' y.2.length c']] w
      fun e w' => e = .returned (.bool (decide (x = y))) ∧ w.grownBy w' none := by
  obtain ⟨kx, lx⟩ := x
  obtain ⟨ky, ly⟩ := y
  simp only at h h' hl ⊢
  obtain ⟨n, hn⟩ : ∃ n, lx.length = n := ⟨_, rfl⟩
  obtain ⟨m, hm⟩ : ∃ m, ly.length = m := ⟨_, rfl⟩
  have hg : w.grownBy ((w.alloc (.cells #[.int .i64 kx, .slice a lx.length c] 27)).alloc (.cells #[.int .i64 ky, .slice a' ly.length c'] 27)) none := (World.grownBy_alloc _ _ none).trans (World.grownBy_alloc _ _ none)
  have hc := two_cells w (.int .i64 kx) (.slice a lx.length c) (.int .i64 ky) (.slice a' ly.length c') 27 27
  rw [hn, hm] at hg hc
  rw [hn] at hl
  rw [hn, hm]
  have HN := Lib.hid (And.intro hn hm); clear hn hm
  have HH := Lib.hid (And.intro (h.grown hg) (h'.grown hg)); clear h h'
  by_cases hk : kx = ky
  · have k1 : (kx != ky) = false := by simpa using hk
    subst hk
    by_cases hnm : n = m
    · have k2 : ((n : Int) != (m : Int)) = false := by simp; omega
      subst hnm
      have HG := Lib.hid hg; clear hg
      go_enter Try.func20, Try.ntmps20
      go_wp2_with fail
      obtain ⟨W, hW⟩ : ∃ W, (w.alloc (.cells #[.int .i64 kx, .slice a n c] 27)).alloc (.cells #[.int .i64 kx, .slice a' n c'] 27) = W := ⟨_, rfl⟩
      rw [hW] at HG HH hc ⊢
      clear hW
      obtain ⟨-, c0, c1, e0, e1, -, -⟩ := hc
      go_loopg [5] n (fun g s5 wr => ∃ i : Nat, s5 = .int .i64 (i : Int) ∧ g = n - i ∧ i ≤ n ∧ (∀ j, j < i → lx[j]? = ly[j]?) ∧ ∃ q, wr = W.drewN q)
      case atStart => exact ⟨0, rfl, rfl, Nat.zero_le _, fun j hj => absurd hj (Nat.not_lt_zero _), 0, rfl⟩
      case round =>
        obtain ⟨i, rfl, hgi, hi, hok, q, rfl⟩ := hrel
        have HGI := Lib.hid (And.intro hgi hok); clear hgi hok
        by_cases hin : i < n
        · have hinB : decide (i < n) = true := by simpa using hin
          have hinI : (i : Int) < (n : Int) := by omega
          obtain ⟨x, hx⟩ : ∃ x, lx[i]? = some x := ⟨_, List.getElem?_eq_getElem (by rw [HN.out.1]; exact hin)⟩
          obtain ⟨y, hy⟩ : ∃ y, ly[i]? = some y := ⟨_, List.getElem?_eq_getElem (by rw [HN.out.2]; exact hin)⟩
          obtain ⟨b, o, rfl, hcell⟩ := HH.out.1.at hx
          obtain ⟨b', o', rfl, hcell'⟩ := HH.out.2.at hy
          have HX := Lib.hid (And.intro hx hy); clear hx hy
          by_cases hxy : x = y
          · subst hxy
            have hb2 : (x != x) = false := by simp
            go_wp2
            go_quiet (fail)
            go_wp2
            go_roundg (n - (i + 1))
            case measure => rw [HGI.out.1]; omega
            case rel => exact ⟨i + 1, rfl, rfl, by omega, agree_step HGI.out.2 (by rw [HX.out.1, HX.out.2]), _, rfl⟩
          · have hb2 : (x != y) = true := by simpa using hxy
            have HR : Hid (decide ((kx, lx) = (kx, ly)) = false) := Lib.hid (decide_eq_false (by intro e; injection e with _ e; exact list_ne HX.out.1 HX.out.2 hxy e))
            clear hxy
            go_wp2
            go_quiet (fail)
            go_wp2
            go_ret
            exact ⟨by rw [HR.out]; rfl, HG.out.trans (by first | exact grown_drewN _ _ _ | (rw [World.drewN_drewN]; exact grown_drewN _ _ _))⟩
        · have hie : i = n := by omega
          subst hie
          have hinB : decide (i < i) = false := by simp
          have HR : Hid (decide ((kx, lx) = (kx, ly)) = true) := Lib.hid (decide_eq_true (by rw [list_eq HN.out.1 HN.out.2 HGI.out.2]))
          go_wp2
          go_ret
          exact ⟨by rw [HR.out]; rfl, HG.out.trans (grown_drewN _ _ _)⟩
    · have k2 : ((n : Int) != (m : Int)) = true := by simp; omega
      have HR : Hid (decide ((kx, lx) = (kx, ly)) = false) := Lib.hid (decide_eq_false (by intro e; injection e with _ e; have h1 := HN.out.1; have h2 := HN.out.2; rw [e] at h1; omega))
      have HG := Lib.hid hg; clear hg hnm
      go_enter Try.func20, Try.ntmps20
      go_wp2_with fail
      go_ret
      exact ⟨by rw [HR.out]; rfl, HG.out⟩
  · have k1 : (kx != ky) = true := by simpa using hk
    have HR : Hid (decide ((kx, lx) = (ky, ly)) = false) := Lib.hid (decide_eq_false (by intro e; injection e with e _; exact hk e))
    have HG := Lib.hid hg; clear hg hk
    go_enter Try.func20, Try.ntmps20
    go_wp2_with fail
    go_ret
    exact ⟨by rw [HR.out]; rfl, HG.out⟩

set_option maxHeartbeats 1000000 in
theorem power_calls (n k : Nat) (w : World) (hn : n ≤ 12) (hk : k ≤ 3) : Calls Try.prog 43 #[.int .i64 (n : Int), .int .i64 (k : Int)] w fun e w' => e = .returned (.int .i64 ((n ^ k : Nat) : Int)) ∧ w' = w := by
  go_enter Try.func43, Try.ntmps43
  go_wp2
  go_loopg [5, 7] k (fun g s5 s7 wr => ∃ i : Nat, s5 = .int .i64 ((n ^ i : Nat) : Int) ∧ s7 = .int .i64 (i : Int) ∧ g = k - i ∧ i ≤ k ∧ wr = w)
  case atStart => exact ⟨0, rfl, rfl, rfl, Nat.zero_le _, rfl⟩
  case round =>
    obtain ⟨i, rfl, rfl, hgi, hi, rfl⟩ := hrel
    have HGI := Lib.hid hgi; clear hgi
    by_cases hin : i < k
    · have hinB : decide (i < k) = true := by simpa using hin
      have hp : n ^ i ≤ 12 ^ 3 := Nat.le_trans (Nat.pow_le_pow_left hn i) (Nat.pow_le_pow_right (by omega) (by omega))
      obtain ⟨S, hS⟩ : ∃ S, n ^ i = S := ⟨_, rfl⟩
      have hSn : n ^ (i + 1) = S * n := by rw [Nat.pow_succ, hS]
      rw [hS] at hp ⊢
      have HSN := Lib.hid hSn; clear hSn hS
      have hmul : (S : Int) * (n : Int) ≤ 1000000 := by
        have h1 : S * n ≤ 1728 * 12 := Nat.mul_le_mul hp hn
        have h2 : ((S * n : Nat) : Int) ≤ 1000000 := by omega
        rwa [Int.natCast_mul] at h2
      have hmul0 : 0 ≤ (S : Int) * (n : Int) := Int.mul_nonneg (by omega) (by omega)
      go_wp2
      go_roundg (k - (i + 1))
      case measure => rw [HGI.out]; omega
      case rel => exact ⟨i + 1, by rw [HSN.out]; simp, rfl, rfl, by omega, rfl⟩
    · have hie : i = k := by omega
      subst hie
      have hinB : decide (i < i) = false := by simp
      go_wp2
      go_ret
      exact ⟨rfl, rfl⟩
/-- Strictly increasing, above lo and below hi. -/
def rising (hi : Int) : Int → List Int → Bool
  | _, [] => true
  | lo, z :: l => decide (lo < z) && decide (z < hi) && rising hi z l
def relValid (n x : Int) (zs : List Int) : Bool := decide (0 ≤ n) && decide (n ≤ 12) && decide (1 ≤ x) && decide (x ≤ 3) && rising ((n.toNat ^ x.toNat : Nat) : Int) (-1) zs
theorem relValid_iff {n x : Int} {zs : List Int} : relValid n x zs = true ↔ (0 ≤ n ∧ n ≤ 12 ∧ 1 ≤ x ∧ x ≤ 3) ∧ rising ((n.toNat ^ x.toNat : Nat) : Int) (-1) zs = true := by simp [relValid, and_assoc]
set_option maxRecDepth 100000 in
set_option maxHeartbeats 2000000 in
theorem relValid_calls (n x : Int) (zs : List Int) (a : Option Addr) (c : Nat) (w : World) (h : IntsW w a c zs) (hl : zs.length ≤ 100000) :
    Calls Try.prog 17 #[.int .i64 n, .agg #[.int .i64 x, .slice a zs.length c]] w fun e w' => e = .returned (.bool (relValid n x zs)) ∧ w.grownBy w' none := by
  obtain ⟨k, hk⟩ : ∃ k, zs.length = k := ⟨_, rfl⟩
  rw [hk] at hl ⊢
  have HK := Lib.hid hk; clear hk
  have HG := Lib.hid (World.grownBy_alloc w (.cells #[.int .i64 x, .slice a k c] 27) none)
  have HI := Lib.hid (h.grown HG.out); clear h
  have HL := Lib.hid hl; clear hl
  by_cases c0 : n < 0
  · have f0 : decide (n < 0) = true := decide_eq_true c0
    have HR : Hid (relValid n x zs = false) := Lib.hid (by cases h : relValid n x zs with | false => rfl | true => have := (relValid_iff.1 h).1; omega)
    clear c0
    go_enter Try.func17, Try.ntmps17
    go_wp2_with fail
    go_ret
    exact ⟨by rw [HR.out]; rfl, HG.out⟩
  have f0 : decide (n < 0) = false := decide_eq_false c0
  by_cases c1 : 12 < n
  · have f1 : decide (12 < n) = true := decide_eq_true c1
    have HR : Hid (relValid n x zs = false) := Lib.hid (by cases h : relValid n x zs with | false => rfl | true => have := (relValid_iff.1 h).1; omega)
    clear c0 c1
    go_enter Try.func17, Try.ntmps17
    go_wp2_with fail
    go_ret
    exact ⟨by rw [HR.out]; rfl, HG.out⟩
  have f1 : decide (12 < n) = false := decide_eq_false c1
  by_cases c2 : x < 1
  · have f2 : decide (x < 1) = true := decide_eq_true c2
    have HR : Hid (relValid n x zs = false) := Lib.hid (by cases h : relValid n x zs with | false => rfl | true => have := (relValid_iff.1 h).1; omega)
    clear c0 c1 c2
    go_enter Try.func17, Try.ntmps17
    go_wp2_with fail
    go_ret
    exact ⟨by rw [HR.out]; rfl, HG.out⟩
  have f2 : decide (x < 1) = false := decide_eq_false c2
  by_cases c3 : 3 < x
  · have f3 : decide (3 < x) = true := decide_eq_true c3
    have HR : Hid (relValid n x zs = false) := Lib.hid (by cases h : relValid n x zs with | false => rfl | true => have := (relValid_iff.1 h).1; omega)
    clear c0 c1 c2 c3
    go_enter Try.func17, Try.ntmps17
    go_wp2_with fail
    go_ret
    exact ⟨by rw [HR.out]; rfl, HG.out⟩
  have f3 : decide (3 < x) = false := decide_eq_false c3
  obtain ⟨N, rfl⟩ : ∃ N : Nat, n = (N : Int) := ⟨n.toNat, by omega⟩
  obtain ⟨X, rfl⟩ : ∃ X : Nat, x = (X : Int) := ⟨x.toNat, by omega⟩
  have hN : N ≤ 12 := by omega
  have hX : X ≤ 3 := by omega
  have HR : Hid (relValid (N : Int) (X : Int) zs = rising ((N ^ X : Nat) : Int) (-1) zs) := Lib.hid (by
    have h1 : (N : Int).toNat = N := Int.toNat_natCast N
    have h2 : (X : Int).toNat = X := Int.toNat_natCast X
    unfold relValid
    rw [h1, h2, decide_eq_true (show (0 : Int) ≤ (N : Int) by omega), decide_eq_true (show (N : Int) ≤ 12 by omega), decide_eq_true (show (1 : Int) ≤ (X : Int) by omega), decide_eq_true (show (X : Int) ≤ 3 by omega)]
    rfl)
  clear c0 c1 c2 c3
  go_enter Try.func17, Try.ntmps17
  go_wp2_with fail
  refine (power_calls N X _ hN hX).mono ?_
  rintro e w1 ⟨rfl, rfl⟩
  obtain ⟨E, hE⟩ : ∃ E, N ^ X = E := ⟨_, rfl⟩
  rw [hE] at HR ⊢
  clear hE
  go_wp2_with fail
  obtain ⟨W, hW⟩ : ∃ W, w.alloc (.cells #[.int .i64 (X : Int), .slice a k c] 27) = W := ⟨_, rfl⟩
  rw [hW] at HG HI ⊢
  clear hW
  have hl := HL.out
  go_loopg [5, 32] k (fun g s5 s32 wr => ∃ (i : Nat) (p : Int), s5 = .int .i64 p ∧ s32 = .int .i64 (i : Int) ∧ g = k - i ∧ i ≤ k ∧ rising (E : Int) (-1) zs = rising (E : Int) p (zs.drop i) ∧ wr = W)
  case atStart => exact ⟨0, -1, rfl, rfl, rfl, Nat.zero_le _, rfl, rfl⟩
  case round =>
    obtain ⟨i, p, rfl, rfl, hgi, hi, hri, rfl⟩ := hrel
    have HGI := Lib.hid (And.intro hgi hri); clear hgi hri
    by_cases hin : i < k
    · have hinB : decide (i < k) = true := by simpa using hin
      have hinI : (i : Int) < (k : Int) := by omega
      obtain ⟨z, hz⟩ : ∃ z, zs[i]? = some z := ⟨_, List.getElem?_eq_getElem (by rw [HK.out]; exact hin)⟩
      obtain ⟨b, o, rfl, hcell⟩ := HI.out.at hz
      have hdrop : zs.drop i = z :: zs.drop (i + 1) := by
        have hlt : i < zs.length := by rw [HK.out]; exact hin
        rw [List.drop_eq_getElem_cons hlt]
        congr 1
        rw [List.getElem?_eq_getElem hlt] at hz
        exact Option.some.inj hz
      have HST : Hid (rising (E : Int) (-1) zs = (decide (p < z) && decide (z < (E : Int)) && rising (E : Int) z (zs.drop (i + 1)))) := Lib.hid (by rw [HGI.out.2, hdrop]; rfl)
      clear hz hdrop
      by_cases h1 : z ≤ p
      · have e1 : decide (z ≤ p) = true := decide_eq_true h1
        have HF : Hid (rising (E : Int) (-1) zs = false) := Lib.hid (by rw [HST.out, decide_eq_false (show ¬ p < z by omega)]; rfl)
        clear h1
        go_wp2_with fail
        go_ret
        exact ⟨by rw [HR.out, HF.out]; rfl, HG.out⟩
      have e1 : decide (z ≤ p) = false := decide_eq_false h1
      by_cases h2 : (E : Int) ≤ z
      · have e2 : decide ((E : Int) ≤ z) = true := decide_eq_true h2
        have HF : Hid (rising (E : Int) (-1) zs = false) := Lib.hid (by rw [HST.out, decide_eq_false (show ¬ z < (E : Int) by omega)]; simp)
        clear h1 h2
        go_wp2_with fail
        go_ret
        exact ⟨by rw [HR.out, HF.out]; rfl, HG.out⟩
      have e2 : decide ((E : Int) ≤ z) = false := decide_eq_false h2
      have HF : Hid (rising (E : Int) (-1) zs = rising (E : Int) z (zs.drop (i + 1))) := Lib.hid (by rw [HST.out, decide_eq_true (show p < z by omega), decide_eq_true (show z < (E : Int) by omega)]; rfl)
      clear h1 h2
      go_wp2_with fail
      go_roundg (k - (i + 1))
      case measure => rw [HGI.out.1]; omega
      case rel => exact ⟨i + 1, z, rfl, rfl, rfl, by omega, HF.out, rfl⟩
    · have hie : i = k := by omega
      subst hie
      have hinB : decide (i < i) = false := by simp
      have HF : Hid (rising (E : Int) (-1) zs = true) := Lib.hid (by rw [HGI.out.2, List.drop_of_length_le (by rw [HK.out]; exact Nat.le_refl _)]; rfl)
      go_wp2_with fail
      go_ret
      exact ⟨by rw [HR.out, HF.out]; rfl, HG.out⟩
/-- How the difference keeps. -/
theorem diff1_calls (x y : Bool) (w : World) : Calls Try.prog 51 #[.bool x, .bool y] w fun e w' => e = .returned (.bool (x && !y)) ∧ w' = w := by
  cases x <;> cases y
  all_goals
    go_enter Try.func51, Try.ntmps51
    go_wp2
    go_ret
    exact ⟨rfl, rfl⟩

theorem Ints.at {w : World} {a : Option Addr} {c : Nat} {zs : List Int} (h : Ints w a c zs) {i : Nat} {z : Int} (hz : zs[i]? = some z) : ∃ b o, a = some ⟨b, o, none⟩ ∧ w.cell? ⟨b, o + i, none⟩ = some (.int .i64 z) := by
  obtain ⟨_, ⟨h, _⟩ | ⟨b, o, ha, _, hc⟩⟩ := h
  · rw [h] at hz; simp at hz
  · exact ⟨b, o, ha, hc i z hz⟩

end Go.Proofs.Ytkoigonbncpbaaa

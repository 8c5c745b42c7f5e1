/- Iden and Full: relations made number by number. -/
import Derived.Test.YtkoigonbncpbaaaA9
namespace Go.Proofs.Ytkoigonbncpbaaa
open Go.RowKit

theorem one_cells (w : World) (u0 u1 : Value) (s : TypeId) :
    w.heap.size < (w.alloc (.cells #[u0, u1] s)).heap.size ∧ (w.alloc (.cells #[u0, u1] s)).cell? ⟨w.heap.size, 0, none⟩ = some u0 ∧ (w.alloc (.cells #[u0, u1] s)).cell? ⟨w.heap.size, 1, none⟩ = some u1 ∧
    (w.alloc (.cells #[u0, u1] s)).frozen? ⟨w.heap.size, 0, none⟩ = false ∧ (w.alloc (.cells #[u0, u1] s)).frozen? ⟨w.heap.size, 1, none⟩ = false := by
  refine ⟨by simp, by go_simp, by go_simp, by go_simp, by go_simp⟩
/-- The numbers of a row, counted. -/
def upTo (f : Nat → Nat) (n : Nat) : List Int := (List.range n).map fun i => ((f i : Nat) : Int)
theorem upTo_succ (f : Nat → Nat) (n : Nat) : upTo f (n + 1) = upTo f n ++ [((f n : Nat) : Int)] := by simp [upTo, List.range_succ]
theorem upTo_len (f : Nat → Nat) (n : Nat) : (upTo f n).length = n := by simp [upTo]
theorem mem_upTo {f : Nat → Nat} {n : Nat} {z : Int} : z ∈ upTo f n ↔ ∃ i, i < n ∧ z = ((f i : Nat) : Int) := by
  simp only [upTo, List.mem_map, List.mem_range]
  exact ⟨fun ⟨i, h, e⟩ => ⟨i, h, e.symm⟩, fun ⟨i, h, e⟩ => ⟨i, h, e.symm⟩⟩
theorem upTo_up {f : Nat → Nat} (hf : ∀ i j, i < j → f i < f j) : ∀ n, Up (upTo f n)
  | 0 => List.Pairwise.nil
  | n + 1 => by
    rw [upTo_succ]
    refine List.pairwise_append.2 ⟨upTo_up hf n, List.pairwise_singleton _ _, fun a ha b hb => ?_⟩
    obtain ⟨i, hi, rfl⟩ := mem_upTo.1 ha
    rw [List.mem_singleton.1 hb]
    have := hf i n hi
    omega
abbrev idenL (n : Nat) : List Int := upTo (fun x => x * n + x) n
abbrev fullL (n k : Nat) : List Int := upTo (fun x => x) (n ^ k)

theorem results25 (tmps : Array Value) (w : World) (b : Nat) (a : Option Addr) (n c : Nat) (x : Int) (ht : tmps.getD 2 undef = .pointer (some ⟨b, 0, none⟩)) (h0 : w.cell? ⟨b, 0, none⟩ = some (.int .i64 x)) (h1 : w.cell? ⟨b, 1, none⟩ = some (.slice a n c)) :
    (results Try.f25 tmps).run Try.prog w = .ok (.agg #[.int .i64 x, .slice a n c]) w := by
  have ht' : tmps[2]?.getD undef = .pointer (some ⟨b, 0, none⟩) := by simpa using ht
  simp [results, ht', go_sem, h0, h1, Result.andThen]

set_option maxRecDepth 100000 in
set_option maxHeartbeats 4000000 in
theorem iden_calls (n : Nat) (w : World) (hn2 : n ≤ 12) :
    Calls Try.prog 25 #[.int .i64 (n : Int)] w fun e w' => ∃ a c, e = .returned (.agg #[.int .i64 2, .slice a (idenL n).length c]) ∧ Span w.heap.size w'.heap.size w' (fun W => IntsW W a c (idenL n)) ∧ w.grownBy w' none := by
  obtain ⟨i0, hi0, hz0, hz1, hz2⟩ := info_parts info3
  rw [upTo_len]
  have hc := one_cells w (.int .i64 0) (.slice none 0 0) 27
  have hg := World.grownBy_alloc w (.cells #[.int .i64 0, .slice none 0 0] 27) none
  have hsz : (w.alloc (.cells #[.int .i64 0, .slice none 0 0] 27)).heap.size = w.heap.size + 1 := by simp
  obtain ⟨W, hW⟩ : ∃ W, w.alloc (.cells #[.int .i64 0, .slice none 0 0] 27) = W := ⟨_, rfl⟩
  rw [hW] at hc hg hsz
  have HG := Lib.hid (And.intro hg hsz); clear hg hsz
  have HC := Lib.hid hc
  obtain ⟨_, e0, e1, ef0, ef1⟩ := hc
  have HB0 := Lib.hid (RowBox.new W 2 (Bs := W.heap.size + 1) rfl)
  have HG0 := Lib.hid (World.grownBy_alloc W (.cells #[.int .i64 2, .slice none 0 0] 27) none)
  go_enter Try.func25, Try.ntmps25
  go_wp2_with fail
  clear hW e0 e1 ef0 ef1
  obtain ⟨W1, hW1⟩ : ∃ W1, W.alloc (.cells #[.int .i64 2, .slice none 0 0] 27) = W1 := ⟨_, rfl⟩
  rw [hW1] at HB0 HG0 ⊢
  clear hW1
  go_loopg [7] n (fun g s wr => ∃ (i : Nat) (v : Value), s = .int .i64 (i : Int) ∧ g = n - i ∧ i ≤ n ∧ RowBox (W.heap.size + 1) wr W.heap.size 2 v (upTo (fun x => x * n + x) i) ∧ W.grownBy wr none)
  case atStart => exact ⟨0, .slice none 0 0, rfl, rfl, Nat.zero_le _, HB0.out, HG0.out⟩
  case round =>
    obtain ⟨i, v, rfl, hgk, hi, hbx, hgr⟩ := hrel
    obtain ⟨va, vc, rfl⟩ := own_shape hbx.own
    have HBX := Lib.hid hbx; clear hbx
    have HWR := Lib.hid hgr; clear hgr
    have HI := Lib.hid hgk; clear hgk
    have r1 := HBX.out.row
    have hlen : (upTo (fun x => x * n + x) i).length = i := upTo_len _ _
    by_cases hin : i < n
    · have hinB : decide (i < n) = true := by simpa using hin
      obtain ⟨P, hP⟩ : ∃ P, i * n = P := ⟨_, rfl⟩
      obtain ⟨V, hV⟩ : ∃ V, P + i = V := ⟨_, rfl⟩
      have hP2 : P ≤ 144 := by rw [← hP]; exact Nat.le_trans (Nat.mul_le_mul (Nat.le_of_lt hin) (Nat.le_refl n)) (Nat.mul_le_mul hn2 hn2)
      have hwP : IntKind.i64.wrap ((i : Int) * (n : Int)) = (P : Int) := by rw [show (i : Int) * (n : Int) = (P : Int) by rw [← hP]; simp]; exact IntWalk.i64_in _ (by omega)
      have hwV : IntKind.i64.wrap ((P : Int) + (i : Int)) = (V : Int) := by rw [IntWalk.i64_in _ (by omega)]; omega
      have HST := Lib.hid (show upTo (fun x => x * n + x) (i + 1) = upTo (fun x => x * n + x) i ++ [(V : Int)] by rw [upTo_succ]; simp only [hP, hV])
      clear hP hV
      have HLEN := Lib.hid hlen; clear hlen
      go_wp2_with (at_builtin; refine wpList_append_own_at _ rfl _ _ 25 rfl (W.heap.size + 1) 3 i0 (.int .i64 0) 1 8 Try.underlying25 hi0 hz0 hz1 hz2 rfl (by decide) _ (upTo (fun x => x * n + x) i).length (intCells (upTo (fun x => x * n + x) i)) rfl (HBX.out.own.alloc _) ⟨wr.heap.size, 0, none⟩ 1 1 [.int .i64 (V : Int)] rfl rfl (cell_one_new _ _ _) (ints_oneCell .i64 [(V : Int)]) (by have := HLEN.out; unfold maxLen; omega) (by have := HLEN.out; omega) (by have := HBX.out.low.2; simp; omega) ?_)
      intro v' w6 hown' hgrow6 _ hat6
      have haA := World.grownBy_alloc wr (.cells #[.int .i64 (V : Int)] 3) none
      have hst := HBX.out.step haA hgrow6 hown'
      have hgs := HBX.out.grows2 hst HWR.out (Nat.le_refl _) haA hgrow6
      obtain ⟨hs1, hs2⟩ := HBX.out.at_ haA hgrow6
      obtain ⟨rgA, rcA, rfl⟩ := own_shape hown'
      have HE := Lib.hid (And.intro hst hgs)
      clear hst hgs hgrow6 hat6 hown' haA
      go_wp2_with fail
      clear hs1 hs2
      go_roundg (n - (i + 1))
      case measure => rw [HI.out]; omega
      case rel => exact ⟨i + 1, _, rfl, rfl, by omega, by rw [HST.out]; exact HE.out.1, HE.out.2⟩
    · obtain rfl : i = n := by omega
      have hinB : decide (i < i) = false := by simp
      have r0 := HBX.out.c0
      rw [hlen] at r1
      obtain ⟨a', c', hv, hi⟩ := HBX.out.ints
      injection hv with hv1 _ hv2
      subst hv1 hv2
      replace hi := hi.map fun W (h : Ints W va vc _) => h.weak
      have g3 : wr.grownBy wr none := grown_refl _ _
      have g := World.grownBy.trans HWR.out g3
      have m0 := g.cell HC.out.2.1 (by simp)
      have m1 := g.cell HC.out.2.2.1 (by simp)
      have f0 := (grown_frozen g HC.out.1 0).trans HC.out.2.2.2.1
      have f1 := (grown_frozen g HC.out.1 1).trans HC.out.2.2.2.2
      have HI3 := Lib.hid hi
      have HG3 := Lib.hid g
      clear hi g
      go_wp2_with fail
      have hret := ret_rel (p := i) (k := 2) (B := w.heap.size) (HI3.out.wide (by have := HG.out.2; omega) (Nat.le_refl _) (Nat.le_refl _)) (Nat.le_refl _) (HG.out.1.trans HG3.out)
      refine bodyPost_ret (results25 _ _ (w.heap.size) va i vc 2 rfl (by rw [World.cell?_setCell_other _ _ _ _ (by intro e; injection e with _ e; cases e)]; exact World.cell?_setCell_same _ _ _ m0) (World.cell?_setCell_same _ _ _ (by rw [World.cell?_setCell_other _ _ _ _ (by intro e; injection e with _ e; cases e)]; exact m1))) rfl ⟨va, vc, rfl, hret⟩
theorem results37f (tmps : Array Value) (w : World) (b : Nat) (a : Option Addr) (n c : Nat) (x : Int) (ht : tmps.getD 4 undef = .pointer (some ⟨b, 0, none⟩)) (h0 : w.cell? ⟨b, 0, none⟩ = some (.int .i64 x)) (h1 : w.cell? ⟨b, 1, none⟩ = some (.slice a n c)) :
    (results Try.f37 tmps).run Try.prog w = .ok (.agg #[.int .i64 x, .slice a n c]) w := by
  have ht' : tmps[4]?.getD undef = .pointer (some ⟨b, 0, none⟩) := by simpa using ht
  simp [results, ht', go_sem, h0, h1, Result.andThen]

set_option maxRecDepth 100000 in
set_option maxHeartbeats 4000000 in
theorem full_calls (n k : Nat) (w : World) (hn2 : n ≤ 12) (hk : k ≤ 3) :
    Calls Try.prog 37 #[.int .i64 (n : Int), .int .i64 (k : Int)] w fun e w' => ∃ a c, e = .returned (.agg #[.int .i64 (k : Int), .slice a (fullL n k).length c]) ∧ Span w.heap.size w'.heap.size w' (fun W => IntsW W a c (fullL n k)) ∧ w.grownBy w' none := by
  obtain ⟨i0, hi0, hz0, hz1, hz2⟩ := info_parts info3
  obtain ⟨M, hM⟩ : ∃ M, n ^ k = M := ⟨_, rfl⟩
  have hM2 : M ≤ 1728 := by rw [← hM]; exact pow_small hn2 hk
  have HPW := Lib.hid (fun (U : World) => power9_calls n k U hn2 hk)
  simp only [fullL, hM] at HPW ⊢
  clear hM
  rw [upTo_len]
  have hc := one_cells w (.int .i64 0) (.slice none 0 0) 27
  have hg := World.grownBy_alloc w (.cells #[.int .i64 0, .slice none 0 0] 27) none
  have hsz : (w.alloc (.cells #[.int .i64 0, .slice none 0 0] 27)).heap.size = w.heap.size + 1 := by simp
  obtain ⟨W, hW⟩ : ∃ W, w.alloc (.cells #[.int .i64 0, .slice none 0 0] 27) = W := ⟨_, rfl⟩
  rw [hW] at hc hg hsz
  have HG := Lib.hid (And.intro hg hsz); clear hg hsz
  have HC := Lib.hid hc
  obtain ⟨_, e0, e1, ef0, ef1⟩ := hc
  have HB0 := Lib.hid (RowBox.new W (k : Int) (Bs := W.heap.size + 1) rfl)
  have HG0 := Lib.hid (World.grownBy_alloc W (.cells #[.int .i64 (k : Int), .slice none 0 0] 27) none)
  go_enter Try.func37, Try.ntmps37
  go_wp2_with (go_at_call 39; refine (HPW.out _).mono ?_; rintro e w2 ⟨rfl, rfl⟩)
  clear hW e0 e1 ef0 ef1
  obtain ⟨W1, hW1⟩ : ∃ W1, W.alloc (.cells #[.int .i64 (k : Int), .slice none 0 0] 27) = W1 := ⟨_, rfl⟩
  rw [hW1] at HB0 HG0 ⊢
  clear hW1
  go_loopg [7] M (fun g s wr => ∃ (i : Nat) (v : Value), s = .int .i64 (i : Int) ∧ g = M - i ∧ i ≤ M ∧ RowBox (W.heap.size + 1) wr W.heap.size (k : Int) v (upTo (fun x => x) i) ∧ W.grownBy wr none)
  case atStart => exact ⟨0, .slice none 0 0, rfl, rfl, Nat.zero_le _, HB0.out, HG0.out⟩
  case round =>
    obtain ⟨i, v, rfl, hgk, hi, hbx, hgr⟩ := hrel
    obtain ⟨va, vc, rfl⟩ := own_shape hbx.own
    have HBX := Lib.hid hbx; clear hbx
    have HWR := Lib.hid hgr; clear hgr
    have HI := Lib.hid hgk; clear hgk
    have r1 := HBX.out.row
    have hlen : (upTo (fun x => x) i).length = i := upTo_len _ _
    by_cases hin : i < M
    · have hinB : decide (i < M) = true := by simpa using hin
      have HST := Lib.hid (upTo_succ (fun x => x) i)
      have HLEN := Lib.hid hlen; clear hlen
      go_wp2_with (at_builtin; refine wpList_append_own_at _ rfl _ _ 25 rfl (W.heap.size + 1) 3 i0 (.int .i64 0) 1 8 Try.underlying25 hi0 hz0 hz1 hz2 rfl (by decide) _ (upTo (fun x => x) i).length (intCells (upTo (fun x => x) i)) rfl (HBX.out.own.alloc _) ⟨wr.heap.size, 0, none⟩ 1 1 [.int .i64 (i : Int)] rfl rfl (cell_one_new _ _ _) (ints_oneCell .i64 [(i : Int)]) (by have := HLEN.out; unfold maxLen; omega) (by have := HLEN.out; omega) (by have := HBX.out.low.2; simp; omega) ?_)
      intro v' w6 hown' hgrow6 _ hat6
      have haA := World.grownBy_alloc wr (.cells #[.int .i64 (i : Int)] 3) none
      have hst := HBX.out.step haA hgrow6 hown'
      have hgs := HBX.out.grows2 hst HWR.out (Nat.le_refl _) haA hgrow6
      obtain ⟨hs1, hs2⟩ := HBX.out.at_ haA hgrow6
      obtain ⟨rgA, rcA, rfl⟩ := own_shape hown'
      have HE := Lib.hid (And.intro hst hgs)
      clear hst hgs hgrow6 hat6 hown' haA
      go_wp2_with fail
      clear hs1 hs2
      go_roundg (M - (i + 1))
      case measure => rw [HI.out]; omega
      case rel => exact ⟨i + 1, _, rfl, rfl, by omega, by rw [HST.out]; exact HE.out.1, HE.out.2⟩
    · obtain rfl : i = M := by omega
      have hinB : decide (i < i) = false := by simp
      have r0 := HBX.out.c0
      rw [hlen] at r1
      obtain ⟨a', c', hv, hi⟩ := HBX.out.ints
      injection hv with hv1 _ hv2
      subst hv1 hv2
      replace hi := hi.map fun W (h : Ints W va vc _) => h.weak
      have g3 : wr.grownBy wr none := grown_refl _ _
      have g := World.grownBy.trans HWR.out g3
      have m0 := g.cell HC.out.2.1 (by simp)
      have m1 := g.cell HC.out.2.2.1 (by simp)
      have f0 := (grown_frozen g HC.out.1 0).trans HC.out.2.2.2.1
      have f1 := (grown_frozen g HC.out.1 1).trans HC.out.2.2.2.2
      have HI3 := Lib.hid hi
      have HG3 := Lib.hid g
      clear hi g
      go_wp2_with fail
      have hret := ret_rel (p := i) (k := (k : Int)) (B := w.heap.size) (HI3.out.wide (by have := HG.out.2; omega) (Nat.le_refl _) (Nat.le_refl _)) (Nat.le_refl _) (HG.out.1.trans HG3.out)
      refine bodyPost_ret (results37f _ _ (w.heap.size) va i vc (k : Int) rfl (by rw [World.cell?_setCell_other _ _ _ _ (by intro e; injection e with _ e; cases e)]; exact World.cell?_setCell_same _ _ _ m0) (World.cell?_setCell_same _ _ _ (by rw [World.cell?_setCell_other _ _ _ _ (by intro e; injection e with _ e; cases e)]; exact m1))) rfl ⟨va, vc, rfl, hret⟩
end Go.Proofs.Ytkoigonbncpbaaa

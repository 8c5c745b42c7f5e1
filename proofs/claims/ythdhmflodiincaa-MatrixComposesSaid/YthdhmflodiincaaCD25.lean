/- Texts of the proof: SA. -/
import Derived.Test.YthdhmflodiincaaCD00
import Derived.Test.YthdhmflodiincaaCD09
import Derived.Test.YthdhmflodiincaaCD24
import Derived.Deep.DeepCutAuto
set_option maxRecDepth 100000
set_option maxHeartbeats 8000000
namespace Go.Proofs.Ythdhmflodiincaa
open Lib (hid)
open Go.RowKit Go.Maps

theorem resS45 (tmps : Array Value) (w : World) (c : Nat) (x y : Value) (hu : tmps.getD 4 undef = .pointer (some ⟨c, 0, none⟩)) (h1 : w.cell? ⟨c, 0, none⟩ = some x) (h2 : w.cell? ⟨c, 1, none⟩ = some y) :
  (results Try.f45 tmps).run Try.prog w = .ok (.agg #[x, y]) w := by
 have hu' : tmps[4]?.getD undef = .pointer (some ⟨c, 0, none⟩) := by simpa using hu
 simp [results, hu', go_sem, h1, h2, Result.andThen]
def trF (n : Nat) (a m : List Cl) (k : Nat) : List Cl := keptM m (k : Int) (atM a ((k % n * n + k / n : Nat) : Int))
def trTo (n : Nat) (a : List Cl) (k : Nat) : List Cl := (List.range k).foldl (trF n a) []
theorem trTo_succ (n : Nat) (a : List Cl) (x y : Nat) (hy : y < n) : trTo n a (x * n + y + 1) = keptM (trTo n a (x * n + y)) ((x * n + y : Nat) : Int) (atM a ((y * n + x : Nat) : Int)) := by
 unfold trTo
 rw [List.range_succ, List.foldl_append, List.foldl_cons, List.foldl_nil]
 unfold trF
 rw [pair_mod hy, pair_div hy]
theorem trTo_len (n : Nat) (a : List Cl) (k : Nat) : (trTo n a k).length ≤ k := by
 induction k with
 | zero => exact Nat.le_refl _
 | succ k ih =>
  unfold trTo at *
  rw [List.range_succ, List.foldl_append, List.foldl_cons, List.foldl_nil]
  have := kept_len ((List.range k).foldl (trF n a) []) (k : Int) (atM a ((k % n * n + k / n : Nat) : Int))
  unfold trF
  unfold trF at ih this
  omega
theorem mem_kept {m : List Cl} {k r : Int} {c : Cl} : c ∈ keptM m k r ↔ c ∈ m ∨ (r ≠ 1 ∧ c = (k, r)) := by
 unfold keptM
 split
 ·
  rename_i h
  constructor
  · exact .inl
  ·
   rintro (h9 | h9)
   · exact h9
   · exact absurd h h9.1
 ·
  rename_i h
  rw [List.mem_append, List.mem_singleton]
  constructor
  ·
   rintro (h9 | h9)
   · exact .inl h9
   · exact .inr ⟨h, h9⟩
  ·
   rintro (h9 | h9)
   · exact .inl h9
   · exact .inr h9.2
theorem mem_trTo {n : Nat} {a : List Cl} {c : Cl} : ∀ {k : Nat}, c ∈ trTo n a k ↔ ∃ j, j < k ∧ atM a ((j % n * n + j / n : Nat) : Int) ≠ 1 ∧ c = ((j : Int), atM a ((j % n * n + j / n : Nat) : Int))
 | 0 => ⟨(fun h => by cases h), (fun ⟨_, h, _⟩ => by omega)⟩
 | k + 1 => by
  have e : trTo n a (k + 1) = keptM (trTo n a k) (k : Int) (atM a ((k % n * n + k / n : Nat) : Int)) := by
   unfold trTo
   rw [List.range_succ, List.foldl_append, List.foldl_cons, List.foldl_nil]
   rfl
  rw [e, mem_kept, mem_trTo]
  constructor
  ·
   rintro (⟨j, h1, h2⟩ | ⟨h1, h2⟩)
   · exact ⟨j, by omega, h2⟩
   · exact ⟨k, by omega, h1, h2⟩
  ·
   rintro ⟨j, h1, h2, h3⟩
   by_cases h : j = k
   ·
    subst h
    exact .inr ⟨h2, h3⟩
   · exact .inl ⟨j, by omega, h2, h3⟩
theorem trTo_up (n : Nat) (a : List Cl) : ∀ k, UpM (trTo n a k)
 | 0 => List.Pairwise.nil
 | k + 1 => by
  have e : trTo n a (k + 1) = keptM (trTo n a k) (k : Int) (atM a ((k % n * n + k / n : Nat) : Int)) := by
   unfold trTo
   rw [List.range_succ, List.foldl_append, List.foldl_cons, List.foldl_nil]
   rfl
  rw [e]
  have ih := trTo_up n a k
  unfold keptM
  split
  · exact ih
  ·
   unfold UpM at *
   rw [List.map_append, List.pairwise_append]
   refine ⟨ih, List.pairwise_singleton _ _, fun x hx y hy => ?_⟩
   obtain ⟨c, hc, rfl⟩ := List.mem_map.1 hx
   obtain ⟨j, hj, _, rfl⟩ := mem_trTo.1 hc
   simp only [List.map_cons, List.map_nil, List.mem_singleton] at hy
   subst hy
   show (j : Int) < (k : Int)
   omega
theorem upM_ext : ∀ {l m : List Cl}, UpM l → UpM m → (∀ c, c ∈ l ↔ c ∈ m) → l = m
 | [], [], _, _, _ => rfl
 | [], y :: m, _, _, h => by have := (h y).2 (by simp); cases this
 | x :: l, [], _, _, h => by have := (h x).1 (by simp); cases this
 | x :: l, y :: m, hl, hm, h => by
  obtain ⟨h1, h2⟩ := upM_cons.1 hl
  obtain ⟨h3, h4⟩ := upM_cons.1 hm
  have e : x = y := by
   rcases List.mem_cons.1 ((h x).1 (by simp)) with e | e
   · exact e
   ·
    rcases List.mem_cons.1 ((h y).2 (by simp)) with e2 | e2
    · exact e2.symm
    · have := h3 x e; have := h1 y e2; omega
  subst e
  congr 1
  refine upM_ext h2 h4 fun c => ⟨fun hc => ?_, fun hc => ?_⟩
  ·
   rcases List.mem_cons.1 ((h c).1 (by simp [hc])) with e | e
   ·
    subst e
    have := h1 _ hc; omega
   · exact e
  ·
   rcases List.mem_cons.1 ((h c).2 (by simp [hc])) with e | e
   ·
    subst e
    have := h3 _ hc; omega
   · exact e
theorem trTo_turn {n : Nat} {g : List Gt} {A l : List Cl} (hs : Sq n g A) (hp : l.Perm (turnM n A)) (hl : SortedCl l) : trTo n A (n * n) = l := by
 refine upM_ext (trTo_up _ _ _) (turnM_up hs hp hl) fun c => ?_
 rw [mem_trTo, hp.mem_iff]
 constructor
 ·
  rintro ⟨j, hj, h1, rfl⟩
  have hn : 0 < n := by rcases Nat.eq_zero_or_pos n with h | h; (rw [h] at hj; omega); exact h
  obtain ⟨u, v, hu, hv, e⟩ := pair_of hn hj
  have e1 : j % n = v := by rw [e]; exact pair_mod hv
  have e2 : j / n = u := by rw [e]; exact pair_div hv
  rw [e1, e2] at h1 ⊢
  rcases @atM_mem A ((v * n + u : Nat) : Int) with h | h
  · exact absurd h h1
  ·
   refine List.mem_map.2 ⟨_, h, ?_⟩
   show (((v * n + u : Nat) : Int) % (n : Int) * n + ((v * n + u : Nat) : Int) / n, _) = _
   rw [turn_pair hu, e]
 ·
  intro h
  obtain ⟨x, y, hx, hy, e, h9⟩ := turnM_rank hs c h
  have h1 : y * n + x < n * n := by have h2 : (y + 1) * n ≤ n * n := Nat.mul_le_mul_right _ hy; rw [Nat.succ_mul] at h2; omega
  have e3 : atM A ((x * n + y : Nat) : Int) = c.2 := at_of_mem hs.1.1 h9
  refine ⟨y * n + x, h1, ?_, ?_⟩
  ·
   rw [pair_mod hx, pair_div hx, e3]
   exact (hs.1.2 _ h9).2
  · rw [pair_mod hx, pair_div hx, e3, ← e]
theorem rat_at {m : List Cl} {na : Nat} {a : Option Addr} {c : Nat} {w : World} {q : Int} (ar r : Int) (hn : m.length = na) (hl : na ≤ 1000) (e : atM m r = q) (h : CellsW w a c m) :
  Calls Try.prog 79 #[.agg #[.int .i64 ar, .slice a na c], .int .i64 r] w fun e w' => e = .returned (.int .i64 q) ∧ w.grownBy w' none := by
 subst hn e
 exact at_calls m ar r a c w h hl
theorem rturn_calls (a : List Cl) (n na : Nat) (ar : Int) (aa : Option Addr) (ca : Nat) (w : World) (hma : CellsW w aa ca a) (hna : a.length = na) (hl : na ≤ 1000) (hn : n ≤ 4) :
  Calls Try.prog 45 #[.int .i64 (n : Int), .agg #[.int .i64 ar, .slice aa na ca]] w fun e w' => ∃ b q d, e = .returned (.agg #[.int .i64 2, .slice b q d]) ∧ (trTo n a (n * n)).length = q ∧ CellsW w' b d (trTo n a (n * n)) ∧ w.grownBy w' none := by
 have HM := hid (And.intro hma (And.intro hna hl))
 have HN := hid hn
 clear hma hna hl
 go_enter Try.func45, Try.ntmps45
 go_upto_region 2 with fail
 obtain ⟨b0, hb0⟩ : ∃ z, w.heap.size = z := ⟨_, rfl⟩
 have k0 := MF.new w ar aa na ca
 have g0 := gAl w (.cells #[.int .i64 ar, .slice aa na ca] 26) none
 obtain ⟨W1, hW1⟩ : ∃ z, w.alloc (.cells #[.int .i64 ar, .slice aa na ca] 26) = z := ⟨_, rfl⟩
 have s1 : W1.heap.size = w.heap.size + 1 := by rw [← hW1]; simp
 have k1 := MF.new W1 0 none 0 0
 have g1 := gAl W1 (.cells #[.int .i64 0, .slice none 0 0] 26) none
 obtain ⟨W2, hW2⟩ : ∃ z, W1.alloc (.cells #[.int .i64 0, .slice none 0 0] 26) = z := ⟨_, rfl⟩
 have s2 : W2.heap.size = W1.heap.size + 1 := by rw [← hW2]; simp
 have k2 := MF.new W2 2 none 0 0
 have g2 := gAl W2 (.cells #[.int .i64 2, .slice none 0 0] 26) none
 obtain ⟨W3, hW3⟩ : ∃ z, W2.alloc (.cells #[.int .i64 2, .slice none 0 0] 26) = z := ⟨_, rfl⟩
 rw [hW1] at k0 g0
 rw [hW2] at k1 g1
 rw [hW3] at k2 g2
 rw [hW1, hW2, hW3]
 obtain ⟨b1, hb1⟩ : ∃ z, w.heap.size + 1 = z := ⟨_, rfl⟩
 obtain ⟨b2, hb2⟩ : ∃ z, w.heap.size + 1 + 1 = z := ⟨_, rfl⟩
 rw [s1] at k1
 rw [s2, s1] at k2
 rw [hb0] at k0
 rw [hb1] at k1
 rw [hb2] at k2
 have e2 : w.heap.size + 1 + 1 = b2 := hb2
 rw [e2, hb1, hb0]
 have HB := hid (show w.heap.size = b0 ∧ b0 < b1 ∧ b1 < b2 from by omega)
 have hg3 := gT g0 (gT g1 g2)
 have K0 := (k0.grown g1).grown g2
 have K1 := k1.grown g2
 clear e2 s1 s2 hW1 hW2 hW3 hb0 hb1 hb2 g0 g1 g2 k0 k1
 go_wp2_with fail
 go_loopg [6] n (fun gk s6 wr => ∃ (x : Nat) (am : Option Addr) (nm cm : Nat), s6 = .int .i64 (x : Int) ∧ gk = n - x ∧ x ≤ n ∧ w.grownBy wr none ∧ MF wr b0 ar aa na ca ∧ MF wr b1 0 none 0 0 ∧ MF wr b2 2 am nm cm ∧ (trTo n a (x * n)).length = nm ∧ CellsW wr am cm (trTo n a (x * n)))
 case atStart => exact ⟨0, none, 0, 0, rfl, rfl, Nat.zero_le _, hg3, K0, K1, k2, by rw [Nat.zero_mul]; rfl, by rw [Nat.zero_mul]; exact ⟨Nat.le_refl _, .inl rfl⟩⟩
 case round =>
  clear hg3 K0 K1 k2
  obtain ⟨x, am, nm, cm, rfl, hgx, hx, hg, k0, k1, k2, hl, hc⟩ := hrel
  have HX := hid hgx
  have HG := hid (And.intro hg (And.intro k0 (And.intro k1 (And.intro k2 (And.intro hl hc)))))
  clear hgx hg k0 k1 hl hc
  by_cases hxn : x < n
  ·
   have f1 : decide (x < n) = true := decide_eq_true hxn
   have f2 : decide ((x : Int) < (n : Int)) = true := decide_eq_true (by omega)
   have q0 := k2.1
   have q1 := k2.2.1
   clear k2
   go_wp2_with fail
   clear f1 f2 q0 q1
   go_loopg [7] n (fun gk s7 wr => ∃ (y : Nat) (am : Option Addr) (nm cm : Nat), s7 = .int .i64 (y : Int) ∧ gk = n - y ∧ y ≤ n ∧ w.grownBy wr none ∧ MF wr b0 ar aa na ca ∧ MF wr b1 0 none 0 0 ∧ MF wr b2 2 am nm cm ∧ (trTo n a (x * n + y)).length = nm ∧ CellsW wr am cm (trTo n a (x * n + y)))
   case atStart => exact ⟨0, am, nm, cm, rfl, rfl, Nat.zero_le _, HG.out.1, HG.out.2.1, HG.out.2.2.1, HG.out.2.2.2.1, HG.out.2.2.2.2.1, HG.out.2.2.2.2.2⟩
   case round =>
    clear HG
    obtain ⟨y, am, nm, cm, rfl, hgy, hy, hg, k0, k1, k2, hl, hc⟩ := hrel
    have HY := hid hgy
    have HG := hid hg
    have H0 := hid k0
    have H1 := hid k1
    have H2 := hid k2
    have HL := hid hl
    have HC := hid hc
    clear hgy hg k0 k1 k2 hl hc
    by_cases hyn : y < n
    ·
     have f1 : decide (y < n) = true := decide_eq_true hyn
     have f2 : decide ((y : Int) < (n : Int)) = true := decide_eq_true (by omega)
     have w3 : IntKind.i64.wrap ((y : Int) + 1) = ((y + 1 : Nat) : Int) := by rw [IntWalk.i64_in _ (by have := HN.out; omega)]; omega
     have hsc := trTo_succ n a x y hyn
     have hln := trTo_len n a (x * n + y)
     obtain ⟨l, hll⟩ : ∃ z, trTo n a (x * n + y) = z := ⟨_, rfl⟩
     rw [hll] at hsc hln HL HC
     obtain ⟨u, hu⟩ : ∃ z, x * n = z := ⟨_, rfl⟩
     obtain ⟨v, hv⟩ : ∃ z, y * n = z := ⟨_, rfl⟩
     have hu16 : u ≤ 3 * 4 := by rw [← hu]; exact Nat.mul_le_mul (by omega) HN.out
     have hv16 : v ≤ 3 * 4 := by rw [← hv]; exact Nat.mul_le_mul (by omega) HN.out
     have eu : (x : Int) * (n : Int) = (u : Int) := by rw [← hu]; simp
     have ev : (y : Int) * (n : Int) = (v : Int) := by rw [← hv]; simp
     have w1 : IntKind.i64.wrap ((x : Int) * (n : Int)) = (u : Int) := by rw [eu]; exact IntWalk.i64_in _ (by omega)
     have w2 : IntKind.i64.wrap ((y : Int) * (n : Int)) = (v : Int) := by rw [ev]; exact IntWalk.i64_in _ (by omega)
     obtain ⟨ku, hku⟩ : ∃ z, u + y = z := ⟨_, rfl⟩
     obtain ⟨kv, hkv⟩ : ∃ z, v + x = z := ⟨_, rfl⟩
     have w4 : IntKind.i64.wrap ((u : Int) + (y : Int)) = (ku : Int) := by rw [IntWalk.i64_in _ (by omega)]; omega
     have w5 : IntKind.i64.wrap ((v : Int) + (x : Int)) = (kv : Int) := by rw [IntWalk.i64_in _ (by omega)]; omega
     rw [hu, hv, hku, hkv] at hsc
     rw [hu, hku] at hln
     obtain ⟨r, hr⟩ : ∃ z, atM a (kv : Int) = z := ⟨_, rfl⟩
     rw [hr] at hsc
     have HSC := hid (And.intro hsc (And.intro hu hku))
     have HR := hid hr
     have HLN := hid (show nm ≤ 20 from by rw [← HL.out]; omega)
     clear hsc hln hll hu hv hu16 hv16 eu ev hku hkv hr
     have q0 := H2.out.1
     have q1 := H2.out.2.1
     have q2 := H0.out.1
     have q3 := H0.out.2.1
     go_upto_region 8 with fail
     clear q0 q1 q2 q3
     have HS := hid (fun (Wh : World) (hWh : Wh.cell? ⟨b0, 0, none⟩ = some (.int .i64 ar) ∧ Wh.cell? ⟨b0, 1, none⟩ = some (.slice aa na ca)) => (hWh : (fun Wh : World => Wh.cell? ⟨b0, 0, none⟩ = some (.int .i64 ar) ∧ Wh.cell? ⟨b0, 1, none⟩ = some (.slice aa na ca)) Wh))
     have hdr : wr.grownBy wr.drew none := ⟨rfl, rfl, rfl, Nat.le_refl _, fun _ _ _ => rfl⟩
     refine wp_region_held_drew (S := (fun Wh : World => Wh.cell? ⟨b0, 0, none⟩ = some (.int .i64 ar) ∧ Wh.cell? ⟨b0, 1, none⟩ = some (.slice aa na ca))) (by kernel_rfl) (HS.out _ ⟨(H0.out.grown hdr).1, (H0.out.grown hdr).2.1⟩) (fun hH => ?_)
     refine wpAnyH_take (i := 1) (oi := { dst := some 20, op := Op.move (Operand.tmp 6), type := 3, pos := "ref.go:172", after := #[], guard := none }) (v := ?_) rfl (by kernel_rfl) (by kernel_rfl) (by kernel_rfl) (fun _ _ _ h => h) (Or.inl ⟨by rfl, ?_⟩) (by assumption) ?_
     rotate_left 1
     · (intro W h; (try dsimp only at h); go_simp <;> with_reducible rfl)
     try simp only [Act.put, sA, sB, sC]
     refine wpAnyH_take (i := 2) (oi := { dst := some 21, op := Op.move (Operand.tmp 0), type := 3, pos := "ref.go:172", after := #[], guard := none }) (v := ?_) rfl (by kernel_rfl) (by kernel_rfl) (by kernel_rfl) (fun _ _ _ h => h) (Or.inl ⟨by rfl, ?_⟩) (by assumption) ?_
     rotate_left 1
     · (intro W h; (try dsimp only at h); go_simp <;> with_reducible rfl)
     try simp only [Act.put, sA, sB, sC]
     refine wpAnyH_take (i := 3) (oi := { dst := some 22, op := Op.binOp BinOp.mul 3 (Operand.tmp 20) (Operand.tmp 21) 3, type := 3, pos := "ref.go:172", after := #[{ on := 1, ground := Ground.data }, { on := 2, ground := Ground.data }], guard := none }) (v := ?_) rfl (by kernel_rfl) (by kernel_rfl) (by kernel_rfl) (fun _ _ _ h => h) (Or.inl ⟨by rfl, ?_⟩) (by assumption) ?_
     rotate_left 1
     · (intro W h; (try dsimp only at h); go_simp <;> with_reducible rfl)
     try simp only [Act.put, sA, sB, sC]
     refine wpAnyH_take (i := 4) (oi := { dst := some 23, op := Op.move (Operand.tmp 7), type := 3, pos := "ref.go:172", after := #[], guard := none }) (v := ?_) rfl (by kernel_rfl) (by kernel_rfl) (by kernel_rfl) (fun _ _ _ h => h) (Or.inl ⟨by rfl, ?_⟩) (by assumption) ?_
     rotate_left 1
     · (intro W h; (try dsimp only at h); go_simp <;> with_reducible rfl)
     try simp only [Act.put, sA, sB, sC]
     refine wpAnyH_take (i := 5) (oi := { dst := some 24, op := Op.binOp BinOp.add 3 (Operand.tmp 22) (Operand.tmp 23) 3, type := 3, pos := "ref.go:172", after := #[{ on := 3, ground := Ground.data }, { on := 4, ground := Ground.data }], guard := none }) (v := ?_) rfl (by kernel_rfl) (by kernel_rfl) (by kernel_rfl) (fun _ _ _ h => h) (Or.inl ⟨by rfl, ?_⟩) (by assumption) ?_
     rotate_left 1
     · (intro W h; (try dsimp only at h); go_simp <;> with_reducible rfl)
     try simp only [Act.put, sA, sB, sC]
     refine wpAnyH_take (i := 6) (oi := { dst := some 25, op := Op.load 26 (Operand.tmp 3), type := 26, pos := "ref.go:172", after := #[], guard := none }) (v := ?_) rfl (by kernel_rfl) (by kernel_rfl) (by kernel_rfl) (fun _ _ _ h => h) (Or.inl ⟨by rfl, ?_⟩) (by assumption) ?_
     rotate_left 1
     · (intro W h; (try dsimp only at h); go_simp <;> with_reducible rfl)
     try simp only [Act.put, sA, sB, sC]
     refine wpAnyH_take (i := 7) (oi := { dst := some 26, op := Op.move (Operand.tmp 7), type := 3, pos := "ref.go:172", after := #[], guard := none }) (v := ?_) rfl (by kernel_rfl) (by kernel_rfl) (by kernel_rfl) (fun _ _ _ h => h) (Or.inl ⟨by rfl, ?_⟩) (by assumption) ?_
     rotate_left 1
     · (intro W h; (try dsimp only at h); go_simp <;> with_reducible rfl)
     try simp only [Act.put, sA, sB, sC]
     refine wpAnyH_take (i := 8) (oi := { dst := some 27, op := Op.move (Operand.tmp 0), type := 3, pos := "ref.go:172", after := #[], guard := none }) (v := ?_) rfl (by kernel_rfl) (by kernel_rfl) (by kernel_rfl) (fun _ _ _ h => h) (Or.inl ⟨by rfl, ?_⟩) (by assumption) ?_
     rotate_left 1
     · (intro W h; (try dsimp only at h); go_simp <;> with_reducible rfl)
     try simp only [Act.put, sA, sB, sC]
     refine wpAnyH_take (i := 9) (oi := { dst := some 28, op := Op.binOp BinOp.mul 3 (Operand.tmp 26) (Operand.tmp 27) 3, type := 3, pos := "ref.go:172", after := #[{ on := 7, ground := Ground.data }, { on := 8, ground := Ground.data }], guard := none }) (v := ?_) rfl (by kernel_rfl) (by kernel_rfl) (by kernel_rfl) (fun _ _ _ h => h) (Or.inl ⟨by rfl, ?_⟩) (by assumption) ?_
     rotate_left 1
     · (intro W h; (try dsimp only at h); go_simp <;> with_reducible rfl)
     try simp only [Act.put, sA, sB, sC]
     refine wpAnyH_take (i := 10) (oi := { dst := some 29, op := Op.move (Operand.tmp 6), type := 3, pos := "ref.go:172", after := #[], guard := none }) (v := ?_) rfl (by kernel_rfl) (by kernel_rfl) (by kernel_rfl) (fun _ _ _ h => h) (Or.inl ⟨by rfl, ?_⟩) (by assumption) ?_
     rotate_left 1
     · (intro W h; (try dsimp only at h); go_simp <;> with_reducible rfl)
     try simp only [Act.put, sA, sB, sC]
     refine wpAnyH_take (i := 11) (oi := { dst := some 30, op := Op.binOp BinOp.add 3 (Operand.tmp 28) (Operand.tmp 29) 3, type := 3, pos := "ref.go:172", after := #[{ on := 9, ground := Ground.data }, { on := 10, ground := Ground.data }], guard := none }) (v := ?_) rfl (by kernel_rfl) (by kernel_rfl) (by kernel_rfl) (fun _ _ _ h => h) (Or.inl ⟨by rfl, ?_⟩) (by assumption) ?_
     rotate_left 1
     · (intro W h; (try dsimp only at h); go_simp <;> with_reducible rfl)
     try simp only [Act.put, sA, sB, sC]
     refine wpAnyH_ready (rs := [0, 12]) (by kernel_rfl) (by simp) ?_
     refine (AllReadyH.cons (o := { dst := some 19, op := Op.load 26 (Operand.tmp 5), type := 26, pos := "ref.go:172", after := #[], guard := none }) rfl (fun K hK => ?_) (AllReadyH.cons (o := { dst := some 31, op := Op.call { callee := Callee.value (Operand.func 79), args := #[Operand.tmp 25, Operand.tmp 30], argTypes := #[26, 3] }, type := 3, pos := "ref.go:172", after := #[{ on := 6, ground := Ground.data }, { on := 11, ground := Ground.data }], guard := none }) rfl (fun K hK => ?_) AllReadyH.nil))
     ·
      rw [if_pos (by rfl)]
      have p0 := (H2.out.grown hdr).1
      have p1 := (H2.out.grown hdr).2.1
      go_simp
      clear p0 p1
      refine hK.out _ _ (HS.out _ ⟨(H0.out.grown hdr).1, (H0.out.grown hdr).2.1⟩) (fun hH => ?_)
      clear hK K
      try simp only [Act.put, sA, sB, sC]
      refine wpAnyH_ready (rs := [12]) (by kernel_rfl) (by simp) ?_
      refine (AllReadyH.cons (o := { dst := some 31, op := Op.call { callee := Callee.value (Operand.func 79), args := #[Operand.tmp 25, Operand.tmp 30], argTypes := #[26, 3] }, type := 3, pos := "ref.go:172", after := #[{ on := 6, ground := Ground.data }, { on := 11, ground := Ground.data }], guard := none }) rfl (fun K hK => ?_) AllReadyH.nil)
      rw [if_pos (by rfl)]
      go_simp
      go_at_call 79
      refine (rat_at ar (kv : Int) HM.out.2.1 HM.out.2.2 HR.out (HM.out.1.grown (gT HG.out hdr))).mono ?_
      rintro e wc2 ⟨rfl, gc2⟩
      have hgr2 := gT hdr gc2
      go_wp2_with fail
      refine hK.out _ _ (HS.out _ ⟨(H0.out.grown hgr2).1, (H0.out.grown hgr2).2.1⟩) (fun hH => ?_)
      clear hK K
      try simp only [Act.put, sA, sB, sC]
      refine wpAnyH_ready (rs := [13]) (by kernel_rfl) (by simp) ?_
      refine (AllReadyH.cons (o := { dst := some 32, op := Op.call { callee := Callee.value (Operand.func 80), args := #[Operand.tmp 19, Operand.tmp 24, Operand.tmp 31], argTypes := #[26, 3, 3] }, type := 26, pos := "ref.go:172", after := #[{ on := 0, ground := Ground.data }, { on := 5, ground := Ground.data }, { on := 12, ground := Ground.data }, { on := 12, ground := Ground.chain }], guard := none }) rfl (fun K hK => ?_) AllReadyH.nil)
      rw [if_pos (by rfl)]
      go_simp
      go_at_call 80
      refine (with_calls l 2 (ku : Int) r am nm cm _ (HC.out.grown hgr2) HL.out (by have := HLN.out; omega)).mono ?_
      rintro e wc3 ⟨aN, nN, cN, rfl, hlN, hcN, gc3⟩
      have hgr3 := gT hgr2 gc3
      go_wp2_with fail
      refine hK.out _ _ (HS.out _ ⟨(H0.out.grown hgr3).1, (H0.out.grown hgr3).2.1⟩) (fun hH => ?_)
      clear hK K
      try simp only [Act.put, sA, sB, sC]
      refine wpAnyH_ready (rs := [14]) (by kernel_rfl) (by simp) ?_
      refine (AllReadyH.cons (o := { dst := none, op := Op.store 26 (Operand.tmp 5) (Operand.tmp 32), type := 0, pos := "ref.go:172", after := #[{ on := 13, ground := Ground.data }, { on := 13, ground := Ground.chain }, { on := 0, ground := Ground.phase }, { on := 1, ground := Ground.phase }, { on := 2, ground := Ground.phase }, { on := 3, ground := Ground.phase }, { on := 4, ground := Ground.phase }, { on := 5, ground := Ground.phase }, { on := 6, ground := Ground.phase }, { on := 7, ground := Ground.phase }, { on := 8, ground := Ground.phase }, { on := 9, ground := Ground.phase }, { on := 10, ground := Ground.phase }, { on := 11, ground := Ground.phase }, { on := 12, ground := Ground.phase }, { on := 13, ground := Ground.phase }], guard := none }) rfl (fun K hK => ?_) AllReadyH.nil)
      rw [if_pos (by rfl)]
      have hm2 := H2.out.grown hgr3
      have hm0 := H0.out.grown hgr3
      have hm1 := H1.out.grown hgr3
      have p0 := hm2.1
      have p1 := hm2.2.1
      have p2 := hm2.2.2.1
      have p3 := hm2.2.2.2
      go_simp
      clear p0 p1 p2 p3
      have hn2 := hm2.put 2 aN nN cN
      have hn0 := hm2.mf (.int .i64 2) (.slice aN nN cN) hm0 (by have := HB.out; omega)
      have hn1 := hm2.mf (.int .i64 2) (.slice aN nN cN) hm1 (by have := HB.out; omega)
      have hnc := hm2.cells (.int .i64 2) (.slice aN nN cN) hcN
      have hnw := MF.grows (gT HG.out hgr3) (by have := HB.out; omega) (.int .i64 2) (.slice aN nN cN) (b := b2)
      unfold laidX at hn2 hn0 hn1 hnc hnw
      obtain ⟨WS, hWS⟩ : ∃ z, (wc3.setCell ⟨b2, 0, none⟩ (.int .i64 2)).setCell ⟨b2, 1, none⟩ (.slice aN nN cN) = z := ⟨_, rfl⟩
      rw [hWS] at hn2 hn0 hn1 hnc hnw ⊢
      clear hWS
      refine hK.out _ _ (HS.out _ ⟨hn0.1, hn0.2.1⟩) (fun hH => ?_)
      clear hK K
      try simp only [Act.put, sA, sB, sC]
      refine wpAnyH_done (by kernel_rfl) ?_ _
      have hEND := hnw
      clear hH
      have HNN := hid (And.intro hn2 (And.intro hn0 (And.intro hn1 (And.intro hnc (And.intro hnw hlN)))))
      clear hn2 hn0 hn1 hnc hnw hlN hEND w1 w2 w4 w5 f1 f2
      go_wp2_with fail
      go_roundg (n - (y + 1))
      case measure => rw [HY.out]; omega
      case rel => exact ⟨y + 1, aN, nN, cN, rfl, rfl, by omega, HNN.out.2.2.2.2.1, HNN.out.2.1, HNN.out.2.2.1, HNN.out.1, by rw [show x * n + (y + 1) = ku + 1 from by rw [← HSC.out.2.2, ← HSC.out.2.1]; omega, HSC.out.1]; exact HNN.out.2.2.2.2.2, by rw [show x * n + (y + 1) = ku + 1 from by rw [← HSC.out.2.2, ← HSC.out.2.1]; omega, HSC.out.1]; exact HNN.out.2.2.2.1⟩
     ·
      rw [if_pos (by rfl)]
      go_simp
      go_at_call 79
      refine (rat_at ar (kv : Int) HM.out.2.1 HM.out.2.2 HR.out (HM.out.1.grown (gT HG.out hdr))).mono ?_
      rintro e wc1 ⟨rfl, gc1⟩
      have hgr1 := gT hdr gc1
      go_wp2_with fail
      refine hK.out _ _ (HS.out _ ⟨(H0.out.grown hgr1).1, (H0.out.grown hgr1).2.1⟩) (fun hH => ?_)
      clear hK K
      try simp only [Act.put, sA, sB, sC]
      refine wpAnyH_ready (rs := [0]) (by kernel_rfl) (by simp) ?_
      refine (AllReadyH.cons (o := { dst := some 19, op := Op.load 26 (Operand.tmp 5), type := 26, pos := "ref.go:172", after := #[], guard := none }) rfl (fun K hK => ?_) AllReadyH.nil)
      rw [if_pos (by rfl)]
      have p0 := (H2.out.grown hgr1).1
      have p1 := (H2.out.grown hgr1).2.1
      go_simp
      clear p0 p1
      refine hK.out _ _ (HS.out _ ⟨(H0.out.grown hgr1).1, (H0.out.grown hgr1).2.1⟩) (fun hH => ?_)
      clear hK K
      try simp only [Act.put, sA, sB, sC]
      refine wpAnyH_ready (rs := [13]) (by kernel_rfl) (by simp) ?_
      refine (AllReadyH.cons (o := { dst := some 32, op := Op.call { callee := Callee.value (Operand.func 80), args := #[Operand.tmp 19, Operand.tmp 24, Operand.tmp 31], argTypes := #[26, 3, 3] }, type := 26, pos := "ref.go:172", after := #[{ on := 0, ground := Ground.data }, { on := 5, ground := Ground.data }, { on := 12, ground := Ground.data }, { on := 12, ground := Ground.chain }], guard := none }) rfl (fun K hK => ?_) AllReadyH.nil)
      rw [if_pos (by rfl)]
      go_simp
      go_at_call 80
      refine (with_calls l 2 (ku : Int) r am nm cm _ (HC.out.grown hgr1) HL.out (by have := HLN.out; omega)).mono ?_
      rintro e wc3 ⟨aN, nN, cN, rfl, hlN, hcN, gc3⟩
      have hgr3 := gT hgr1 gc3
      go_wp2_with fail
      refine hK.out _ _ (HS.out _ ⟨(H0.out.grown hgr3).1, (H0.out.grown hgr3).2.1⟩) (fun hH => ?_)
      clear hK K
      try simp only [Act.put, sA, sB, sC]
      refine wpAnyH_ready (rs := [14]) (by kernel_rfl) (by simp) ?_
      refine (AllReadyH.cons (o := { dst := none, op := Op.store 26 (Operand.tmp 5) (Operand.tmp 32), type := 0, pos := "ref.go:172", after := #[{ on := 13, ground := Ground.data }, { on := 13, ground := Ground.chain }, { on := 0, ground := Ground.phase }, { on := 1, ground := Ground.phase }, { on := 2, ground := Ground.phase }, { on := 3, ground := Ground.phase }, { on := 4, ground := Ground.phase }, { on := 5, ground := Ground.phase }, { on := 6, ground := Ground.phase }, { on := 7, ground := Ground.phase }, { on := 8, ground := Ground.phase }, { on := 9, ground := Ground.phase }, { on := 10, ground := Ground.phase }, { on := 11, ground := Ground.phase }, { on := 12, ground := Ground.phase }, { on := 13, ground := Ground.phase }], guard := none }) rfl (fun K hK => ?_) AllReadyH.nil)
      rw [if_pos (by rfl)]
      have hm2 := H2.out.grown hgr3
      have hm0 := H0.out.grown hgr3
      have hm1 := H1.out.grown hgr3
      have p0 := hm2.1
      have p1 := hm2.2.1
      have p2 := hm2.2.2.1
      have p3 := hm2.2.2.2
      go_simp
      clear p0 p1 p2 p3
      have hn2 := hm2.put 2 aN nN cN
      have hn0 := hm2.mf (.int .i64 2) (.slice aN nN cN) hm0 (by have := HB.out; omega)
      have hn1 := hm2.mf (.int .i64 2) (.slice aN nN cN) hm1 (by have := HB.out; omega)
      have hnc := hm2.cells (.int .i64 2) (.slice aN nN cN) hcN
      have hnw := MF.grows (gT HG.out hgr3) (by have := HB.out; omega) (.int .i64 2) (.slice aN nN cN) (b := b2)
      unfold laidX at hn2 hn0 hn1 hnc hnw
      obtain ⟨WS, hWS⟩ : ∃ z, (wc3.setCell ⟨b2, 0, none⟩ (.int .i64 2)).setCell ⟨b2, 1, none⟩ (.slice aN nN cN) = z := ⟨_, rfl⟩
      rw [hWS] at hn2 hn0 hn1 hnc hnw ⊢
      clear hWS
      refine hK.out _ _ (HS.out _ ⟨hn0.1, hn0.2.1⟩) (fun hH => ?_)
      clear hK K
      try simp only [Act.put, sA, sB, sC]
      refine wpAnyH_done (by kernel_rfl) ?_ _
      have hEND := hnw
      clear hH
      have HNN := hid (And.intro hn2 (And.intro hn0 (And.intro hn1 (And.intro hnc (And.intro hnw hlN)))))
      clear hn2 hn0 hn1 hnc hnw hlN hEND w1 w2 w4 w5 f1 f2
      go_wp2_with fail
      go_roundg (n - (y + 1))
      case measure => rw [HY.out]; omega
      case rel => exact ⟨y + 1, aN, nN, cN, rfl, rfl, by omega, HNN.out.2.2.2.2.1, HNN.out.2.1, HNN.out.2.2.1, HNN.out.1, by rw [show x * n + (y + 1) = ku + 1 from by rw [← HSC.out.2.2, ← HSC.out.2.1]; omega, HSC.out.1]; exact HNN.out.2.2.2.2.2, by rw [show x * n + (y + 1) = ku + 1 from by rw [← HSC.out.2.2, ← HSC.out.2.1]; omega, HSC.out.1]; exact HNN.out.2.2.2.1⟩
    ·
     have f1 : decide (y < n) = false := decide_eq_false hyn
     have f2 : decide ((y : Int) < (n : Int)) = false := decide_eq_false (by omega)
     have w3 : IntKind.i64.wrap ((x : Int) + 1) = ((x + 1 : Nat) : Int) := by rw [IntWalk.i64_in _ (by have := HN.out; omega)]; omega
     have hyy : y = n := by omega
     have HE := hid (show x * n + y = (x + 1) * n from by rw [hyy, Nat.succ_mul])
     clear hyn hy hyy
     go_wp2_with fail
     go_roundg (n - (x + 1))
     case measure => rw [HX.out]; omega
     case rel => exact ⟨x + 1, am, nm, cm, rfl, rfl, by omega, HG.out, H0.out, H1.out, H2.out, by rw [← HE.out]; exact HL.out, by rw [← HE.out]; exact HC.out⟩
  ·
   have f1 : decide (x < n) = false := decide_eq_false hxn
   have f2 : decide ((x : Int) < (n : Int)) = false := decide_eq_false (by omega)
   obtain rfl : x = n := by omega
   clear hxn hx
   have q0 := k2.1
   have q1 := k2.2.1
   have p0 := HG.out.2.2.1.1
   have p1 := HG.out.2.2.1.2.1
   have p2 := HG.out.2.2.1.2.2.1
   have p3 := HG.out.2.2.1.2.2.2
   go_wp2_with fail
   clear q0 q1 p0 p1 p2 p3
   have hp := HG.out.2.2.1.put 2 am nm cm
   have hcl := HG.out.2.2.1.cells (.int .i64 2) (.slice am nm cm) HG.out.2.2.2.2.2
   have hgr := MF.grows HG.out.1 (by have := HB.out; omega) (.int .i64 2) (.slice am nm cm) (b := b1)
   unfold laidX at hp hcl hgr
   exact bodyPost_ret (resS45 _ _ b1 _ _ rfl hp.1 hp.2.1) rfl ⟨am, nm, cm, rfl, HG.out.2.2.2.2.1, hcl, hgr⟩
end Go.Proofs.Ythdhmflodiincaa

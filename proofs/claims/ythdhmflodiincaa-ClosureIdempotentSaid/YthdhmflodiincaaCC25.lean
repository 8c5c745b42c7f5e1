/- Texts of the proof: UN UP UQ. -/
import Derived.Test.YthdhmflodiincaaCC24
import Derived.Test.YthdhmflodiincaaCC20
import Derived.Test.YthdhmflodiincaaCC18
import Derived.Test.YthdhmflodiincaaCC09
import Derived.Test.YthdhmflodiincaaCC14
import Derived.Test.YthdhmflodiincaaCC01
import Derived.Deep.DeepCutAuto
set_option maxRecDepth 100000
set_option maxHeartbeats 8000000
namespace Go.Proofs.Ythdhmflodiincaa
open Go.RowKit Go.Maps Go.Sort Go.Shelf


theorem relres67 (tmps : Array Value) (w : World) (b : Nat) (a : Option Addr) (n c : Nat) (x : Int) (ht : tmps.getD 4 undef = .pointer (some ⟨b, 0, none⟩)) (h0 : w.cell? ⟨b, 0, none⟩ = some (.int .i64 x)) (h1 : w.cell? ⟨b, 1, none⟩ = some (.slice a n c)) :
    (results Try.f67 tmps).run Try.prog w = .ok (.agg #[.int .i64 x, .slice a n c]) w := by
  have ht' : tmps[4]?.getD undef = .pointer (some ⟨b, 0, none⟩) := by simpa using ht
  simp [results, ht', go_sem, h0, h1, Result.andThen]

def turnL (n : Nat) (xs : List Int) : List Int := xs.map fun x => x % (n : Int) * n + x / n
theorem turn_take {n : Nat} {xs : List Int} {i : Nat} {x : Int} (h : xs[i]? = some x) : turnL n (xs.take (i + 1)) = turnL n (xs.take i) ++ [x % (n : Int) * n + x / n] := by
  unfold turnL
  rw [List.take_add_one, h]
  simp

theorem relTurn_calls (n : Nat) (k : Int) (xs : List Int) (xa : Option Addr) (xc : Nat) (w : World) (h : IntsW w xa xc xs) (hl : xs.length ≤ 100000) (hn : 1 ≤ n) (hn2 : n ≤ 12) (hx : ∀ x ∈ xs, 0 ≤ x ∧ x ≤ 2000) :
    Calls Try.prog 67 #[.int .i64 (n : Int), .agg #[.int .i64 k, .slice xa xs.length xc]] w fun e w' => ∃ a c, e = .returned (.agg #[.int .i64 k, .slice a (uniq (turnL n xs)).length c]) ∧ Span w.heap.size w'.heap.size w' (fun W => IntsW W a c (uniq (turnL n xs))) ∧ w.grownBy w' none := by
  obtain ⟨m, hm⟩ : ∃ m, xs.length = m := ⟨_, rfl⟩
  obtain ⟨p, hp⟩ : ∃ p, (uniq (turnL n xs)).length = p := ⟨_, rfl⟩
  have hc := two_cells w (.int .i64 k) (.slice xa m xc) (.int .i64 0) (.slice none 0 0) 47 47
  have hg := (World.grownBy_alloc w (.cells #[.int .i64 k, .slice xa m xc] 47) none).trans (World.grownBy_alloc (w.alloc (.cells #[.int .i64 k, .slice xa m xc] 47)) (.cells #[.int .i64 0, .slice none 0 0] 47) none)
  have hsz : ((w.alloc (.cells #[.int .i64 k, .slice xa m xc] 47)).alloc (.cells #[.int .i64 0, .slice none 0 0] 47)).heap.size = w.heap.size + 2 := by simp
  obtain ⟨W, hW⟩ : ∃ W, (w.alloc (.cells #[.int .i64 k, .slice xa m xc] 47)).alloc (.cells #[.int .i64 0, .slice none 0 0] 47) = W := ⟨_, rfl⟩
  rw [hW] at hc hg hsz
  have HH := Lib.hid (And.intro (h.grown hg) (And.intro hm hx))
  have hl' := hl
  rw [hm] at hl' ⊢
  have HP := Lib.hid hp
  rw [hp]
  clear h hm hx hp hl
  have HG := Lib.hid (And.intro hg hsz); clear hg hsz
  have HC := Lib.hid hc
  obtain ⟨_, c0, c1, d0, d1, f0, f1⟩ := hc
  have hmm := @run_makeMap Try.prog
  have hga := World.grownBy_alloc W (.map #[] 0) none
  have c1' := hga.cell c1 (by simp)
  go_enter Try.func67, Try.ntmps67
  go_wp2_with fail
  clear hW
  have hnew := SetM.new W
  obtain ⟨W0, hW0⟩ : ∃ W0, W.alloc (.map #[] 0) = W0 := ⟨_, rfl⟩
  rw [hW0] at hnew hga ⊢
  clear hW0 c1' c0 c1 d0 d1 f0 f1 hmm
  have HN := Lib.hid (And.intro hnew hga); clear hnew hga
  go_loopg [12] m (fun g s12 wr => ∃ (i : Nat), s12 = .int .i64 (i : Int) ∧ g = m - i ∧ i ≤ m ∧ SetM wr W.heap.size (turnL n (xs.take i)) ∧ W.grownBy wr none)
  case atStart => exact ⟨0, rfl, rfl, Nat.zero_le _, HN.out.1, HN.out.2⟩
  case round =>
    obtain ⟨i, rfl, hgk, hi, hsd, hgr⟩ := hrel
    have HSD := Lib.hid hsd; clear hsd
    have HWR := Lib.hid hgr; clear hgr
    have HI := Lib.hid hgk; clear hgk
    by_cases hin : i < m
    · have hinB : decide (i < m) = true := by simpa using hin
      have hinI : (i : Int) < (m : Int) := by omega
      obtain ⟨z, hz⟩ : ∃ z, xs[i]? = some z := ⟨_, List.getElem?_eq_getElem (by rw [HH.out.2.1]; exact hin)⟩
      obtain ⟨b, o, rfl, hcell0⟩ := HH.out.1.at hz
      have hzb := HH.out.2.2 z (List.mem_of_getElem? hz)
      obtain ⟨x, rfl⟩ : ∃ x : Nat, z = (x : Int) := ⟨z.toNat, by omega⟩
      obtain ⟨r, hr⟩ : ∃ r, x % n = r := ⟨_, rfl⟩
      obtain ⟨q, hq⟩ : ∃ q, x / n = q := ⟨_, rfl⟩
      have hT := turn_take (n := n) hz
      have hri : (x : Int) % (n : Int) = (r : Int) := by omega
      have hqi : (x : Int) / (n : Int) = (q : Int) := by rw [← hq]; rfl
      have hrn : r < n := by rw [← hr]; exact Nat.mod_lt _ (by omega)
      have hqx : q ≤ 2000 := by rw [← hq]; exact Nat.le_trans (Nat.div_le_self _ _) (by omega)
      have hrq : r * n ≤ 144 := Nat.le_trans (Nat.mul_le_mul (Nat.le_of_lt hrn) (Nat.le_refl n)) (by have := Nat.mul_le_mul hn2 hn2; omega)
      rw [hri, hqi] at hT
      obtain ⟨P, hP⟩ : ∃ P, r * n = P := ⟨_, rfl⟩
      obtain ⟨V, hV⟩ : ∃ V, P + q = V := ⟨_, rfl⟩
      have hPi : (r : Int) * (n : Int) = (P : Int) := by rw [← hP]; simp
      have HT := Lib.hid (show turnL n (xs.take (i + 1)) = turnL n (xs.take i) ++ [(V : Int)] by rw [hT, hPi, ← hV]; simp)
      rw [hP] at hrq
      have hmod : (x : Int).tmod (n : Int) = (r : Int) := by rw [← hri, Int.tmod_eq_emod_of_nonneg (by omega)]
      have hwq : IntKind.i64.wrap (q : Int) = (q : Int) := IntWalk.i64_in _ (by omega)
      have hwP : IntKind.i64.wrap ((r : Int) * (n : Int)) = (P : Int) := by rw [hPi]; exact IntWalk.i64_in _ (by omega)
      have hwV : IntKind.i64.wrap ((P : Int) + (q : Int)) = (V : Int) := by rw [IntWalk.i64_in _ (by omega)]; omega
      have HV := Lib.hid (show V ≤ 3000 by omega)
      have hnn : n ≠ 0 := by omega
      have HLT := Lib.hid (show (turnL n (xs.take i)).length ≤ 100000 by unfold turnL; rw [List.length_map, List.length_take]; omega)
      have hn0 : ((n : Int) == 0) = false := by simp; omega
      have hn00 : (n : Int) ≠ 0 := by omega
      have hnB : decide ((0 : Int) < (n : Int)) = true := by simp; omega
      have hnC : decide (0 < n) = true := by simp; omega
      have e1 := HWR.out.cell HC.out.2.2.1 (by simp)
      have e2 := HWR.out.cell hcell0 (by simp)
      clear hT hr hq hz hzb hP hV hPi hri
      go_wp2_with fail
      clear e1 e2
      have HS := Lib.hid (fun (Wh : World) (hWh : W.grownBy Wh none) => (hWh : (fun Wh : World => W.grownBy Wh none) Wh))
      have hdr : W.grownBy wr.drew none := World.grownBy.trans HWR.out (⟨rfl, rfl, rfl, Nat.le_refl _, fun _ _ _ => rfl⟩ : wr.grownBy wr.drew none)
      refine wp_region_held_drew (S := (fun Wh : World => W.grownBy Wh none)) (by kernel_rfl) (HS.out _ hdr) (fun hHeld => ?_)
      refine wpAnyH_take (i := 0) (oi := { dst := some 18, op := Op.move (Operand.tmp 5), type := 107, pos := "relation.go:136", after := #[], guard := none }) (v := ?_) rfl (by kernel_rfl) (by kernel_rfl) (by kernel_rfl) (fun _ _ _ h => h) (Or.inl ⟨by rfl, ?_⟩) (by assumption) ?_
      rotate_left 1
      · (intro W h; (try dsimp only at h); go_simp <;> with_reducible rfl)
      try simp only [Act.put, sA, sB, sC]
      refine wpAnyH_take (i := 1) (oi := { dst := some 19, op := Op.move (Operand.tmp 7), type := 3, pos := "relation.go:136", after := #[], guard := none }) (v := ?_) rfl (by kernel_rfl) (by kernel_rfl) (by kernel_rfl) (fun _ _ _ h => h) (Or.inl ⟨by rfl, ?_⟩) (by assumption) ?_
      rotate_left 1
      · (intro W h; (try dsimp only at h); go_simp <;> with_reducible rfl)
      try simp only [Act.put, sA, sB, sC]
      refine wpAnyH_take (i := 2) (oi := { dst := some 20, op := Op.move (Operand.tmp 0), type := 3, pos := "relation.go:136", after := #[], guard := none }) (v := ?_) rfl (by kernel_rfl) (by kernel_rfl) (by kernel_rfl) (fun _ _ _ h => h) (Or.inl ⟨by rfl, ?_⟩) (by assumption) ?_
      rotate_left 1
      · (intro W h; (try dsimp only at h); go_simp <;> with_reducible rfl)
      try simp only [Act.put, sA, sB, sC]
      refine wpAnyH_take (i := 3) (oi := { dst := some 21, op := Op.binOp BinOp.rem 3 (Operand.tmp 19) (Operand.tmp 20) 3, type := 3, pos := "relation.go:136", after := #[{ on := 1, ground := Ground.data }, { on := 2, ground := Ground.data }], guard := none }) (v := ?_) rfl (by kernel_rfl) (by kernel_rfl) (by kernel_rfl) (fun _ _ _ h => h) (Or.inl ⟨by rfl, ?_⟩) (by assumption) ?_
      rotate_left 1
      · (intro W h; (try dsimp only at h); go_simp <;> with_reducible rfl)
      try simp only [Act.put, sA, sB, sC]
      refine wpAnyH_take (i := 4) (oi := { dst := some 22, op := Op.move (Operand.tmp 0), type := 3, pos := "relation.go:136", after := #[], guard := none }) (v := ?_) rfl (by kernel_rfl) (by kernel_rfl) (by kernel_rfl) (fun _ _ _ h => h) (Or.inl ⟨by rfl, ?_⟩) (by assumption) ?_
      rotate_left 1
      · (intro W h; (try dsimp only at h); go_simp <;> with_reducible rfl)
      try simp only [Act.put, sA, sB, sC]
      refine wpAnyH_take (i := 5) (oi := { dst := some 23, op := Op.binOp BinOp.mul 3 (Operand.tmp 21) (Operand.tmp 22) 3, type := 3, pos := "relation.go:136", after := #[{ on := 3, ground := Ground.data }, { on := 4, ground := Ground.data }], guard := none }) (v := ?_) rfl (by kernel_rfl) (by kernel_rfl) (by kernel_rfl) (fun _ _ _ h => h) (Or.inl ⟨by rfl, ?_⟩) (by assumption) ?_
      rotate_left 1
      · (intro W h; (try dsimp only at h); go_simp <;> with_reducible rfl)
      try simp only [Act.put, sA, sB, sC]
      refine wpAnyH_take (i := 6) (oi := { dst := some 24, op := Op.move (Operand.tmp 7), type := 3, pos := "relation.go:136", after := #[], guard := none }) (v := ?_) rfl (by kernel_rfl) (by kernel_rfl) (by kernel_rfl) (fun _ _ _ h => h) (Or.inl ⟨by rfl, ?_⟩) (by assumption) ?_
      rotate_left 1
      · (intro W h; (try dsimp only at h); go_simp <;> with_reducible rfl)
      try simp only [Act.put, sA, sB, sC]
      refine wpAnyH_take (i := 7) (oi := { dst := some 25, op := Op.move (Operand.tmp 0), type := 3, pos := "relation.go:136", after := #[], guard := none }) (v := ?_) rfl (by kernel_rfl) (by kernel_rfl) (by kernel_rfl) (fun _ _ _ h => h) (Or.inl ⟨by rfl, ?_⟩) (by assumption) ?_
      rotate_left 1
      · (intro W h; (try dsimp only at h); go_simp <;> with_reducible rfl)
      try simp only [Act.put, sA, sB, sC]
      refine wpAnyH_take (i := 8) (oi := { dst := some 26, op := Op.binOp BinOp.quo 3 (Operand.tmp 24) (Operand.tmp 25) 3, type := 3, pos := "relation.go:136", after := #[{ on := 6, ground := Ground.data }, { on := 7, ground := Ground.data }], guard := none }) (v := ?_) rfl (by kernel_rfl) (by kernel_rfl) (by kernel_rfl) (fun _ _ _ h => h) (Or.inl ⟨by rfl, ?_⟩) (by assumption) ?_
      rotate_left 1
      · (intro W h; (try dsimp only at h); go_simp <;> with_reducible rfl)
      try simp only [Act.put, sA, sB, sC]
      refine wpAnyH_take (i := 9) (oi := { dst := some 27, op := Op.binOp BinOp.add 3 (Operand.tmp 23) (Operand.tmp 26) 3, type := 3, pos := "relation.go:136", after := #[{ on := 5, ground := Ground.data }, { on := 8, ground := Ground.data }], guard := none }) (v := ?_) rfl (by kernel_rfl) (by kernel_rfl) (by kernel_rfl) (fun _ _ _ h => h) (Or.inl ⟨by rfl, ?_⟩) (by assumption) ?_
      rotate_left 1
      · (intro W h; (try dsimp only at h); go_simp <;> with_reducible rfl)
      try simp only [Act.put, sA, sB, sC]
      refine wpAnyH_ready (rs := [10]) (by kernel_rfl) (by simp) ?_
      refine (AllReadyH.cons (o := { dst := none, op := Op.mapUpdate 107 (Operand.tmp 18) (Operand.tmp 27) (Operand.const (Value.bool true)), type := 0, pos := "relation.go:136", after := #[{ on := 0, ground := Ground.data }, { on := 9, ground := Ground.data }, { on := 0, ground := Ground.phase }, { on := 1, ground := Ground.phase }, { on := 2, ground := Ground.phase }, { on := 3, ground := Ground.phase }, { on := 4, ground := Ground.phase }, { on := 5, ground := Ground.phase }, { on := 6, ground := Ground.phase }, { on := 7, ground := Ground.phase }, { on := 8, ground := Ground.phase }, { on := 9, ground := Ground.phase }], guard := none }) rfl (fun K hK => ?_) AllReadyH.nil)
      refine ready_setM (.tmp 18) (.tmp 27) rfl rfl W.heap.size (turnL n (xs.take i)) rfl HSD.out (by have := HLT.out; omega) (V : Int) rfl (wf64 (by omega) (by have := HV.out; omega)) (fun w6 hset hgr6 => ?_)
      have hgs := grown_own hdr hgr6 (fun k hk => by cases hk; exact Nat.le_refl _)
      refine hK.out _ _ (HS.out _ hgs) (fun hHeld => ?_)
      clear hK K
      try simp only [Act.put]
      refine wpAnyH_done (by kernel_rfl) ?_ _
      have hEND := hgs
      clear hHeld
      have HE := Lib.hid (And.intro hset hEND)
      clear hset hEND hgr6 hgs hdr
      go_wp2_with fail
      go_roundg (m - (i + 1))
      case measure => rw [HI.out]; omega
      case rel => exact ⟨i + 1, rfl, rfl, by omega, by rw [HT.out]; exact HE.out.1, HE.out.2⟩
    · have hie : i = m := by omega
      subst hie
      have hinB : decide (i < i) = false := by simp
      have e0 := HWR.out.cell HC.out.2.1 (by simp)
      have hall : xs.take i = xs := List.take_of_length_le (by rw [HH.out.2.1]; exact Nat.le_refl _)
      have HF := Lib.hid (fun (U : World) (g : wr.grownBy U none) => fromSet_calls k W.heap.size (turnL n (xs.take i)) U (HSD.out.grown g (by simp)) (by unfold turnL; rw [List.length_map, List.length_take]; omega))
      rw [hall, HP.out] at HF
      clear hall
      go_wp2_with fail
      refine (HF.out wr (grown_refl _ _)).mono ?_
      rintro e w3 ⟨a', c', rfl, hi, g3⟩
      have g := World.grownBy.trans HWR.out g3
      have m0 := g.cell HC.out.2.2.2.1 (by simp)
      have m1 := g.cell HC.out.2.2.2.2.1 (by simp)
      have f0 := (grown_frozen g HC.out.1 0).trans HC.out.2.2.2.2.2.1
      have f1 := (grown_frozen g HC.out.1 1).trans HC.out.2.2.2.2.2.2
      have HI3 := Lib.hid hi
      have HG3 := Lib.hid g
      clear hi g
      go_wp2_with fail
      have hret := ret_rel (p := p) (k := k) (B := w.heap.size + 1) (HI3.out.wide (by have := HG.out.2; have := HWR.out.size; omega) (Nat.le_refl _) (Nat.le_refl _)) (by omega) (HG.out.1.trans HG3.out)
      refine bodyPost_ret (relres67 _ _ (w.heap.size + 1) a' p c' k rfl (by rw [World.cell?_setCell_other _ _ _ _ (by intro e; injection e with _ e; cases e)]; exact World.cell?_setCell_same _ _ _ m0) (World.cell?_setCell_same _ _ _ (by rw [World.cell?_setCell_other _ _ _ _ (by intro e; injection e with _ e; cases e)]; exact m1))) rfl ⟨a', c', rfl, hret⟩
end Go.Proofs.Ythdhmflodiincaa

namespace Go.Proofs.Ythdhmflodiincaa
open Go.RowKit Go.Maps

def turnM (n : Nat) (l : List Cl) : List Cl := l.map fun c => (c.1 % (n : Int) * n + c.1 / n, c.2)
theorem turnM_take {n : Nat} {l : List Cl} {i : Nat} {c : Cl} (h : l[i]? = some c) : turnM n (l.take (i + 1)) = turnM n (l.take i) ++ [(c.1 % (n : Int) * n + c.1 / n, c.2)] := by
  unfold turnM
  rw [List.take_add_one, h]
  simp
def RowT (w : World) (B : Nat) (v : Value) (n : Nat) (l : List Cl) : Prop := w.ownsRow B 71 2 v n (clCells l)
theorem RowT.grown {w w' : World} {B n : Nat} {v : Value} {l : List Cl} (h : RowT w B v n l) (hg : w.grownBy w' none) : RowT w' B v n l := World.ownsRow.kept h hg (by cases v.ownBlock <;> simp)
theorem RowT.set {w : World} {B n : Nat} {v : Value} {l : List Cl} (h : RowT w B v n l) (p o : Nat) (u : Value) (hp : p < B) : RowT (w.setCell ⟨p, o, none⟩ u) B v n l :=
  World.ownsRow.kept h (grown_set w p o u) (.inr fun e => by have := World.ownsRow.lt h p e; omega)
theorem MF.kept {w w' : World} {b n c : Nat} {ar : Int} {a : Option Addr} {r : Option Nat} (h : MF w b ar a n c) (hg : w.grownBy w' r) (hr : r ≠ some b) : MF w' b ar a n c := by
  have ne : some b ≠ r := fun e => hr e.symm
  exact ⟨hg.cell h.1 ne, hg.cell h.2.1 ne, (World.frozen?_of_block (a := ⟨b, 0, none⟩) (hg.block b (lies_lt h.1) ne)).trans h.2.2.1, (World.frozen?_of_block (a := ⟨b, 1, none⟩) (hg.block b (lies_lt h.1) ne)).trans h.2.2.2⟩
theorem TF.kept {w w' : World} {b x : Nat} {fv : Value} {r : Option Nat} (h : TF w b x fv) (hg : w.grownBy w' r) (hr : r ≠ some b) : TF w' b x fv := ⟨hg.cell h.1 (fun e => hr e.symm), hg.cell h.2 (fun e => hr e.symm)⟩
theorem MF.put1 {w : World} {b n c n' c' : Nat} {ar : Int} {a a' : Option Addr} (h : MF w b ar a n c) : MF (w.setCell ⟨b, 1, none⟩ (.slice a' n' c')) b ar a' n' c' :=
  ⟨(World.cell?_setCell_other _ _ _ _ (fun e => by injection e with _ e; cases e)).trans h.1, World.cell?_setCell_same _ _ _ h.2.1, by rw [World.frozen?_setCell]; exact h.2.2.1, by rw [World.frozen?_setCell]; exact h.2.2.2⟩
theorem resU44 (tmps : Array Value) (w : World) (b : Nat) (a : Option Addr) (n d : Nat) (x : Value) (ht : tmps.getD 4 undef = .pointer (some ⟨b, 0, none⟩)) (h0 : w.cell? ⟨b, 0, none⟩ = some x) (h1 : w.cell? ⟨b, 1, none⟩ = some (.slice a n d)) :
    (results Try.f44 tmps).run Try.prog w = .ok (.agg #[x, .slice a n d]) w := by
  have ht' : tmps[4]?.getD undef = .pointer (some ⟨b, 0, none⟩) := by simpa using ht
  simp [results, ht', go_sem, h0, h1, Result.andThen]
theorem boxesM (w : World) (ar : Int) (ma : Option Addr) (nm mc : Nat) :
    ∃ W b0 b1, (w.alloc (.cells #[.int .i64 ar, .slice ma nm mc] 26)).alloc (.cells #[.int .i64 0, .slice none 0 0] 26) = W ∧ w.grownBy W none ∧ W.heap.size = w.heap.size + 2 ∧ (w.heap.size = b0 ∧ w.heap.size + 1 = b1) ∧ MF W b0 ar ma nm mc ∧ MF W b1 0 none 0 0 :=
  ⟨_, _, _, rfl, (World.grownBy_alloc w _ none).trans (World.grownBy_alloc _ _ none), by simp, ⟨rfl, rfl⟩, ⟨by go_simp, by go_simp, by go_simp, by go_simp⟩, ⟨by go_simp, by go_simp, by go_simp, by go_simp⟩⟩
theorem mturn_calls (w : World) (n : Nat) (ar : Int) (m : List Cl) (ma : Option Addr) (mc nm : Nat) (hnm : m.length = nm) (hm : CellsW w ma mc m) (hn1 : 1 ≤ n) (hn4 : n ≤ 4) (hl : nm ≤ 1000) (hr : ∀ c ∈ m, 0 ≤ c.1 ∧ c.1 ≤ 10000) :
    Calls Try.prog 44 #[.int .i64 (n : Int), .agg #[.int .i64 ar, .slice ma nm mc]] w fun e w' => ∃ b d l', e = .returned (.agg #[.int .i64 ar, .slice b nm d]) ∧ l'.Perm (turnM n m) ∧ SortedCl l' ∧ CellsW w' b d l' ∧ w.grownBy w' none := by
  obtain ⟨i0, hi0, hz0, hz1, hz2⟩ := info_parts infoCl
  obtain ⟨W, b0, b1, hW, hg, hsz, ⟨hb0, hb1⟩, k0, k1⟩ := boxesM w ar ma nm mc
  have HG := Lib.hid hg
  have H0 := Lib.hid k0
  have H1 := Lib.hid k1
  have HN := Lib.hid (show w.heap.size ≤ b0 ∧ b0 < b1 ∧ b1 < W.heap.size from by omega)
  have HM := Lib.hid hm
  have HNL := Lib.hid (show m.length = nm ∧ nm ≤ 1000 ∧ 1 ≤ n ∧ n ≤ 4 from ⟨hnm, hl, hn1, hn4⟩)
  have HRR := Lib.hid hr
  have HB := Lib.hid (And.intro hb1 hb0)
  clear hg k0 k1 hsz hm hb0 hb1 hnm hn1 hn4 hl hr
  go_enter Try.func44, Try.ntmps44
  go_upto_region 1 with fail
  rw [HB.out.1, HB.out.2]
  clear hW HB
  have q0 := H0.out.1
  have r0 := H0.out.2.1
  go_upto_region 2 with fail
  clear q0 r0
  have gw := World.grownBy_alloc W (.cells #[.int .i64 ar, .slice none 0 0] 26) none
  have hb := MF.new W ar none 0 0
  obtain ⟨V1, hV⟩ : ∃ z, World.alloc W (.cells #[.int .i64 ar, .slice none 0 0] 26) = z := ⟨_, rfl⟩
  have hz : V1.heap.size = W.heap.size + 1 := by rw [← hV]; simp
  rw [hV] at gw hb ⊢
  clear hV
  obtain ⟨b2, hbb⟩ : ∃ z, W.heap.size = z := ⟨_, rfl⟩
  rw [hbb] at hb ⊢
  have HS1 := Lib.hid (show W.heap.size = b2 ∧ V1.heap.size = b2 + 1 from by omega)
  clear hz hbb
  replace H0 := Lib.hid (H0.out.grown gw)
  replace H1 := Lib.hid (H1.out.grown gw)
  replace HG := Lib.hid (World.grownBy.trans HG.out gw)
  have HS2 := Lib.hid (World.grownBy.size gw)
  clear gw
  have H2 := Lib.hid hb
  clear hb
  have q0 := H0.out.1
  have r0 := H0.out.2.1
  go_wp2_with fail
  clear q0 r0
  obtain ⟨B, hB⟩ : ∃ z, V1.heap.size = z := ⟨_, rfl⟩
  have HSA := Lib.hid (show w.heap.size ≤ b0 ∧ b0 < b1 ∧ b1 < b2 ∧ b2 < B from (by have := HN.out; have := HS1.out; have := HS2.out; omega))
  have HBB := Lib.hid hB
  clear hB
  go_loopg [14] nm (fun gk s14 wr => ∃ (i : Nat) (va : Option Addr) (vc : Nat), s14 = .int .i64 (i : Int) ∧ gk = nm - i ∧ i ≤ nm ∧ w.grownBy wr none ∧ B ≤ wr.heap.size ∧ MF wr b1 0 none 0 0 ∧ MF wr b2 ar va i vc ∧ RowT wr B (.slice va i vc) i (turnM n (m.take i)))
  case atStart => exact ⟨0, none, 0, rfl, rfl, Nat.zero_le _, HG.out, by rw [HBB.out]; exact Nat.le_refl _, H1.out, H2.out, World.ownsRow_nil _ _ _ _⟩
  case round =>
    clear H0 H1 H2 HG
    obtain ⟨i, va, vc, rfl, hgi, hi, hg, hBw, h1, h2, hrow⟩ := hrel
    have HG := Lib.hid hg
    have H1 := Lib.hid h1
    have H2 := Lib.hid h2
    have HW := Lib.hid hrow
    have HBW := Lib.hid hBw
    have HI := Lib.hid hgi
    clear hg h1 h2 hrow hBw hgi
    by_cases hin : i < nm
    · have f1 : decide (i < nm) = true := decide_eq_true hin
      have f2 : decide ((i : Int) < (nm : Int)) = true := decide_eq_true (by omega)
      have hj0 : (0 : Int) ≤ (i : Int) := by omega
      have hj1 : (i : Int) < (nm : Int) := by omega
      have hk1 : IntKind.i64.wrap ((i : Int) + 1) = ((i + 1 : Nat) : Int) := by rw [IntWalk.i64_in _ (by have := HNL.out; omega)]; omega
      obtain ⟨⟨k, r⟩, hx⟩ : ∃ r, m[i]? = some r := ⟨_, List.getElem?_eq_getElem (by rw [HNL.out.1]; exact hin)⟩
      obtain ⟨bx, ox, hbx, x0, x1⟩ := (HM.out.grown HG.out).at hx
      subst hbx
      have hxr := HRR.out _ (List.mem_of_getElem? hx)
      simp only at hxr x0 x1
      obtain ⟨x, rfl⟩ : ∃ x : Nat, k = (x : Int) := ⟨k.toNat, by omega⟩
      obtain ⟨p, hp⟩ : ∃ r, x % n = r := ⟨_, rfl⟩
      obtain ⟨q, hq⟩ : ∃ q, x / n = q := ⟨_, rfl⟩
      have hT := turnM_take (n := n) hx
      have hn1 := HNL.out.2.2.1
      have hri : (x : Int) % (n : Int) = (p : Int) := by omega
      have hqi : (x : Int) / (n : Int) = (q : Int) := by rw [← hq]; rfl
      have hrn : p < n := by rw [← hp]; exact Nat.mod_lt _ (by omega)
      have hqx : q ≤ 10000 := by rw [← hq]; exact Nat.le_trans (Nat.div_le_self _ _) (by omega)
      have hrq : p * n ≤ 16 := Nat.mul_le_mul (show p ≤ 4 by have := HNL.out; omega) HNL.out.2.2.2
      simp only at hT
      rw [hri, hqi] at hT
      obtain ⟨P, hP⟩ : ∃ P, p * n = P := ⟨_, rfl⟩
      obtain ⟨V, hV⟩ : ∃ V, P + q = V := ⟨_, rfl⟩
      have hPi : (p : Int) * (n : Int) = (P : Int) := by rw [← hP]; simp
      have HT := Lib.hid (show turnM n (m.take (i + 1)) = turnM n (m.take i) ++ [((V : Int), r)] by rw [hT, hPi, ← hV]; simp)
      rw [hP] at hrq
      have hmod : (x : Int).tmod (n : Int) = (p : Int) := by rw [← hri, Int.tmod_eq_emod_of_nonneg (by omega)]
      have hwq : IntKind.i64.wrap (q : Int) = (q : Int) := IntWalk.i64_in _ (by omega)
      have hwP : IntKind.i64.wrap ((p : Int) * (n : Int)) = (P : Int) := by rw [hPi]; exact IntWalk.i64_in _ (by omega)
      have hwV : IntKind.i64.wrap ((P : Int) + (q : Int)) = (V : Int) := by rw [IntWalk.i64_in _ (by omega)]; omega
      have hnn : n ≠ 0 := by omega
      have hn0 : ((n : Int) == 0) = false := by simp; omega
      have hn00 : (n : Int) ≠ 0 := by omega
      have hnB : decide ((0 : Int) < (n : Int)) = true := by simp; omega
      have hnC : decide (0 < n) = true := by simp; omega
      clear hT hp hq hx hxr hP hV hPi hri
      go_upto_region 5 with fail
      clear x0 x1
      have HWR := Lib.hid (show ∀ j, (Value.slice va i vc).ownBlock = some j → B ≤ j ∧ j < wr.heap.size from fun j hj => World.ownsRow.lt (show wr.ownsRow B 71 2 (.slice va i vc) i (clCells (turnM n (m.take i))) from HW.out) j hj)
      have gw := World.grownBy_alloc wr (.cells #[.int .i64 (x : Int), .int .i64 r] 71) none
      have hc5 := one_cells wr (.int .i64 (x : Int)) (.int .i64 r) 71
      obtain ⟨U, hU⟩ : ∃ z, World.alloc wr (.cells #[.int .i64 (x : Int), .int .i64 r] 71) = z := ⟨_, rfl⟩
      rw [hU] at gw hc5 ⊢
      clear hU
      obtain ⟨bz, hbz⟩ : ∃ z, wr.heap.size = z := ⟨_, rfl⟩
      rw [hbz] at hc5 HWR ⊢
      have HBZ := Lib.hid hbz
      clear hbz
      replace H1 := Lib.hid (H1.out.grown gw)
      replace H2 := Lib.hid (H2.out.grown gw)
      replace HW := Lib.hid (HW.out.grown gw)
      replace HG := Lib.hid (World.grownBy.trans HG.out gw)
      have HS51 := Lib.hid (World.grownBy.size gw)
      clear gw
      have y0 := hc5.2.1
      have y1 := hc5.2.2.1
      have HY := Lib.hid (And.intro y0 y1)
      clear hc5
      go_upto_region 6 with fail
      have HWL := Lib.hid (show ∀ j, (Value.slice va i vc).ownBlock = some j → B ≤ j ∧ j < bz from fun j hj => by have := World.ownsRow.lt (show U.ownsRow B 71 2 (.slice va i vc) i (clCells (turnM n (m.take i))) from HW.out) j hj; have h2 := HWR.out j hj; omega)
      have HZ := Lib.hid (show TF U bz x (.int .i64 r) from HY.out)
      obtain ⟨Lk, hLk⟩ : ∃ z, turnM n (m.take i) = z := ⟨_, rfl⟩
      rw [hLk] at HW HT
      clear hLk y0 y1
      have HS := Lib.hid (fun (Wh : World) (h : TF Wh bz x (.int .i64 r)) => (h : (fun Wh : World => Wh.cell? ⟨bz, 0, none⟩ = some (.int .i64 (x : Int)) ∧ Wh.cell? ⟨bz, 1, none⟩ = some (.int .i64 r)) Wh))
      obtain ⟨wd, hwd⟩ : ∃ z, U.drew = z := ⟨_, rfl⟩
      have gw : U.grownBy wd none := by rw [← hwd]; exact ⟨rfl, rfl, rfl, Nat.le_refl _, fun _ _ _ => rfl⟩
      replace H1 := Lib.hid (H1.out.grown gw)
      replace H2 := Lib.hid (H2.out.grown gw)
      replace HW := Lib.hid (HW.out.grown gw)
      replace HZ := Lib.hid (HZ.out.grown gw)
      replace HG := Lib.hid (World.grownBy.trans HG.out gw)
      have HS52 := Lib.hid (World.grownBy.size gw)
      clear gw
      have hdr : TF U.drew bz x (.int .i64 r) := by rw [hwd]; exact HZ.out
      refine wp_region_held_drew (S := (fun Wh : World => Wh.cell? ⟨bz, 0, none⟩ = some (.int .i64 (x : Int)) ∧ Wh.cell? ⟨bz, 1, none⟩ = some (.int .i64 r))) (by kernel_rfl) (HS.out _ hdr) (fun hHeld => ?_)
      rw [hwd] at hHeld ⊢
      clear hwd
      refine wpAnyH_take (i := 0) (oi := { dst := some 20, op := Op.fieldAddr 26 (Operand.tmp 5) 1, type := 0, pos := "matrix.go:142", after := #[], guard := none }) (v := ?_) rfl (by kernel_rfl) (by kernel_rfl) (by kernel_rfl) (fun _ _ _ h => h) (Or.inl ⟨by rfl, ?_⟩) (by assumption) ?_
      rotate_left 1
      · (intro W h; (try dsimp only at h); go_simp <;> with_reducible rfl)
      try simp only [Act.put, sA, sB, sC]
      refine wpAnyH_take (i := 2) (oi := { dst := some 22, op := Op.fieldAddr 71 (Operand.tmp 7) 0, type := 0, pos := "matrix.go:142", after := #[], guard := none }) (v := ?_) rfl (by kernel_rfl) (by kernel_rfl) (by kernel_rfl) (fun _ _ _ h => h) (Or.inl ⟨by rfl, ?_⟩) (by assumption) ?_
      rotate_left 1
      · (intro W h; (try dsimp only at h); go_simp <;> with_reducible rfl)
      try simp only [Act.put, sA, sB, sC]
      refine wpAnyH_take (i := 3) (oi := { dst := some 23, op := Op.load 3 (Operand.tmp 22), type := 3, pos := "matrix.go:142", after := #[{ on := 2, ground := Ground.data }], guard := none }) (v := ?_) rfl (by kernel_rfl) (by kernel_rfl) (by kernel_rfl) (fun _ _ _ h => h) (Or.inl ⟨by rfl, ?_⟩) (by assumption) ?_
      rotate_left 1
      · (intro W h; (try dsimp only at h); go_simp <;> with_reducible rfl)
      try simp only [Act.put, sA, sB, sC]
      refine wpAnyH_take (i := 4) (oi := { dst := some 24, op := Op.move (Operand.tmp 0), type := 3, pos := "matrix.go:142", after := #[], guard := none }) (v := ?_) rfl (by kernel_rfl) (by kernel_rfl) (by kernel_rfl) (fun _ _ _ h => h) (Or.inl ⟨by rfl, ?_⟩) (by assumption) ?_
      rotate_left 1
      · (intro W h; (try dsimp only at h); go_simp <;> with_reducible rfl)
      try simp only [Act.put, sA, sB, sC]
      refine wpAnyH_take (i := 5) (oi := { dst := some 25, op := Op.binOp BinOp.rem 3 (Operand.tmp 23) (Operand.tmp 24) 3, type := 3, pos := "matrix.go:142", after := #[{ on := 3, ground := Ground.data }, { on := 4, ground := Ground.data }], guard := none }) (v := ?_) rfl (by kernel_rfl) (by kernel_rfl) (by kernel_rfl) (fun _ _ _ h => h) (Or.inl ⟨by rfl, ?_⟩) (by assumption) ?_
      rotate_left 1
      · (intro W h; (try dsimp only at h); go_simp <;> with_reducible rfl)
      try simp only [Act.put, sA, sB, sC]
      refine wpAnyH_take (i := 6) (oi := { dst := some 26, op := Op.move (Operand.tmp 0), type := 3, pos := "matrix.go:142", after := #[], guard := none }) (v := ?_) rfl (by kernel_rfl) (by kernel_rfl) (by kernel_rfl) (fun _ _ _ h => h) (Or.inl ⟨by rfl, ?_⟩) (by assumption) ?_
      rotate_left 1
      · (intro W h; (try dsimp only at h); go_simp <;> with_reducible rfl)
      try simp only [Act.put, sA, sB, sC]
      refine wpAnyH_take (i := 7) (oi := { dst := some 27, op := Op.binOp BinOp.mul 3 (Operand.tmp 25) (Operand.tmp 26) 3, type := 3, pos := "matrix.go:142", after := #[{ on := 5, ground := Ground.data }, { on := 6, ground := Ground.data }], guard := none }) (v := ?_) rfl (by kernel_rfl) (by kernel_rfl) (by kernel_rfl) (fun _ _ _ h => h) (Or.inl ⟨by rfl, ?_⟩) (by assumption) ?_
      rotate_left 1
      · (intro W h; (try dsimp only at h); go_simp <;> with_reducible rfl)
      try simp only [Act.put, sA, sB, sC]
      refine wpAnyH_take (i := 8) (oi := { dst := some 28, op := Op.fieldAddr 71 (Operand.tmp 7) 0, type := 0, pos := "matrix.go:142", after := #[], guard := none }) (v := ?_) rfl (by kernel_rfl) (by kernel_rfl) (by kernel_rfl) (fun _ _ _ h => h) (Or.inl ⟨by rfl, ?_⟩) (by assumption) ?_
      rotate_left 1
      · (intro W h; (try dsimp only at h); go_simp <;> with_reducible rfl)
      try simp only [Act.put, sA, sB, sC]
      refine wpAnyH_take (i := 9) (oi := { dst := some 29, op := Op.load 3 (Operand.tmp 28), type := 3, pos := "matrix.go:142", after := #[{ on := 8, ground := Ground.data }], guard := none }) (v := ?_) rfl (by kernel_rfl) (by kernel_rfl) (by kernel_rfl) (fun _ _ _ h => h) (Or.inl ⟨by rfl, ?_⟩) (by assumption) ?_
      rotate_left 1
      · (intro W h; (try dsimp only at h); go_simp <;> with_reducible rfl)
      try simp only [Act.put, sA, sB, sC]
      refine wpAnyH_take (i := 10) (oi := { dst := some 30, op := Op.move (Operand.tmp 0), type := 3, pos := "matrix.go:142", after := #[], guard := none }) (v := ?_) rfl (by kernel_rfl) (by kernel_rfl) (by kernel_rfl) (fun _ _ _ h => h) (Or.inl ⟨by rfl, ?_⟩) (by assumption) ?_
      rotate_left 1
      · (intro W h; (try dsimp only at h); go_simp <;> with_reducible rfl)
      try simp only [Act.put, sA, sB, sC]
      refine wpAnyH_take (i := 11) (oi := { dst := some 31, op := Op.binOp BinOp.quo 3 (Operand.tmp 29) (Operand.tmp 30) 3, type := 3, pos := "matrix.go:142", after := #[{ on := 9, ground := Ground.data }, { on := 10, ground := Ground.data }], guard := none }) (v := ?_) rfl (by kernel_rfl) (by kernel_rfl) (by kernel_rfl) (fun _ _ _ h => h) (Or.inl ⟨by rfl, ?_⟩) (by assumption) ?_
      rotate_left 1
      · (intro W h; (try dsimp only at h); go_simp <;> with_reducible rfl)
      try simp only [Act.put, sA, sB, sC]
      refine wpAnyH_take (i := 12) (oi := { dst := some 32, op := Op.binOp BinOp.add 3 (Operand.tmp 27) (Operand.tmp 31) 3, type := 3, pos := "matrix.go:142", after := #[{ on := 7, ground := Ground.data }, { on := 11, ground := Ground.data }], guard := none }) (v := ?_) rfl (by kernel_rfl) (by kernel_rfl) (by kernel_rfl) (fun _ _ _ h => h) (Or.inl ⟨by rfl, ?_⟩) (by assumption) ?_
      rotate_left 1
      · (intro W h; (try dsimp only at h); go_simp <;> with_reducible rfl)
      try simp only [Act.put, sA, sB, sC]
      refine wpAnyH_take (i := 13) (oi := { dst := some 33, op := Op.fieldAddr 71 (Operand.tmp 7) 1, type := 0, pos := "matrix.go:142", after := #[], guard := none }) (v := ?_) rfl (by kernel_rfl) (by kernel_rfl) (by kernel_rfl) (fun _ _ _ h => h) (Or.inl ⟨by rfl, ?_⟩) (by assumption) ?_
      rotate_left 1
      · (intro W h; (try dsimp only at h); go_simp <;> with_reducible rfl)
      try simp only [Act.put, sA, sB, sC]
      refine wpAnyH_take (i := 14) (oi := { dst := some 34, op := Op.load 3 (Operand.tmp 33), type := 3, pos := "matrix.go:142", after := #[{ on := 13, ground := Ground.data }], guard := none }) (v := ?_) rfl (by kernel_rfl) (by kernel_rfl) (by kernel_rfl) (fun _ _ _ h => h) (Or.inl ⟨by rfl, ?_⟩) (by assumption) ?_
      rotate_left 1
      · (intro W h; (try dsimp only at h); go_simp <;> with_reducible rfl)
      try simp only [Act.put, sA, sB, sC]
      refine wpAnyH_take (i := 15) (oi := { dst := some 35, op := Op.build 71 #[(0, Operand.tmp 32), (1, Operand.tmp 34)], type := 71, pos := "matrix.go:142", after := #[{ on := 12, ground := Ground.data }, { on := 14, ground := Ground.data }], guard := none }) (v := ?_) rfl (by kernel_rfl) (by kernel_rfl) (by kernel_rfl) (fun _ _ _ h => h) (Or.inl ⟨by rfl, ?_⟩) (by assumption) ?_
      rotate_left 1
      · (intro W h; (try dsimp only at h); go_simp <;> with_reducible rfl)
      try simp only [Act.put, sA, sB, sC]
      refine wpAnyH_ready (rs := [1, 16]) (by kernel_rfl) (by simp) ?_
      refine (AllReadyH.cons (o := { dst := some 21, op := Op.load 24 (Operand.tmp 20), type := 24, pos := "matrix.go:142", after := #[{ on := 0, ground := Ground.data }], guard := none }) rfl (fun K hK => ?_) (AllReadyH.cons (o := { dst := some 36, op := Op.buildSlice 24 1 #[(0, Operand.tmp 35)], type := 24, pos := "matrix.go:142", after := #[{ on := 15, ground := Ground.data }], guard := none }) rfl (fun K hK => ?_) AllReadyH.nil))
      · rw [if_pos (by rfl)]
        have q2 := H2.out.2.1
        go_simp
        clear q2
        refine hK.out _ _ (HS.out _ HZ.out) (fun hHeld => ?_)
        clear hK K
        try simp only [Act.put, sA, sB, sC]
        refine wpAnyH_ready (rs := [16]) (by kernel_rfl) (by simp) ?_
        refine (AllReadyH.cons (o := { dst := some 36, op := Op.buildSlice 24 1 #[(0, Operand.tmp 35)], type := 24, pos := "matrix.go:142", after := #[{ on := 15, ground := Ground.data }], guard := none }) rfl (fun K hK => ?_) AllReadyH.nil)
        rw [if_pos (by rfl)]
        go_simp
        have hnA := cells_new_at wd ((V : Int), r)
        have gw := World.grownBy_alloc wd (.cells #[.int .i64 (V : Int), .int .i64 r] 71) none
        obtain ⟨U2, hU2⟩ : ∃ z, World.alloc wd (.cells #[.int .i64 (V : Int), .int .i64 r] 71) = z := ⟨_, rfl⟩
        simp only at hnA
        rw [hU2] at gw hnA ⊢
        clear hU2
        replace H1 := Lib.hid (H1.out.grown gw)
        replace H2 := Lib.hid (H2.out.grown gw)
        replace HW := Lib.hid (HW.out.grown gw)
        replace HZ := Lib.hid (HZ.out.grown gw)
        replace HG := Lib.hid (World.grownBy.trans HG.out gw)
        have HS53 := Lib.hid (World.grownBy.size gw)
        clear gw
        refine hK.out _ _ (HS.out _ HZ.out) (fun hHeld => ?_)
        clear hK K
        try simp only [Act.put, sA, sB, sC]
        refine wpAnyH_ready (rs := [17]) (by kernel_rfl) (by simp) ?_
        refine (AllReadyH.cons (o := { dst := some 37, op := Op.call { callee := Callee.builtin Builtin.append, args := #[Operand.tmp 21, Operand.tmp 36], argTypes := #[24, 24] }, type := 24, pos := "matrix.go:142", after := #[{ on := 1, ground := Ground.data }, { on := 16, ground := Ground.data }], guard := none }) rfl (fun K hK => ?_) AllReadyH.nil)
        refine ready_append_g 24 71 (.tmp 21) (.tmp 36) rfl rfl Try.underlying24 hi0 hz0 hz1 hz2 rfl (by decide) (by omega) B _ i (clCells Lk) rfl (show U2.ownsRow B 71 2 (.slice va i vc) i (clCells Lk) from HW.out) ⟨wd.heap.size, 0, none⟩ [.int .i64 (V : Int), .int .i64 r] rfl rfl hnA (fun u hu => by simp at hu; rcases hu with rfl | rfl <;> rfl) (by have := HNL.out; omega) (by have := HSA.out; have := HBW.out; have := HS51.out; have := HS52.out; have := HS53.out; omega) (fun v' w6 hown' hgrow6 hat6 => ?_)
        obtain ⟨rgA, rcA, rfl⟩ := own_shape hown'
        have nw1 := H1.out.kept hgrow6 (fun e => by have := HWL.out _ e; have := HSA.out; omega)
        have nw2 := H2.out.kept hgrow6 (fun e => by have := HWL.out _ e; have := HSA.out; omega)
        have nwZ := HZ.out.kept hgrow6 (fun e => by have := HWL.out _ e; omega)
        have nG := grown_own HG.out hgrow6 (fun k e => by have := HWL.out _ e; have := HSA.out; omega)
        have nW : RowT w6 B (.slice rgA (i + 1) rcA) (i + 1) (turnM n (m.take (i + 1))) := by rw [HT.out]; unfold RowT; rw [clCells_app]; exact hown'
        replace H1 := Lib.hid nw1
        replace H2 := Lib.hid nw2
        replace HZ := Lib.hid nwZ
        replace HG := Lib.hid nG
        replace HW := Lib.hid nW
        have HS60 := Lib.hid (World.grownBy.size hgrow6)
        clear nw1 nw2 nwZ nG nW hown' hgrow6 hat6 hnA
        refine hK.out _ _ (HS.out _ HZ.out) (fun hHeld => ?_)
        clear hK K
        try simp only [Act.put, sA, sB, sC]
        refine wpAnyH_take (i := 18) (oi := { dst := some 38, op := Op.fieldAddr 26 (Operand.tmp 5) 1, type := 0, pos := "matrix.go:142", after := #[{ on := 0, ground := Ground.phase }, { on := 1, ground := Ground.phase }, { on := 2, ground := Ground.phase }, { on := 3, ground := Ground.phase }, { on := 4, ground := Ground.phase }, { on := 5, ground := Ground.phase }, { on := 6, ground := Ground.phase }, { on := 7, ground := Ground.phase }, { on := 8, ground := Ground.phase }, { on := 9, ground := Ground.phase }, { on := 10, ground := Ground.phase }, { on := 11, ground := Ground.phase }, { on := 12, ground := Ground.phase }, { on := 13, ground := Ground.phase }, { on := 14, ground := Ground.phase }, { on := 15, ground := Ground.phase }, { on := 16, ground := Ground.phase }, { on := 17, ground := Ground.phase }], guard := none }) (v := ?_) rfl (by kernel_rfl) (by kernel_rfl) (by kernel_rfl) (fun _ _ _ h => h) (Or.inl ⟨by rfl, ?_⟩) (by assumption) ?_
        rotate_left 1
        · (intro W h; (try dsimp only at h); go_simp <;> with_reducible rfl)
        try simp only [Act.put, sA, sB, sC]
        refine wpAnyH_ready (rs := [19]) (by kernel_rfl) (by simp) ?_
        refine (AllReadyH.cons (o := { dst := none, op := Op.store 24 (Operand.tmp 38) (Operand.tmp 37), type := 0, pos := "matrix.go:142", after := #[{ on := 18, ground := Ground.data }, { on := 17, ground := Ground.data }, { on := 17, ground := Ground.chain }, { on := 0, ground := Ground.phase }, { on := 1, ground := Ground.phase }, { on := 2, ground := Ground.phase }, { on := 3, ground := Ground.phase }, { on := 4, ground := Ground.phase }, { on := 5, ground := Ground.phase }, { on := 6, ground := Ground.phase }, { on := 7, ground := Ground.phase }, { on := 8, ground := Ground.phase }, { on := 9, ground := Ground.phase }, { on := 10, ground := Ground.phase }, { on := 11, ground := Ground.phase }, { on := 12, ground := Ground.phase }, { on := 13, ground := Ground.phase }, { on := 14, ground := Ground.phase }, { on := 15, ground := Ground.phase }, { on := 16, ground := Ground.phase }, { on := 17, ground := Ground.phase }], guard := none }) rfl (fun K hK => ?_) AllReadyH.nil)
        rw [if_pos (by rfl)]
        have q2 := H2.out.2.1
        have q3 := H2.out.2.2.2
        go_simp
        clear q2 q3
        have nw1 := H1.out.kept (grown_set w6 b2 1 (.slice rgA (i + 1) rcA)) (fun e => by injection e with e; have := HSA.out; omega)
        have nw2 := H2.out.put1 (a' := rgA) (n' := i + 1) (c' := rcA)
        have nwZ := HZ.out.kept (grown_set w6 b2 1 (.slice rgA (i + 1) rcA)) (fun e => by injection e with e; have := HSA.out; have := HBZ.out; have := HBW.out; omega)
        have nG := grown_own HG.out (grown_set w6 b2 1 (.slice rgA (i + 1) rcA)) (fun k e => by cases e; have := HSA.out; omega)
        have nW := HW.out.set b2 1 (.slice rgA (i + 1) rcA) (by have := HSA.out; omega)
        have nS : (w6.setCell ⟨b2, 1, none⟩ (.slice rgA (i + 1) rcA)).heap.size = w6.heap.size := by simp
        obtain ⟨w7, h7⟩ : ∃ z, w6.setCell ⟨b2, 1, none⟩ (.slice rgA (i + 1) rcA) = z := ⟨_, rfl⟩
        rw [h7] at nw1 nw2 nwZ nG nW nS ⊢
        clear h7
        replace H1 := Lib.hid nw1
        replace H2 := Lib.hid nw2
        replace HZ := Lib.hid nwZ
        replace HG := Lib.hid nG
        replace HW := Lib.hid nW
        have HS61 := Lib.hid nS
        clear nw1 nw2 nwZ nG nW nS
        refine hK.out _ _ (HS.out _ HZ.out) (fun hHeld => ?_)
        clear hK K
        try simp only [Act.put, sA, sB, sC]
        refine wpAnyH_done (by kernel_rfl) ?_ _
        have hEND := hdr
        clear hHeld
        clear hwq hwP hwV hmod
        go_wp2_with fail
        go_roundg (nm - (i + 1))
        case measure => rw [HI.out]; omega
        case rel => exact ⟨i + 1, rgA, rcA, rfl, rfl, by omega, HG.out, (by have := HSA.out; have := HBW.out; have := HS51.out; have := HS52.out; have := HS53.out; have := HS60.out; have := HS61.out; omega), H1.out, H2.out, HW.out⟩
      · rw [if_pos (by rfl)]
        go_simp
        have hnA := cells_new_at wd ((V : Int), r)
        have gw := World.grownBy_alloc wd (.cells #[.int .i64 (V : Int), .int .i64 r] 71) none
        obtain ⟨U2, hU2⟩ : ∃ z, World.alloc wd (.cells #[.int .i64 (V : Int), .int .i64 r] 71) = z := ⟨_, rfl⟩
        simp only at hnA
        rw [hU2] at gw hnA ⊢
        clear hU2
        replace H1 := Lib.hid (H1.out.grown gw)
        replace H2 := Lib.hid (H2.out.grown gw)
        replace HW := Lib.hid (HW.out.grown gw)
        replace HZ := Lib.hid (HZ.out.grown gw)
        replace HG := Lib.hid (World.grownBy.trans HG.out gw)
        have HS53 := Lib.hid (World.grownBy.size gw)
        clear gw
        refine hK.out _ _ (HS.out _ HZ.out) (fun hHeld => ?_)
        clear hK K
        try simp only [Act.put, sA, sB, sC]
        refine wpAnyH_ready (rs := [1]) (by kernel_rfl) (by simp) ?_
        refine (AllReadyH.cons (o := { dst := some 21, op := Op.load 24 (Operand.tmp 20), type := 24, pos := "matrix.go:142", after := #[{ on := 0, ground := Ground.data }], guard := none }) rfl (fun K hK => ?_) AllReadyH.nil)
        rw [if_pos (by rfl)]
        have q2 := H2.out.2.1
        go_simp
        clear q2
        refine hK.out _ _ (HS.out _ HZ.out) (fun hHeld => ?_)
        clear hK K
        try simp only [Act.put, sA, sB, sC]
        refine wpAnyH_ready (rs := [17]) (by kernel_rfl) (by simp) ?_
        refine (AllReadyH.cons (o := { dst := some 37, op := Op.call { callee := Callee.builtin Builtin.append, args := #[Operand.tmp 21, Operand.tmp 36], argTypes := #[24, 24] }, type := 24, pos := "matrix.go:142", after := #[{ on := 1, ground := Ground.data }, { on := 16, ground := Ground.data }], guard := none }) rfl (fun K hK => ?_) AllReadyH.nil)
        refine ready_append_g 24 71 (.tmp 21) (.tmp 36) rfl rfl Try.underlying24 hi0 hz0 hz1 hz2 rfl (by decide) (by omega) B _ i (clCells Lk) rfl (show U2.ownsRow B 71 2 (.slice va i vc) i (clCells Lk) from HW.out) ⟨wd.heap.size, 0, none⟩ [.int .i64 (V : Int), .int .i64 r] rfl rfl hnA (fun u hu => by simp at hu; rcases hu with rfl | rfl <;> rfl) (by have := HNL.out; omega) (by have := HSA.out; have := HBW.out; have := HS51.out; have := HS52.out; have := HS53.out; omega) (fun v' w6 hown' hgrow6 hat6 => ?_)
        obtain ⟨rgA, rcA, rfl⟩ := own_shape hown'
        have nw1 := H1.out.kept hgrow6 (fun e => by have := HWL.out _ e; have := HSA.out; omega)
        have nw2 := H2.out.kept hgrow6 (fun e => by have := HWL.out _ e; have := HSA.out; omega)
        have nwZ := HZ.out.kept hgrow6 (fun e => by have := HWL.out _ e; omega)
        have nG := grown_own HG.out hgrow6 (fun k e => by have := HWL.out _ e; have := HSA.out; omega)
        have nW : RowT w6 B (.slice rgA (i + 1) rcA) (i + 1) (turnM n (m.take (i + 1))) := by rw [HT.out]; unfold RowT; rw [clCells_app]; exact hown'
        replace H1 := Lib.hid nw1
        replace H2 := Lib.hid nw2
        replace HZ := Lib.hid nwZ
        replace HG := Lib.hid nG
        replace HW := Lib.hid nW
        have HS60 := Lib.hid (World.grownBy.size hgrow6)
        clear nw1 nw2 nwZ nG nW hown' hgrow6 hat6 hnA
        refine hK.out _ _ (HS.out _ HZ.out) (fun hHeld => ?_)
        clear hK K
        try simp only [Act.put, sA, sB, sC]
        refine wpAnyH_take (i := 18) (oi := { dst := some 38, op := Op.fieldAddr 26 (Operand.tmp 5) 1, type := 0, pos := "matrix.go:142", after := #[{ on := 0, ground := Ground.phase }, { on := 1, ground := Ground.phase }, { on := 2, ground := Ground.phase }, { on := 3, ground := Ground.phase }, { on := 4, ground := Ground.phase }, { on := 5, ground := Ground.phase }, { on := 6, ground := Ground.phase }, { on := 7, ground := Ground.phase }, { on := 8, ground := Ground.phase }, { on := 9, ground := Ground.phase }, { on := 10, ground := Ground.phase }, { on := 11, ground := Ground.phase }, { on := 12, ground := Ground.phase }, { on := 13, ground := Ground.phase }, { on := 14, ground := Ground.phase }, { on := 15, ground := Ground.phase }, { on := 16, ground := Ground.phase }, { on := 17, ground := Ground.phase }], guard := none }) (v := ?_) rfl (by kernel_rfl) (by kernel_rfl) (by kernel_rfl) (fun _ _ _ h => h) (Or.inl ⟨by rfl, ?_⟩) (by assumption) ?_
        rotate_left 1
        · (intro W h; (try dsimp only at h); go_simp <;> with_reducible rfl)
        try simp only [Act.put, sA, sB, sC]
        refine wpAnyH_ready (rs := [19]) (by kernel_rfl) (by simp) ?_
        refine (AllReadyH.cons (o := { dst := none, op := Op.store 24 (Operand.tmp 38) (Operand.tmp 37), type := 0, pos := "matrix.go:142", after := #[{ on := 18, ground := Ground.data }, { on := 17, ground := Ground.data }, { on := 17, ground := Ground.chain }, { on := 0, ground := Ground.phase }, { on := 1, ground := Ground.phase }, { on := 2, ground := Ground.phase }, { on := 3, ground := Ground.phase }, { on := 4, ground := Ground.phase }, { on := 5, ground := Ground.phase }, { on := 6, ground := Ground.phase }, { on := 7, ground := Ground.phase }, { on := 8, ground := Ground.phase }, { on := 9, ground := Ground.phase }, { on := 10, ground := Ground.phase }, { on := 11, ground := Ground.phase }, { on := 12, ground := Ground.phase }, { on := 13, ground := Ground.phase }, { on := 14, ground := Ground.phase }, { on := 15, ground := Ground.phase }, { on := 16, ground := Ground.phase }, { on := 17, ground := Ground.phase }], guard := none }) rfl (fun K hK => ?_) AllReadyH.nil)
        rw [if_pos (by rfl)]
        have q2 := H2.out.2.1
        have q3 := H2.out.2.2.2
        go_simp
        clear q2 q3
        have nw1 := H1.out.kept (grown_set w6 b2 1 (.slice rgA (i + 1) rcA)) (fun e => by injection e with e; have := HSA.out; omega)
        have nw2 := H2.out.put1 (a' := rgA) (n' := i + 1) (c' := rcA)
        have nwZ := HZ.out.kept (grown_set w6 b2 1 (.slice rgA (i + 1) rcA)) (fun e => by injection e with e; have := HSA.out; have := HBZ.out; have := HBW.out; omega)
        have nG := grown_own HG.out (grown_set w6 b2 1 (.slice rgA (i + 1) rcA)) (fun k e => by cases e; have := HSA.out; omega)
        have nW := HW.out.set b2 1 (.slice rgA (i + 1) rcA) (by have := HSA.out; omega)
        have nS : (w6.setCell ⟨b2, 1, none⟩ (.slice rgA (i + 1) rcA)).heap.size = w6.heap.size := by simp
        obtain ⟨w7, h7⟩ : ∃ z, w6.setCell ⟨b2, 1, none⟩ (.slice rgA (i + 1) rcA) = z := ⟨_, rfl⟩
        rw [h7] at nw1 nw2 nwZ nG nW nS ⊢
        clear h7
        replace H1 := Lib.hid nw1
        replace H2 := Lib.hid nw2
        replace HZ := Lib.hid nwZ
        replace HG := Lib.hid nG
        replace HW := Lib.hid nW
        have HS61 := Lib.hid nS
        clear nw1 nw2 nwZ nG nW nS
        refine hK.out _ _ (HS.out _ HZ.out) (fun hHeld => ?_)
        clear hK K
        try simp only [Act.put, sA, sB, sC]
        refine wpAnyH_done (by kernel_rfl) ?_ _
        have hEND := hdr
        clear hHeld
        clear hwq hwP hwV hmod
        go_wp2_with fail
        go_roundg (nm - (i + 1))
        case measure => rw [HI.out]; omega
        case rel => exact ⟨i + 1, rgA, rcA, rfl, rfl, by omega, HG.out, (by have := HSA.out; have := HBW.out; have := HS51.out; have := HS52.out; have := HS53.out; have := HS60.out; have := HS61.out; omega), H1.out, H2.out, HW.out⟩
    · have f1 : decide (i < nm) = false := decide_eq_false hin
      have f2 : decide ((i : Int) < (nm : Int)) = false := decide_eq_false (by omega)
      obtain rfl : i = nm := by omega
      have HSO := Lib.hid (fun (h : wr.ownsRow B 71 2 (.slice va i vc) i (clCells (turnM n (m.take i)))) => msort_calls B (turnM n (m.take i)) va i vc wr h (by rw [turnM, List.length_map, List.length_take, HNL.out.1]; omega) HNL.out.2.1)
      have q2 := H2.out.2.1
      have q3 := H2.out.1
      go_wp2_with fail
      clear q2 q3 f1 f2
      refine (HSO.out HW.out).mono ?_
      rintro e w6 ⟨rfl, l', hperm, hsort, hown, hgrow⟩
      have hlen : l'.length = i := by rw [hperm.length_eq, turnM, List.length_map, List.length_take, HNL.out.1]; omega
      have hWL := fun j hj => World.ownsRow.lt (show wr.ownsRow B 71 2 (.slice va i vc) i (clCells (turnM n (m.take i))) from HW.out) j hj
      have nw1 := H1.out.kept hgrow (fun e => by have := hWL _ e; have := HSA.out; omega)
      have nw2 := H2.out.kept hgrow (fun e => by have := hWL _ e; have := HSA.out; omega)
      have nG := grown_own HG.out hgrow (fun k e => by have := hWL _ e; have := HSA.out; omega)
      have HCW := Lib.hid (show CellsW w6 va vc l' from by
        have h := hown
        have e8 : i = l'.length := hlen.symm
        rw [show (Value.slice va i vc) = .slice va l'.length vc from by rw [← e8], show w6.ownsRow B 71 2 (.slice va l'.length vc) i (clCells l') = w6.ownsRow B 71 2 (.slice va l'.length vc) l'.length (clCells l') from by rw [← e8]] at h
        obtain ⟨a9, c9, e9, hs9⟩ := cells_span h
        cases e9
        exact hs9.here)
      have HPS := Lib.hid (show l'.Perm (turnM n m) ∧ SortedCl l' from ⟨by have h := hperm; rw [show m.take i = m from by rw [← HNL.out.1, List.take_length]] at h; exact h, hsort⟩)
      replace H1 := Lib.hid nw1
      replace H2 := Lib.hid nw2
      replace HG := Lib.hid nG
      have HS80 := Lib.hid (World.grownBy.size hgrow)
      clear nw1 nw2 nG hown hgrow hperm hsort hlen hWL HSO HW
      have q1 := H1.out.1
      have r1 := H1.out.2.1
      have f1 := H1.out.2.2.1
      have e1 := H1.out.2.2.2
      have q2 := H2.out.1
      have r2 := H2.out.2.1
      have hne1 : ¬ b1 = b2 := (by have := HSA.out; have := HBW.out; have := HS80.out; omega)
      have hne2 : ¬ b2 = b1 := (by have := HSA.out; have := HBW.out; have := HS80.out; omega)
      go_wp2_with fail
      clear q1 r1 f1 e1 q2 r2 hne1 hne2
      have nw1 := H1.out.put ar va i vc
      have nw2 := H1.out.mf (.int .i64 ar) (.slice va i vc) H2.out (by have := HSA.out; have := HBW.out; have := HS80.out; omega)
      have nwCW := H1.out.cells (.int .i64 ar) (.slice va i vc) HCW.out
      have nG := MF.grows HG.out (by have := HSA.out; have := HBW.out; have := HS80.out; omega) (.int .i64 ar) (.slice va i vc) (b := b1)
      have nS : (World.setCell (World.setCell w6 ⟨b1, 0, none⟩ (.int .i64 ar)) ⟨b1, 1, none⟩ (.slice va i vc)).heap.size = w6.heap.size := by simp
      unfold laidX at nw1 nw2 nwCW nG
      obtain ⟨V81, hV⟩ : ∃ z, World.setCell (World.setCell w6 ⟨b1, 0, none⟩ (.int .i64 ar)) ⟨b1, 1, none⟩ (.slice va i vc) = z := ⟨_, rfl⟩
      rw [hV] at nw1 nw2 nwCW nG nS ⊢
      clear hV
      replace H1 := Lib.hid nw1
      replace H2 := Lib.hid nw2
      replace HCW := Lib.hid nwCW
      replace HG := Lib.hid nG
      have HS81 := Lib.hid nS
      clear nG nS nw1 nw2 nwCW
      refine bodyPost_ret (resU44 _ _ b1 va i vc _ rfl H1.out.1 H1.out.2.1) rfl ?_
      exact ⟨va, vc, l', rfl, HPS.out.1, HPS.out.2, HCW.out, HG.out⟩
end Go.Proofs.Ythdhmflodiincaa

namespace Go.Proofs.Ythdhmflodiincaa

theorem Way.flip {R : Nat → Nat → Prop} {n k x y : Nat} (h : Way R n k x y) : Way (fun x y => R y x) n k y x := by
  obtain ⟨m, v, h1, h2, rfl, rfl, hv, hr⟩ := h
  refine ⟨m, fun i => v (m - i), h1, h2, by simp, by simp, fun i hi => hv _ (by omega), fun i hi => ?_⟩
  have h := hr (m - (i + 1)) (by omega)
  rw [show m - (i + 1) + 1 = m - i by omega] at h
  exact h
theorem way_way {R : Nat → Nat → Prop} {n x y : Nat} (hx : x < n) (hy : y < n) : Way (Way R n n) n n x y ↔ Way R n n x y := by
  constructor
  · rintro ⟨m, v, h1, _, rfl, rfl, hv, hr⟩
    have hb : ∀ i, i < m → Way R n n (v 0) (v (i + 1)) := by
      intro i
      induction i with
      | zero => exact fun h => hr 0 h
      | succ i ih => exact fun h => ((ih (by omega)).join (hr (i + 1) h)).short
    have := hb (m - 1) (by omega)
    rwa [Nat.sub_add_cancel h1] at this
  · intro h
    exact ((way_one hx hy).2 h).wide (by omega)
theorem clos_pairs {n : Nat} {A : List Int} (hA : ∀ z ∈ A, ∃ u v, u < n ∧ v < n ∧ z = ((u * n + v : Nat) : Int)) : ∀ z ∈ uniq (closS n A), ∃ u v, u < n ∧ v < n ∧ z = ((u * n + v : Nat) : Int) := fun z hz => runM_pairs n (Nat.le_refl _) hA z (mem_uniq.1 hz)
theorem pairs_ext {n : Nat} {A B : List Int} (uA : Up A) (uB : Up B) (hA : ∀ z ∈ A, ∃ u v, u < n ∧ v < n ∧ z = ((u * n + v : Nat) : Int)) (hB : ∀ z ∈ B, ∃ u v, u < n ∧ v < n ∧ z = ((u * n + v : Nat) : Int))
    (h : ∀ x y, x < n → y < n → (Hs A (x * n + y) ↔ Hs B (x * n + y))) : A = B := up_ext uA uB fun z => by
  constructor
  · intro hz
    obtain ⟨x, y, hx, hy, rfl⟩ := hA z hz
    exact (h x y hx hy).1 hz
  · intro hz
    obtain ⟨x, y, hx, hy, rfl⟩ := hB z hz
    exact (h x y hx hy).2 hz
theorem clos_idem {n : Nat} {A : List Int} (hA : ∀ z ∈ A, ∃ u v, u < n ∧ v < n ∧ z = ((u * n + v : Nat) : Int)) : uniq (closS n (uniq (closS n A))) = uniq (closS n A) := by
  have hC := clos_pairs hA
  refine pairs_ext (uniq_up _) (uniq_up _) (clos_pairs hC) hC fun x y hx hy => ?_
  rw [clos_way hC hx hy, clos_way hA hx hy, ← way_way (R := fun x y => Hs A (x * n + y)) hx hy]
  constructor
  · rintro ⟨m, v, h1, h2, e1, e2, hv, hr⟩
    exact ⟨m, v, h1, h2, e1, e2, hv, fun i hi => (clos_way hA (hv i (by omega)) (hv (i + 1) (by omega))).1 (hr i hi)⟩
  · rintro ⟨m, v, h1, h2, e1, e2, hv, hr⟩
    exact ⟨m, v, h1, h2, e1, e2, hv, fun i hi => (clos_way hA (hv i (by omega)) (hv (i + 1) (by omega))).2 (hr i hi)⟩
theorem turn_pair {n x y : Nat} (hy : y < n) : ((x * n + y : Nat) : Int) % (n : Int) * n + ((x * n + y : Nat) : Int) / n = ((y * n + x : Nat) : Int) := by
  have h1 : (x * n + y) % n = y := pair_mod hy
  have h2 : (x * n + y) / n = x := pair_div hy
  have h : (((x * n + y) % n * n + (x * n + y) / n : Nat) : Int) = ((y * n + x : Nat) : Int) := by rw [h1, h2]
  rw [← h]
  simp
theorem hs_turnL {n : Nat} {A : List Int} (hA : ∀ z ∈ A, ∃ u v, u < n ∧ v < n ∧ z = ((u * n + v : Nat) : Int)) {x y : Nat} (hx : x < n) (hy : y < n) : Hs (uniq (turnL n A)) (x * n + y) ↔ Hs A (y * n + x) := by
  rw [Hs, mem_uniq]
  unfold turnL
  rw [List.mem_map]
  constructor
  · rintro ⟨z, hz, e⟩
    obtain ⟨u, v, hu, hv, rfl⟩ := hA z hz
    rw [turn_pair hv] at e
    obtain ⟨rfl, rfl⟩ := pair_inj hu hy (by omega : v * n + u = x * n + y)
    exact hz
  · intro h
    exact ⟨_, h, turn_pair hx⟩
theorem turn_pairs {n : Nat} {A : List Int} (hA : ∀ z ∈ A, ∃ u v, u < n ∧ v < n ∧ z = ((u * n + v : Nat) : Int)) : ∀ z ∈ uniq (turnL n A), ∃ u v, u < n ∧ v < n ∧ z = ((u * n + v : Nat) : Int) := fun z hz => by
  rw [mem_uniq] at hz
  unfold turnL at hz
  obtain ⟨a, ha, rfl⟩ := List.mem_map.1 hz
  obtain ⟨u, v, hu, hv, rfl⟩ := hA a ha
  exact ⟨v, u, hv, hu, turn_pair hv⟩
theorem clos_turn {n : Nat} {A : List Int} (hA : ∀ z ∈ A, ∃ u v, u < n ∧ v < n ∧ z = ((u * n + v : Nat) : Int)) : uniq (closS n (uniq (turnL n A))) = uniq (turnL n (uniq (closS n A))) := by
  have hT := turn_pairs hA
  have hC := clos_pairs hA
  refine pairs_ext (uniq_up _) (uniq_up _) (clos_pairs hT) (turn_pairs hC) fun x y hx hy => ?_
  rw [clos_way hT hx hy, hs_turnL hC hx hy, clos_way hA hy hx]
  constructor
  · intro h
    obtain ⟨m, v, h1, h2, e1, e2, hv, hr⟩ := h.flip
    exact ⟨m, v, h1, h2, e1, e2, hv, fun i hi => (hs_turnL hA (hv (i + 1) (by omega)) (hv i (by omega))).1 (hr i hi)⟩
  · intro h
    obtain ⟨m, v, h1, h2, e1, e2, hv, hr⟩ := h.flip
    exact ⟨m, v, h1, h2, e1, e2, hv, fun i hi => (hs_turnL hA (hv i (by omega)) (hv (i + 1) (by omega))).2 (hr i hi)⟩
end Go.Proofs.Ythdhmflodiincaa

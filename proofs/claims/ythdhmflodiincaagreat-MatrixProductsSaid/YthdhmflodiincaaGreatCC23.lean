/- Texts of the proof: UP UL0. -/
import Derived.Test.YthdhmflodiincaaGreatCC22
import Derived.Test.YthdhmflodiincaaGreatCC09
import Derived.Test.YthdhmflodiincaaGreatCC16
import Derived.Test.YthdhmflodiincaaGreatCC01
import Derived.Deep.DeepCutAuto
import Derived.Test.YthdhmflodiincaaGreatCC13
import Derived.Maps.OwnSet
import Derived.Maps.OwnIn
set_option maxRecDepth 100000
set_option maxHeartbeats 8000000
namespace Go.Proofs.YthdhmflodiincaaGreat
open Go.RowKit Go.Maps

def turnM (n : Nat) (l : List Cl) : List Cl := l.map fun c => (c.1 % (n : Int) * n + c.1 / n, c.2)
theorem turnM_take {n : Nat} {l : List Cl} {i : Nat} {c : Cl} (h : l[i]? = some c) : turnM n (l.take (i + 1)) = turnM n (l.take i) ++ [(c.1 % (n : Int) * n + c.1 / n, c.2)] := by
 unfold turnM
 rw [List.take_add_one, h]
 simp
def RowT (w : World) (B : Nat) (v : Value) (n : Nat) (l : List Cl) : Prop := w.ownsRow B 70 2 v n (clCells l)
theorem RowT.grown {w w' : World} {B n : Nat} {v : Value} {l : List Cl} (h : RowT w B v n l) (hg : w.grownBy w' none) : RowT w' B v n l := World.ownsRow.kept h hg (by cases v.ownBlock <;> simp)
theorem RowT.set {w : World} {B n : Nat} {v : Value} {l : List Cl} (h : RowT w B v n l) (p o : Nat) (u : Value) (hp : p < B) : RowT (w.setCell ⟨p, o, none⟩ u) B v n l :=
 World.ownsRow.kept h (grown_set w p o u) (.inr fun e => by have := World.ownsRow.lt h p e; omega)
theorem MF.kept {w w' : World} {b n c : Nat} {ar : Int} {a : Option Addr} {r : Option Nat} (h : MF w b ar a n c) (hg : w.grownBy w' r) (hr : r ≠ some b) : MF w' b ar a n c := by
 have ne : some b ≠ r := fun e => hr e.symm
 exact ⟨hg.cell h.1 ne, hg.cell h.2.1 ne, (World.frozen?_of_block (a := ⟨b, 0, none⟩) (hg.block b (lies_lt h.1) ne)).trans h.2.2.1, (World.frozen?_of_block (a := ⟨b, 1, none⟩) (hg.block b (lies_lt h.1) ne)).trans h.2.2.2⟩
theorem TF.kept {w w' : World} {b x : Nat} {fv : Value} {r : Option Nat} (h : TF w b x fv) (hg : w.grownBy w' r) (hr : r ≠ some b) : TF w' b x fv := ⟨hg.cell h.1 (fun e => hr e.symm), hg.cell h.2 (fun e => hr e.symm)⟩
theorem MF.put1 {w : World} {b n c n' c' : Nat} {ar : Int} {a a' : Option Addr} (h : MF w b ar a n c) : MF (w.setCell ⟨b, 1, none⟩ (.slice a' n' c')) b ar a' n' c' :=
 ⟨(World.cell?_setCell_other _ _ _ _ (fun e => by injection e with _ e; cases e)).trans h.1, World.cell?_setCell_same _ _ _ h.2.1, by rw [World.frozen?_setCell]; exact h.2.2.1, by rw [World.frozen?_setCell]; exact h.2.2.2⟩
theorem resU44 (tmps : Array Value) (w : World) (b : Nat) (a : Option Addr) (n d : Nat) (x : Value) (ht : tmps.getD 4 undef = .pointer (some ⟨b, 0, none⟩)) (h0 : w.cell? ⟨b, 0, none⟩ = some x) (h1 : w.cell? ⟨b, 1, none⟩ = some (.slice a n d)) :
  (results Tryz.f19 tmps).run Tryz.prog w = .ok (.agg #[x, .slice a n d]) w := by
 have ht' : tmps[4]?.getD undef = .pointer (some ⟨b, 0, none⟩) := by simpa using ht
 simp [results, ht', go_sem, h0, h1, Result.andThen]
theorem boxesM (w : World) (ar : Int) (ma : Option Addr) (nm mc : Nat) :
  ∃ W b0 b1, (w.alloc (.cells #[.int .i64 ar, .slice ma nm mc] 35)).alloc (.cells #[.int .i64 0, .slice none 0 0] 35) = W ∧ w.grownBy W none ∧ W.heap.size = w.heap.size + 2 ∧ (w.heap.size = b0 ∧ w.heap.size + 1 = b1) ∧ MF W b0 ar ma nm mc ∧ MF W b1 0 none 0 0 :=
 ⟨_, _, _, rfl, (gAl w _ none).trans (gAl _ _ none), by simp, ⟨rfl, rfl⟩, ⟨by go_simp, by go_simp, by go_simp, by go_simp⟩, ⟨by go_simp, by go_simp, by go_simp, by go_simp⟩⟩
theorem mturn_calls (w : World) (n : Nat) (ar : Int) (m : List Cl) (ma : Option Addr) (mc nm : Nat) (hnm : m.length = nm) (hm : CellsW w ma mc m) (hn1 : 1 ≤ n) (hn4 : n ≤ 4) (hl : nm ≤ 1000) (hr : ∀ c ∈ m, 0 ≤ c.1 ∧ c.1 ≤ 10000) :
  Calls Tryz.prog 19 #[.int .i64 (n : Int), .agg #[.int .i64 ar, .slice ma nm mc]] w fun e w' => ∃ b d l', e = .returned (.agg #[.int .i64 ar, .slice b nm d]) ∧ l'.Perm (turnM n m) ∧ SortedCl l' ∧ CellsW w' b d l' ∧ w.grownBy w' none := by
 obtain ⟨i0, hi0, hz0, hz1, hz2⟩ := info_parts infoCl
 obtain ⟨W, b0, b1, hW, hg, hsz, ⟨hb0, hb1⟩, k0, k1⟩ := boxesM w ar ma nm mc
 have HG := Lib.hid hg
 have H0 := Lib.hid k0
 have H1 := Lib.hid k1
 have HN := Lib.hid (show w.heap.size ≤ b0 ∧ b0 < b1 ∧ b1 < W.heap.size from by omega)
 have HM := Lib.hid hm
 have HNL := Lib.hid (show m.length = nm ∧ nm ≤ 1000 ∧ 1 ≤ n ∧ n ≤ 4 from ⟨hnm, hl, hn1, hn4⟩)
 have HRR := Lib.hid hr
 have HB := Lib.hid (And.intro hb1 hb0)
 clear hg k0 k1 hsz hm hb0 hb1 hnm hn1 hn4 hl hr
 go_enter Tryz.func19, Tryz.ntmps19
 go_upto_region 1 with fail
 rw [HB.out.1, HB.out.2]
 clear hW HB
 have q0 := H0.out.1
 have r0 := H0.out.2.1
 go_upto_region 2 with fail
 clear q0 r0
 have gw := gAl W (.cells #[.int .i64 ar, .slice none 0 0] 35) none
 have hb := MF.new W ar none 0 0
 obtain ⟨V1, hV⟩ : ∃ z, World.alloc W (.cells #[.int .i64 ar, .slice none 0 0] 35) = z := ⟨_, rfl⟩
 have hz : V1.heap.size = W.heap.size + 1 := by rw [← hV]; simp
 rw [hV] at gw hb ⊢
 clear hV
 obtain ⟨b2, hbb⟩ : ∃ z, W.heap.size = z := ⟨_, rfl⟩
 rw [hbb] at hb ⊢
 have HS1 := Lib.hid (show W.heap.size = b2 ∧ V1.heap.size = b2 + 1 from by omega)
 clear hz hbb
 replace H0 := Lib.hid (H0.out.grown gw)
 replace H1 := Lib.hid (H1.out.grown gw)
 replace HG := Lib.hid (gT HG.out gw)
 have HS2 := Lib.hid (World.grownBy.size gw)
 clear gw
 have H2 := Lib.hid hb
 clear hb
 have q0 := H0.out.1
 have r0 := H0.out.2.1
 go_wp2_with fail
 clear q0 r0
 obtain ⟨B, hB⟩ : ∃ z, V1.heap.size = z := ⟨_, rfl⟩
 have HSA := Lib.hid (show w.heap.size ≤ b0 ∧ b0 < b1 ∧ b1 < b2 ∧ b2 < B from (by have := HN.out; have := HS1.out; have := HS2.out; omega))
 have HBB := Lib.hid hB
 clear hB
 go_loopg [14] nm (fun gk s14 wr => ∃ (i : Nat) (va : Option Addr) (vc : Nat), s14 = .int .i64 (i : Int) ∧ gk = nm - i ∧ i ≤ nm ∧ w.grownBy wr none ∧ B ≤ wr.heap.size ∧ MF wr b1 0 none 0 0 ∧ MF wr b2 ar va i vc ∧ RowT wr B (.slice va i vc) i (turnM n (m.take i)))
 case atStart => exact ⟨0, none, 0, rfl, rfl, Nat.zero_le _, HG.out, by rw [HBB.out]; exact Nat.le_refl _, H1.out, H2.out, World.ownsRow_nil _ _ _ _⟩
 case round =>
  clear H0 H1 H2 HG
  obtain ⟨i, va, vc, rfl, hgi, hi, hg, hBw, h1, h2, hrow⟩ := hrel
  have HG := Lib.hid hg
  have H1 := Lib.hid h1
  have H2 := Lib.hid h2
  have HW := Lib.hid hrow
  have HBW := Lib.hid hBw
  have HI := Lib.hid hgi
  clear hg h1 h2 hrow hBw hgi
  by_cases hin : i < nm
  ·
   have f1 : decide (i < nm) = true := decide_eq_true hin
   have f2 : decide ((i : Int) < (nm : Int)) = true := decide_eq_true (by omega)
   have hj0 : (0 : Int) ≤ (i : Int) := by omega
   have hj1 : (i : Int) < (nm : Int) := by omega
   have hk1 : IntKind.i64.wrap ((i : Int) + 1) = ((i + 1 : Nat) : Int) := by rw [IntWalk.i64_in _ (by have := HNL.out; omega)]; omega
   obtain ⟨⟨k, r⟩, hx⟩ : ∃ r, m[i]? = some r := ⟨_, List.getElem?_eq_getElem (by rw [HNL.out.1]; exact hin)⟩
   obtain ⟨bx, ox, hbx, x0, x1⟩ := (HM.out.grown HG.out).at hx
   subst hbx
   have hxr := HRR.out _ (List.mem_of_getElem? hx)
   simp only at hxr x0 x1
   obtain ⟨x, rfl⟩ : ∃ x : Nat, k = (x : Int) := ⟨k.toNat, by omega⟩
   obtain ⟨p, hp⟩ : ∃ r, x % n = r := ⟨_, rfl⟩
   obtain ⟨q, hq⟩ : ∃ q, x / n = q := ⟨_, rfl⟩
   have hT := turnM_take (n := n) hx
   have hn1 := HNL.out.2.2.1
   have hri : (x : Int) % (n : Int) = (p : Int) := by omega
   have hqi : (x : Int) / (n : Int) = (q : Int) := by rw [← hq]; rfl
   have hrn : p < n := by rw [← hp]; exact Nat.mod_lt _ (by omega)
   have hqx : q ≤ 10000 := by rw [← hq]; exact Nat.le_trans (Nat.div_le_self _ _) (by omega)
   have hrq : p * n ≤ 16 := Nat.mul_le_mul (show p ≤ 4 by have := HNL.out; omega) HNL.out.2.2.2
   simp only at hT
   rw [hri, hqi] at hT
   obtain ⟨P, hP⟩ : ∃ P, p * n = P := ⟨_, rfl⟩
   obtain ⟨V, hV⟩ : ∃ V, P + q = V := ⟨_, rfl⟩
   have hPi : (p : Int) * (n : Int) = (P : Int) := by rw [← hP]; simp
   have HT := Lib.hid (show turnM n (m.take (i + 1)) = turnM n (m.take i) ++ [((V : Int), r)] by rw [hT, hPi, ← hV]; simp)
   rw [hP] at hrq
   have hmod : (x : Int).tmod (n : Int) = (p : Int) := by rw [← hri, Int.tmod_eq_emod_of_nonneg (by omega)]
   have hwq : IntKind.i64.wrap (q : Int) = (q : Int) := IntWalk.i64_in _ (by omega)
   have hwP : IntKind.i64.wrap ((p : Int) * (n : Int)) = (P : Int) := by rw [hPi]; exact IntWalk.i64_in _ (by omega)
   have hwV : IntKind.i64.wrap ((P : Int) + (q : Int)) = (V : Int) := by rw [IntWalk.i64_in _ (by omega)]; omega
   have hnn : n ≠ 0 := by omega
   have hn0 : ((n : Int) == 0) = false := by simp; omega
   have hn00 : (n : Int) ≠ 0 := by omega
   have hnB : decide ((0 : Int) < (n : Int)) = true := by simp; omega
   have hnC : decide (0 < n) = true := by simp; omega
   clear hT hp hq hx hxr hP hV hPi hri
   go_upto_region 5 with fail
   clear x0 x1
   have HWR := Lib.hid (show ∀ j, (Value.slice va i vc).ownBlock = some j → B ≤ j ∧ j < wr.heap.size from fun j hj => World.ownsRow.lt (show wr.ownsRow B 70 2 (.slice va i vc) i (clCells (turnM n (m.take i))) from HW.out) j hj)
   have gw := gAl wr (.cells #[.int .i64 (x : Int), .int .i64 r] 70) none
   have hc5 := one_cells wr (.int .i64 (x : Int)) (.int .i64 r) 70
   obtain ⟨U, hU⟩ : ∃ z, World.alloc wr (.cells #[.int .i64 (x : Int), .int .i64 r] 70) = z := ⟨_, rfl⟩
   rw [hU] at gw hc5 ⊢
   clear hU
   obtain ⟨bz, hbz⟩ : ∃ z, wr.heap.size = z := ⟨_, rfl⟩
   rw [hbz] at hc5 HWR ⊢
   have HBZ := Lib.hid hbz
   clear hbz
   replace H1 := Lib.hid (H1.out.grown gw)
   replace H2 := Lib.hid (H2.out.grown gw)
   replace HW := Lib.hid (HW.out.grown gw)
   replace HG := Lib.hid (gT HG.out gw)
   have HS51 := Lib.hid (World.grownBy.size gw)
   clear gw
   have y0 := hc5.2.1
   have y1 := hc5.2.2.1
   have HY := Lib.hid (And.intro y0 y1)
   clear hc5
   go_upto_region 6 with fail
   have HWL := Lib.hid (show ∀ j, (Value.slice va i vc).ownBlock = some j → B ≤ j ∧ j < bz from fun j hj => by have := World.ownsRow.lt (show U.ownsRow B 70 2 (.slice va i vc) i (clCells (turnM n (m.take i))) from HW.out) j hj; have h2 := HWR.out j hj; omega)
   have HZ := Lib.hid (show TF U bz x (.int .i64 r) from HY.out)
   obtain ⟨Lk, hLk⟩ : ∃ z, turnM n (m.take i) = z := ⟨_, rfl⟩
   rw [hLk] at HW HT
   clear hLk y0 y1
   have HS := Lib.hid (fun (Wh : World) (h : TF Wh bz x (.int .i64 r)) => (h : (fun Wh : World => Wh.cell? ⟨bz, 0, none⟩ = some (.int .i64 (x : Int)) ∧ Wh.cell? ⟨bz, 1, none⟩ = some (.int .i64 r)) Wh))
   obtain ⟨wd, hwd⟩ : ∃ z, U.drew = z := ⟨_, rfl⟩
   have gw : U.grownBy wd none := by rw [← hwd]; exact ⟨rfl, rfl, rfl, Nat.le_refl _, fun _ _ _ => rfl⟩
   replace H1 := Lib.hid (H1.out.grown gw)
   replace H2 := Lib.hid (H2.out.grown gw)
   replace HW := Lib.hid (HW.out.grown gw)
   replace HZ := Lib.hid (HZ.out.grown gw)
   replace HG := Lib.hid (gT HG.out gw)
   have HS52 := Lib.hid (World.grownBy.size gw)
   clear gw
   have hdr : TF U.drew bz x (.int .i64 r) := by rw [hwd]; exact HZ.out
   refine wp_region_held_drew (S := (fun Wh : World => Wh.cell? ⟨bz, 0, none⟩ = some (.int .i64 (x : Int)) ∧ Wh.cell? ⟨bz, 1, none⟩ = some (.int .i64 r))) (by kernel_rfl) (HS.out _ hdr) (fun hH => ?_)
   rw [hwd] at hH ⊢
   clear hwd
   refine wpAnyH_take (i := 0) (oi := { dst := some 20, op := Op.fieldAddr 35 (Operand.tmp 5) 1, type := 0, pos := "matrix.go:142", after := #[], guard := none }) (v := ?_) rfl (by kernel_rfl) (by kernel_rfl) (by kernel_rfl) (fun _ _ _ h => h) (Or.inl ⟨by rfl, ?_⟩) (by assumption) ?_
   rotate_left 1
   · (intro W h; (try dsimp only at h); go_simp <;> with_reducible rfl)
   try simp only [Act.put, sA, sB, sC]
   refine wpAnyH_take (i := 2) (oi := { dst := some 22, op := Op.fieldAddr 70 (Operand.tmp 7) 0, type := 0, pos := "matrix.go:142", after := #[], guard := none }) (v := ?_) rfl (by kernel_rfl) (by kernel_rfl) (by kernel_rfl) (fun _ _ _ h => h) (Or.inl ⟨by rfl, ?_⟩) (by assumption) ?_
   rotate_left 1
   · (intro W h; (try dsimp only at h); go_simp <;> with_reducible rfl)
   try simp only [Act.put, sA, sB, sC]
   refine wpAnyH_take (i := 3) (oi := { dst := some 23, op := Op.load 3 (Operand.tmp 22), type := 3, pos := "matrix.go:142", after := #[{ on := 2, ground := Ground.data }], guard := none }) (v := ?_) rfl (by kernel_rfl) (by kernel_rfl) (by kernel_rfl) (fun _ _ _ h => h) (Or.inl ⟨by rfl, ?_⟩) (by assumption) ?_
   rotate_left 1
   · (intro W h; (try dsimp only at h); go_simp <;> with_reducible rfl)
   try simp only [Act.put, sA, sB, sC]
   refine wpAnyH_take (i := 4) (oi := { dst := some 24, op := Op.move (Operand.tmp 0), type := 3, pos := "matrix.go:142", after := #[], guard := none }) (v := ?_) rfl (by kernel_rfl) (by kernel_rfl) (by kernel_rfl) (fun _ _ _ h => h) (Or.inl ⟨by rfl, ?_⟩) (by assumption) ?_
   rotate_left 1
   · (intro W h; (try dsimp only at h); go_simp <;> with_reducible rfl)
   try simp only [Act.put, sA, sB, sC]
   refine wpAnyH_take (i := 5) (oi := { dst := some 25, op := Op.binOp BinOp.rem 3 (Operand.tmp 23) (Operand.tmp 24) 3, type := 3, pos := "matrix.go:142", after := #[{ on := 3, ground := Ground.data }, { on := 4, ground := Ground.data }], guard := none }) (v := ?_) rfl (by kernel_rfl) (by kernel_rfl) (by kernel_rfl) (fun _ _ _ h => h) (Or.inl ⟨by rfl, ?_⟩) (by assumption) ?_
   rotate_left 1
   · (intro W h; (try dsimp only at h); go_simp <;> with_reducible rfl)
   try simp only [Act.put, sA, sB, sC]
   refine wpAnyH_take (i := 6) (oi := { dst := some 26, op := Op.move (Operand.tmp 0), type := 3, pos := "matrix.go:142", after := #[], guard := none }) (v := ?_) rfl (by kernel_rfl) (by kernel_rfl) (by kernel_rfl) (fun _ _ _ h => h) (Or.inl ⟨by rfl, ?_⟩) (by assumption) ?_
   rotate_left 1
   · (intro W h; (try dsimp only at h); go_simp <;> with_reducible rfl)
   try simp only [Act.put, sA, sB, sC]
   refine wpAnyH_take (i := 7) (oi := { dst := some 27, op := Op.binOp BinOp.mul 3 (Operand.tmp 25) (Operand.tmp 26) 3, type := 3, pos := "matrix.go:142", after := #[{ on := 5, ground := Ground.data }, { on := 6, ground := Ground.data }], guard := none }) (v := ?_) rfl (by kernel_rfl) (by kernel_rfl) (by kernel_rfl) (fun _ _ _ h => h) (Or.inl ⟨by rfl, ?_⟩) (by assumption) ?_
   rotate_left 1
   · (intro W h; (try dsimp only at h); go_simp <;> with_reducible rfl)
   try simp only [Act.put, sA, sB, sC]
   refine wpAnyH_take (i := 8) (oi := { dst := some 28, op := Op.fieldAddr 70 (Operand.tmp 7) 0, type := 0, pos := "matrix.go:142", after := #[], guard := none }) (v := ?_) rfl (by kernel_rfl) (by kernel_rfl) (by kernel_rfl) (fun _ _ _ h => h) (Or.inl ⟨by rfl, ?_⟩) (by assumption) ?_
   rotate_left 1
   · (intro W h; (try dsimp only at h); go_simp <;> with_reducible rfl)
   try simp only [Act.put, sA, sB, sC]
   refine wpAnyH_take (i := 9) (oi := { dst := some 29, op := Op.load 3 (Operand.tmp 28), type := 3, pos := "matrix.go:142", after := #[{ on := 8, ground := Ground.data }], guard := none }) (v := ?_) rfl (by kernel_rfl) (by kernel_rfl) (by kernel_rfl) (fun _ _ _ h => h) (Or.inl ⟨by rfl, ?_⟩) (by assumption) ?_
   rotate_left 1
   · (intro W h; (try dsimp only at h); go_simp <;> with_reducible rfl)
   try simp only [Act.put, sA, sB, sC]
   refine wpAnyH_take (i := 10) (oi := { dst := some 30, op := Op.move (Operand.tmp 0), type := 3, pos := "matrix.go:142", after := #[], guard := none }) (v := ?_) rfl (by kernel_rfl) (by kernel_rfl) (by kernel_rfl) (fun _ _ _ h => h) (Or.inl ⟨by rfl, ?_⟩) (by assumption) ?_
   rotate_left 1
   · (intro W h; (try dsimp only at h); go_simp <;> with_reducible rfl)
   try simp only [Act.put, sA, sB, sC]
   refine wpAnyH_take (i := 11) (oi := { dst := some 31, op := Op.binOp BinOp.quo 3 (Operand.tmp 29) (Operand.tmp 30) 3, type := 3, pos := "matrix.go:142", after := #[{ on := 9, ground := Ground.data }, { on := 10, ground := Ground.data }], guard := none }) (v := ?_) rfl (by kernel_rfl) (by kernel_rfl) (by kernel_rfl) (fun _ _ _ h => h) (Or.inl ⟨by rfl, ?_⟩) (by assumption) ?_
   rotate_left 1
   · (intro W h; (try dsimp only at h); go_simp <;> with_reducible rfl)
   try simp only [Act.put, sA, sB, sC]
   refine wpAnyH_take (i := 12) (oi := { dst := some 32, op := Op.binOp BinOp.add 3 (Operand.tmp 27) (Operand.tmp 31) 3, type := 3, pos := "matrix.go:142", after := #[{ on := 7, ground := Ground.data }, { on := 11, ground := Ground.data }], guard := none }) (v := ?_) rfl (by kernel_rfl) (by kernel_rfl) (by kernel_rfl) (fun _ _ _ h => h) (Or.inl ⟨by rfl, ?_⟩) (by assumption) ?_
   rotate_left 1
   · (intro W h; (try dsimp only at h); go_simp <;> with_reducible rfl)
   try simp only [Act.put, sA, sB, sC]
   refine wpAnyH_take (i := 13) (oi := { dst := some 33, op := Op.fieldAddr 70 (Operand.tmp 7) 1, type := 0, pos := "matrix.go:142", after := #[], guard := none }) (v := ?_) rfl (by kernel_rfl) (by kernel_rfl) (by kernel_rfl) (fun _ _ _ h => h) (Or.inl ⟨by rfl, ?_⟩) (by assumption) ?_
   rotate_left 1
   · (intro W h; (try dsimp only at h); go_simp <;> with_reducible rfl)
   try simp only [Act.put, sA, sB, sC]
   refine wpAnyH_take (i := 14) (oi := { dst := some 34, op := Op.load 3 (Operand.tmp 33), type := 3, pos := "matrix.go:142", after := #[{ on := 13, ground := Ground.data }], guard := none }) (v := ?_) rfl (by kernel_rfl) (by kernel_rfl) (by kernel_rfl) (fun _ _ _ h => h) (Or.inl ⟨by rfl, ?_⟩) (by assumption) ?_
   rotate_left 1
   · (intro W h; (try dsimp only at h); go_simp <;> with_reducible rfl)
   try simp only [Act.put, sA, sB, sC]
   refine wpAnyH_take (i := 15) (oi := { dst := some 35, op := Op.build 70 #[(0, Operand.tmp 32), (1, Operand.tmp 34)], type := 70, pos := "matrix.go:142", after := #[{ on := 12, ground := Ground.data }, { on := 14, ground := Ground.data }], guard := none }) (v := ?_) rfl (by kernel_rfl) (by kernel_rfl) (by kernel_rfl) (fun _ _ _ h => h) (Or.inl ⟨by rfl, ?_⟩) (by assumption) ?_
   rotate_left 1
   · (intro W h; (try dsimp only at h); go_simp <;> with_reducible rfl)
   try simp only [Act.put, sA, sB, sC]
   refine wpAnyH_ready (rs := [1, 16]) (by kernel_rfl) (by simp) ?_
   refine (AllReadyH.cons (o := { dst := some 21, op := Op.load 33 (Operand.tmp 20), type := 33, pos := "matrix.go:142", after := #[{ on := 0, ground := Ground.data }], guard := none }) rfl (fun K hK => ?_) (AllReadyH.cons (o := { dst := some 36, op := Op.buildSlice 33 1 #[(0, Operand.tmp 35)], type := 33, pos := "matrix.go:142", after := #[{ on := 15, ground := Ground.data }], guard := none }) rfl (fun K hK => ?_) AllReadyH.nil))
   ·
    rw [if_pos (by rfl)]
    have q2 := H2.out.2.1
    go_simp
    clear q2
    refine hK.out _ _ (HS.out _ HZ.out) (fun hH => ?_)
    clear hK K
    try simp only [Act.put, sA, sB, sC]
    refine wpAnyH_ready (rs := [16]) (by kernel_rfl) (by simp) ?_
    refine (AllReadyH.cons (o := { dst := some 36, op := Op.buildSlice 33 1 #[(0, Operand.tmp 35)], type := 33, pos := "matrix.go:142", after := #[{ on := 15, ground := Ground.data }], guard := none }) rfl (fun K hK => ?_) AllReadyH.nil)
    rw [if_pos (by rfl)]
    go_simp
    have hnA := cells_new_at wd ((V : Int), r)
    have gw := gAl wd (.cells #[.int .i64 (V : Int), .int .i64 r] 70) none
    obtain ⟨U2, hU2⟩ : ∃ z, World.alloc wd (.cells #[.int .i64 (V : Int), .int .i64 r] 70) = z := ⟨_, rfl⟩
    simp only at hnA
    rw [hU2] at gw hnA ⊢
    clear hU2
    replace H1 := Lib.hid (H1.out.grown gw)
    replace H2 := Lib.hid (H2.out.grown gw)
    replace HW := Lib.hid (HW.out.grown gw)
    replace HZ := Lib.hid (HZ.out.grown gw)
    replace HG := Lib.hid (gT HG.out gw)
    have HS53 := Lib.hid (World.grownBy.size gw)
    clear gw
    refine hK.out _ _ (HS.out _ HZ.out) (fun hH => ?_)
    clear hK K
    try simp only [Act.put, sA, sB, sC]
    refine wpAnyH_ready (rs := [17]) (by kernel_rfl) (by simp) ?_
    refine (AllReadyH.cons (o := { dst := some 37, op := Op.call { callee := Callee.builtin Builtin.append, args := #[Operand.tmp 21, Operand.tmp 36], argTypes := #[33, 33] }, type := 33, pos := "matrix.go:142", after := #[{ on := 1, ground := Ground.data }, { on := 16, ground := Ground.data }], guard := none }) rfl (fun K hK => ?_) AllReadyH.nil)
    refine ready_append_g 33 70 (.tmp 21) (.tmp 36) rfl rfl Tryz.underlying33 hi0 hz0 hz1 hz2 rfl (by decide) (by omega) B _ i (clCells Lk) rfl (show U2.ownsRow B 70 2 (.slice va i vc) i (clCells Lk) from HW.out) ⟨wd.heap.size, 0, none⟩ [.int .i64 (V : Int), .int .i64 r] rfl rfl hnA (fun u hu => by simp at hu; rcases hu with rfl | rfl <;> rfl) (by have := HNL.out; omega) (by have := HSA.out; have := HBW.out; have := HS51.out; have := HS52.out; have := HS53.out; omega) (fun v' w6 hown' hgrow6 hat6 => ?_)
    obtain ⟨rgA, rcA, rfl⟩ := own_shape hown'
    have nw1 := H1.out.kept hgrow6 (fun e => by have := HWL.out _ e; have := HSA.out; omega)
    have nw2 := H2.out.kept hgrow6 (fun e => by have := HWL.out _ e; have := HSA.out; omega)
    have nwZ := HZ.out.kept hgrow6 (fun e => by have := HWL.out _ e; omega)
    have nG := grown_own HG.out hgrow6 (fun k e => by have := HWL.out _ e; have := HSA.out; omega)
    have nW : RowT w6 B (.slice rgA (i + 1) rcA) (i + 1) (turnM n (m.take (i + 1))) := by rw [HT.out]; unfold RowT; rw [clCells_app]; exact hown'
    replace H1 := Lib.hid nw1
    replace H2 := Lib.hid nw2
    replace HZ := Lib.hid nwZ
    replace HG := Lib.hid nG
    replace HW := Lib.hid nW
    have HS60 := Lib.hid (World.grownBy.size hgrow6)
    clear nw1 nw2 nwZ nG nW hown' hgrow6 hat6 hnA
    refine hK.out _ _ (HS.out _ HZ.out) (fun hH => ?_)
    clear hK K
    try simp only [Act.put, sA, sB, sC]
    refine wpAnyH_take (i := 18) (oi := { dst := some 38, op := Op.fieldAddr 35 (Operand.tmp 5) 1, type := 0, pos := "matrix.go:142", after := #[{ on := 0, ground := Ground.phase }, { on := 1, ground := Ground.phase }, { on := 2, ground := Ground.phase }, { on := 3, ground := Ground.phase }, { on := 4, ground := Ground.phase }, { on := 5, ground := Ground.phase }, { on := 6, ground := Ground.phase }, { on := 7, ground := Ground.phase }, { on := 8, ground := Ground.phase }, { on := 9, ground := Ground.phase }, { on := 10, ground := Ground.phase }, { on := 11, ground := Ground.phase }, { on := 12, ground := Ground.phase }, { on := 13, ground := Ground.phase }, { on := 14, ground := Ground.phase }, { on := 15, ground := Ground.phase }, { on := 16, ground := Ground.phase }, { on := 17, ground := Ground.phase }], guard := none }) (v := ?_) rfl (by kernel_rfl) (by kernel_rfl) (by kernel_rfl) (fun _ _ _ h => h) (Or.inl ⟨by rfl, ?_⟩) (by assumption) ?_
    rotate_left 1
    · (intro W h; (try dsimp only at h); go_simp <;> with_reducible rfl)
    try simp only [Act.put, sA, sB, sC]
    refine wpAnyH_ready (rs := [19]) (by kernel_rfl) (by simp) ?_
    refine (AllReadyH.cons (o := { dst := none, op := Op.store 33 (Operand.tmp 38) (Operand.tmp 37), type := 0, pos := "matrix.go:142", after := #[{ on := 18, ground := Ground.data }, { on := 17, ground := Ground.data }, { on := 17, ground := Ground.chain }, { on := 0, ground := Ground.phase }, { on := 1, ground := Ground.phase }, { on := 2, ground := Ground.phase }, { on := 3, ground := Ground.phase }, { on := 4, ground := Ground.phase }, { on := 5, ground := Ground.phase }, { on := 6, ground := Ground.phase }, { on := 7, ground := Ground.phase }, { on := 8, ground := Ground.phase }, { on := 9, ground := Ground.phase }, { on := 10, ground := Ground.phase }, { on := 11, ground := Ground.phase }, { on := 12, ground := Ground.phase }, { on := 13, ground := Ground.phase }, { on := 14, ground := Ground.phase }, { on := 15, ground := Ground.phase }, { on := 16, ground := Ground.phase }, { on := 17, ground := Ground.phase }], guard := none }) rfl (fun K hK => ?_) AllReadyH.nil)
    rw [if_pos (by rfl)]
    have q2 := H2.out.2.1
    have q3 := H2.out.2.2.2
    go_simp
    clear q2 q3
    have nw1 := H1.out.kept (grown_set w6 b2 1 (.slice rgA (i + 1) rcA)) (fun e => by injection e with e; have := HSA.out; omega)
    have nw2 := H2.out.put1 (a' := rgA) (n' := i + 1) (c' := rcA)
    have nwZ := HZ.out.kept (grown_set w6 b2 1 (.slice rgA (i + 1) rcA)) (fun e => by injection e with e; have := HSA.out; have := HBZ.out; have := HBW.out; omega)
    have nG := grown_own HG.out (grown_set w6 b2 1 (.slice rgA (i + 1) rcA)) (fun k e => by cases e; have := HSA.out; omega)
    have nW := HW.out.set b2 1 (.slice rgA (i + 1) rcA) (by have := HSA.out; omega)
    have nS : (w6.setCell ⟨b2, 1, none⟩ (.slice rgA (i + 1) rcA)).heap.size = w6.heap.size := by simp
    obtain ⟨w7, h7⟩ : ∃ z, w6.setCell ⟨b2, 1, none⟩ (.slice rgA (i + 1) rcA) = z := ⟨_, rfl⟩
    rw [h7] at nw1 nw2 nwZ nG nW nS ⊢
    clear h7
    replace H1 := Lib.hid nw1
    replace H2 := Lib.hid nw2
    replace HZ := Lib.hid nwZ
    replace HG := Lib.hid nG
    replace HW := Lib.hid nW
    have HS61 := Lib.hid nS
    clear nw1 nw2 nwZ nG nW nS
    refine hK.out _ _ (HS.out _ HZ.out) (fun hH => ?_)
    clear hK K
    try simp only [Act.put, sA, sB, sC]
    refine wpAnyH_done (by kernel_rfl) ?_ _
    have hEND := hdr
    clear hH
    clear hwq hwP hwV hmod
    go_wp2_with fail
    go_roundg (nm - (i + 1))
    case measure => rw [HI.out]; omega
    case rel => exact ⟨i + 1, rgA, rcA, rfl, rfl, by omega, HG.out, (by have := HSA.out; have := HBW.out; have := HS51.out; have := HS52.out; have := HS53.out; have := HS60.out; have := HS61.out; omega), H1.out, H2.out, HW.out⟩
   ·
    rw [if_pos (by rfl)]
    go_simp
    have hnA := cells_new_at wd ((V : Int), r)
    have gw := gAl wd (.cells #[.int .i64 (V : Int), .int .i64 r] 70) none
    obtain ⟨U2, hU2⟩ : ∃ z, World.alloc wd (.cells #[.int .i64 (V : Int), .int .i64 r] 70) = z := ⟨_, rfl⟩
    simp only at hnA
    rw [hU2] at gw hnA ⊢
    clear hU2
    replace H1 := Lib.hid (H1.out.grown gw)
    replace H2 := Lib.hid (H2.out.grown gw)
    replace HW := Lib.hid (HW.out.grown gw)
    replace HZ := Lib.hid (HZ.out.grown gw)
    replace HG := Lib.hid (gT HG.out gw)
    have HS53 := Lib.hid (World.grownBy.size gw)
    clear gw
    refine hK.out _ _ (HS.out _ HZ.out) (fun hH => ?_)
    clear hK K
    try simp only [Act.put, sA, sB, sC]
    refine wpAnyH_ready (rs := [1]) (by kernel_rfl) (by simp) ?_
    refine (AllReadyH.cons (o := { dst := some 21, op := Op.load 33 (Operand.tmp 20), type := 33, pos := "matrix.go:142", after := #[{ on := 0, ground := Ground.data }], guard := none }) rfl (fun K hK => ?_) AllReadyH.nil)
    rw [if_pos (by rfl)]
    have q2 := H2.out.2.1
    go_simp
    clear q2
    refine hK.out _ _ (HS.out _ HZ.out) (fun hH => ?_)
    clear hK K
    try simp only [Act.put, sA, sB, sC]
    refine wpAnyH_ready (rs := [17]) (by kernel_rfl) (by simp) ?_
    refine (AllReadyH.cons (o := { dst := some 37, op := Op.call { callee := Callee.builtin Builtin.append, args := #[Operand.tmp 21, Operand.tmp 36], argTypes := #[33, 33] }, type := 33, pos := "matrix.go:142", after := #[{ on := 1, ground := Ground.data }, { on := 16, ground := Ground.data }], guard := none }) rfl (fun K hK => ?_) AllReadyH.nil)
    refine ready_append_g 33 70 (.tmp 21) (.tmp 36) rfl rfl Tryz.underlying33 hi0 hz0 hz1 hz2 rfl (by decide) (by omega) B _ i (clCells Lk) rfl (show U2.ownsRow B 70 2 (.slice va i vc) i (clCells Lk) from HW.out) ⟨wd.heap.size, 0, none⟩ [.int .i64 (V : Int), .int .i64 r] rfl rfl hnA (fun u hu => by simp at hu; rcases hu with rfl | rfl <;> rfl) (by have := HNL.out; omega) (by have := HSA.out; have := HBW.out; have := HS51.out; have := HS52.out; have := HS53.out; omega) (fun v' w6 hown' hgrow6 hat6 => ?_)
    obtain ⟨rgA, rcA, rfl⟩ := own_shape hown'
    have nw1 := H1.out.kept hgrow6 (fun e => by have := HWL.out _ e; have := HSA.out; omega)
    have nw2 := H2.out.kept hgrow6 (fun e => by have := HWL.out _ e; have := HSA.out; omega)
    have nwZ := HZ.out.kept hgrow6 (fun e => by have := HWL.out _ e; omega)
    have nG := grown_own HG.out hgrow6 (fun k e => by have := HWL.out _ e; have := HSA.out; omega)
    have nW : RowT w6 B (.slice rgA (i + 1) rcA) (i + 1) (turnM n (m.take (i + 1))) := by rw [HT.out]; unfold RowT; rw [clCells_app]; exact hown'
    replace H1 := Lib.hid nw1
    replace H2 := Lib.hid nw2
    replace HZ := Lib.hid nwZ
    replace HG := Lib.hid nG
    replace HW := Lib.hid nW
    have HS60 := Lib.hid (World.grownBy.size hgrow6)
    clear nw1 nw2 nwZ nG nW hown' hgrow6 hat6 hnA
    refine hK.out _ _ (HS.out _ HZ.out) (fun hH => ?_)
    clear hK K
    try simp only [Act.put, sA, sB, sC]
    refine wpAnyH_take (i := 18) (oi := { dst := some 38, op := Op.fieldAddr 35 (Operand.tmp 5) 1, type := 0, pos := "matrix.go:142", after := #[{ on := 0, ground := Ground.phase }, { on := 1, ground := Ground.phase }, { on := 2, ground := Ground.phase }, { on := 3, ground := Ground.phase }, { on := 4, ground := Ground.phase }, { on := 5, ground := Ground.phase }, { on := 6, ground := Ground.phase }, { on := 7, ground := Ground.phase }, { on := 8, ground := Ground.phase }, { on := 9, ground := Ground.phase }, { on := 10, ground := Ground.phase }, { on := 11, ground := Ground.phase }, { on := 12, ground := Ground.phase }, { on := 13, ground := Ground.phase }, { on := 14, ground := Ground.phase }, { on := 15, ground := Ground.phase }, { on := 16, ground := Ground.phase }, { on := 17, ground := Ground.phase }], guard := none }) (v := ?_) rfl (by kernel_rfl) (by kernel_rfl) (by kernel_rfl) (fun _ _ _ h => h) (Or.inl ⟨by rfl, ?_⟩) (by assumption) ?_
    rotate_left 1
    · (intro W h; (try dsimp only at h); go_simp <;> with_reducible rfl)
    try simp only [Act.put, sA, sB, sC]
    refine wpAnyH_ready (rs := [19]) (by kernel_rfl) (by simp) ?_
    refine (AllReadyH.cons (o := { dst := none, op := Op.store 33 (Operand.tmp 38) (Operand.tmp 37), type := 0, pos := "matrix.go:142", after := #[{ on := 18, ground := Ground.data }, { on := 17, ground := Ground.data }, { on := 17, ground := Ground.chain }, { on := 0, ground := Ground.phase }, { on := 1, ground := Ground.phase }, { on := 2, ground := Ground.phase }, { on := 3, ground := Ground.phase }, { on := 4, ground := Ground.phase }, { on := 5, ground := Ground.phase }, { on := 6, ground := Ground.phase }, { on := 7, ground := Ground.phase }, { on := 8, ground := Ground.phase }, { on := 9, ground := Ground.phase }, { on := 10, ground := Ground.phase }, { on := 11, ground := Ground.phase }, { on := 12, ground := Ground.phase }, { on := 13, ground := Ground.phase }, { on := 14, ground := Ground.phase }, { on := 15, ground := Ground.phase }, { on := 16, ground := Ground.phase }, { on := 17, ground := Ground.phase }], guard := none }) rfl (fun K hK => ?_) AllReadyH.nil)
    rw [if_pos (by rfl)]
    have q2 := H2.out.2.1
    have q3 := H2.out.2.2.2
    go_simp
    clear q2 q3
    have nw1 := H1.out.kept (grown_set w6 b2 1 (.slice rgA (i + 1) rcA)) (fun e => by injection e with e; have := HSA.out; omega)
    have nw2 := H2.out.put1 (a' := rgA) (n' := i + 1) (c' := rcA)
    have nwZ := HZ.out.kept (grown_set w6 b2 1 (.slice rgA (i + 1) rcA)) (fun e => by injection e with e; have := HSA.out; have := HBZ.out; have := HBW.out; omega)
    have nG := grown_own HG.out (grown_set w6 b2 1 (.slice rgA (i + 1) rcA)) (fun k e => by cases e; have := HSA.out; omega)
    have nW := HW.out.set b2 1 (.slice rgA (i + 1) rcA) (by have := HSA.out; omega)
    have nS : (w6.setCell ⟨b2, 1, none⟩ (.slice rgA (i + 1) rcA)).heap.size = w6.heap.size := by simp
    obtain ⟨w7, h7⟩ : ∃ z, w6.setCell ⟨b2, 1, none⟩ (.slice rgA (i + 1) rcA) = z := ⟨_, rfl⟩
    rw [h7] at nw1 nw2 nwZ nG nW nS ⊢
    clear h7
    replace H1 := Lib.hid nw1
    replace H2 := Lib.hid nw2
    replace HZ := Lib.hid nwZ
    replace HG := Lib.hid nG
    replace HW := Lib.hid nW
    have HS61 := Lib.hid nS
    clear nw1 nw2 nwZ nG nW nS
    refine hK.out _ _ (HS.out _ HZ.out) (fun hH => ?_)
    clear hK K
    try simp only [Act.put, sA, sB, sC]
    refine wpAnyH_done (by kernel_rfl) ?_ _
    have hEND := hdr
    clear hH
    clear hwq hwP hwV hmod
    go_wp2_with fail
    go_roundg (nm - (i + 1))
    case measure => rw [HI.out]; omega
    case rel => exact ⟨i + 1, rgA, rcA, rfl, rfl, by omega, HG.out, (by have := HSA.out; have := HBW.out; have := HS51.out; have := HS52.out; have := HS53.out; have := HS60.out; have := HS61.out; omega), H1.out, H2.out, HW.out⟩
  ·
   have f1 : decide (i < nm) = false := decide_eq_false hin
   have f2 : decide ((i : Int) < (nm : Int)) = false := decide_eq_false (by omega)
   obtain rfl : i = nm := by omega
   have HSO := Lib.hid (fun (h : wr.ownsRow B 70 2 (.slice va i vc) i (clCells (turnM n (m.take i)))) => msort_calls B (turnM n (m.take i)) va i vc wr h (by rw [turnM, List.length_map, List.length_take, HNL.out.1]; omega) HNL.out.2.1)
   have q2 := H2.out.2.1
   have q3 := H2.out.1
   go_wp2_with fail
   clear q2 q3 f1 f2
   refine (HSO.out HW.out).mono ?_
   rintro e w6 ⟨rfl, l', hperm, hsort, hown, hgrow⟩
   have hlen : l'.length = i := by rw [hperm.length_eq, turnM, List.length_map, List.length_take, HNL.out.1]; omega
   have hWL := fun j hj => World.ownsRow.lt (show wr.ownsRow B 70 2 (.slice va i vc) i (clCells (turnM n (m.take i))) from HW.out) j hj
   have nw1 := H1.out.kept hgrow (fun e => by have := hWL _ e; have := HSA.out; omega)
   have nw2 := H2.out.kept hgrow (fun e => by have := hWL _ e; have := HSA.out; omega)
   have nG := grown_own HG.out hgrow (fun k e => by have := hWL _ e; have := HSA.out; omega)
   have HCW := Lib.hid (show CellsW w6 va vc l' from by
    have h := hown
    have e8 : i = l'.length := hlen.symm
    rw [show (Value.slice va i vc) = .slice va l'.length vc from by rw [← e8], show w6.ownsRow B 70 2 (.slice va l'.length vc) i (clCells l') = w6.ownsRow B 70 2 (.slice va l'.length vc) l'.length (clCells l') from by rw [← e8]] at h
    obtain ⟨a9, c9, e9, hs9⟩ := cells_span h
    cases e9
    exact hs9.here)
   have HPS := Lib.hid (show l'.Perm (turnM n m) ∧ SortedCl l' from ⟨by have h := hperm; rw [show m.take i = m from by rw [← HNL.out.1, List.take_length]] at h; exact h, hsort⟩)
   replace H1 := Lib.hid nw1
   replace H2 := Lib.hid nw2
   replace HG := Lib.hid nG
   have HS80 := Lib.hid (World.grownBy.size hgrow)
   clear nw1 nw2 nG hown hgrow hperm hsort hlen hWL HSO HW
   have q1 := H1.out.1
   have r1 := H1.out.2.1
   have f1 := H1.out.2.2.1
   have e1 := H1.out.2.2.2
   have q2 := H2.out.1
   have r2 := H2.out.2.1
   have hne1 : ¬ b1 = b2 := (by have := HSA.out; have := HBW.out; have := HS80.out; omega)
   have hne2 : ¬ b2 = b1 := (by have := HSA.out; have := HBW.out; have := HS80.out; omega)
   go_wp2_with fail
   clear q1 r1 f1 e1 q2 r2 hne1 hne2
   have nw1 := H1.out.put ar va i vc
   have nw2 := H1.out.mf (.int .i64 ar) (.slice va i vc) H2.out (by have := HSA.out; have := HBW.out; have := HS80.out; omega)
   have nwCW := H1.out.cells (.int .i64 ar) (.slice va i vc) HCW.out
   have nG := MF.grows HG.out (by have := HSA.out; have := HBW.out; have := HS80.out; omega) (.int .i64 ar) (.slice va i vc) (b := b1)
   have nS : (World.setCell (World.setCell w6 ⟨b1, 0, none⟩ (.int .i64 ar)) ⟨b1, 1, none⟩ (.slice va i vc)).heap.size = w6.heap.size := by simp
   unfold laidX at nw1 nw2 nwCW nG
   obtain ⟨V81, hV⟩ : ∃ z, World.setCell (World.setCell w6 ⟨b1, 0, none⟩ (.int .i64 ar)) ⟨b1, 1, none⟩ (.slice va i vc) = z := ⟨_, rfl⟩
   rw [hV] at nw1 nw2 nwCW nG nS ⊢
   clear hV
   replace H1 := Lib.hid nw1
   replace H2 := Lib.hid nw2
   replace HCW := Lib.hid nwCW
   replace HG := Lib.hid nG
   have HS81 := Lib.hid nS
   clear nG nS nw1 nw2 nwCW
   refine bodyPost_ret (resU44 _ _ b1 va i vc _ rfl H1.out.1 H1.out.2.1) rfl ?_
   exact ⟨va, vc, l', rfl, HPS.out.1, HPS.out.2, HCW.out, HG.out⟩

def addL (l : List Int) (z : Int) : List Int := unionL l [z]
theorem addL_up {l : List Int} {z : Int} (h : Up l) : Up (addL l z) := merge_up _ _ _ h (List.pairwise_singleton _ _)
theorem mem_addL {l : List Int} {z x : Int} (h : Up l) : x ∈ addL l z ↔ x ∈ l ∨ x = z := by
 rw [addL, mem_union h (List.pairwise_singleton _ _), List.mem_singleton]
theorem addL_len (l : List Int) (z : Int) : (addL l z).length ≤ l.length + 1 := merge_len (fun x y => x || y) l [z]
def ofTo (rs : List Int) : Nat → List Int
 | 0 => []
 | i + 1 => match rs[i]? with | some z => addL (ofTo rs i) z | none => ofTo rs i
theorem ofTo_next {rs : List Int} {i : Nat} {z : Int} (h : rs[i]? = some z) : ofTo rs (i + 1) = addL (ofTo rs i) z := by rw [ofTo, h]
theorem ofTo_up {rs : List Int} : ∀ {i : Nat}, Up (ofTo rs i)
 | 0 => List.Pairwise.nil
 | i + 1 => by
  rw [ofTo]
  split
  · exact addL_up ofTo_up
  · exact ofTo_up
theorem ofTo_len {rs : List Int} : ∀ {i : Nat}, (ofTo rs i).length ≤ i
 | 0 => Nat.le_refl _
 | i + 1 => by
  have ih := ofTo_len (rs := rs) (i := i)
  rw [ofTo]
  split
  · exact Nat.le_trans (addL_len _ _) (by omega)
  · omega
theorem mem_ofTo {rs : List Int} {x : Int} : ∀ {i : Nat}, x ∈ ofTo rs i ↔ ∃ j, j < i ∧ rs[j]? = some x
 | 0 => by simp [ofTo]
 | i + 1 => by
  cases h : rs[i]? with
  | none =>
   rw [ofTo, h]
   simp only []
   rw [mem_ofTo]
   exact ⟨fun ⟨j, h1, h2⟩ => ⟨j, by omega, h2⟩, fun ⟨j, h1, h2⟩ => ⟨j, by
    by_cases hj : j = i
    · subst hj; rw [h] at h2; cases h2
    · omega, h2⟩⟩
  | some z =>
   rw [ofTo_next h, mem_addL ofTo_up, mem_ofTo]
   constructor
   ·
    rintro (⟨j, h1, h2⟩ | rfl)
    · exact ⟨j, by omega, h2⟩
    · exact ⟨i, by omega, h⟩
   ·
    rintro ⟨j, h1, h2⟩
    by_cases hj : j = i
    · subst hj; rw [h] at h2; cases h2; exact .inr rfl
    · exact .inl ⟨j, by omega, h2⟩

def SetM (w : World) (b : Nat) (S : List Int) : Prop :=
 w.ownsMap (H := Unit) Tryz.prog 3 (plainElem Tryz.prog 4) b S.length (Maps.setOf (.lit (.bool true)) (S.map (Lit.int .i64))) ∧ ∀ x ∈ S, (Lit.int .i64 x).wf = true

theorem SetM.grown {w w' : World} {b : Nat} {S : List Int} {r : Option Nat} (h : SetM w b S) (hg : w.grownBy w' r) (hr : some b ≠ r) : SetM w' b S := ⟨h.1.kept hg hr, h.2⟩
theorem SetM.lt {w : World} {b : Nat} {S : List Int} (h : SetM w b S) : b < w.heap.size := h.1.lt
theorem SetM.new (w : World) : SetM (w.alloc (.map #[] 0)) w.heap.size [] := ⟨World.ownsMap_made w _ _ _, fun x hx => by cases hx⟩
theorem isKey_ints (S : List Int) : ∀ x ∈ S.map (Lit.int .i64), Go.WideAt.IsKeyLit x := fun x hx => by
 obtain ⟨y, _, rfl⟩ := List.mem_map.1 hx
 trivial

theorem atKey_setOf (u z : DataW Unit) (k : Int) : ∀ S : List Int, (Maps.setOf u (S.map (Lit.int .i64))).atKey (.int .i64 k) z = if k ∈ S then u else z := by
 intro S
 rw [← List.reverse_reverse S]
 generalize S.reverse = R
 induction R with
 | nil => simp [Maps.setOf, DataW.atKey]
 | cons x R ih =>
  rw [List.reverse_cons, List.map_append, List.map_singleton, Maps.setOf_snoc]
  by_cases hx : k = x
  ·
   subst hx
   rw [Maps.atKey_put_same ((Maps.tidy_setOf u _ (isKey_ints _)).isMap) (by trivial : Go.WideAt.IsKeyLit (.int .i64 k))]
   simp
  ·
   rw [Maps.atKey_put_other (by simpa using hx), ih]
   simp [hx]

theorem mem_keys (S : List Int) (x : Int) : Maps.has (Maps.setOf (.lit (.bool true) : DataW Unit) (S.map (Lit.int .i64))) (.int .i64 x) = true ↔ x ∈ S := by
 rw [Maps.has_setOf _ _ _ (isKey_ints S), List.any_eq_true]
 constructor
 ·
  rintro ⟨y, hy, hs⟩
  obtain ⟨z, hz, rfl⟩ := List.mem_map.1 hy
  have : z = x := by simpa [Lit.sameKey] using hs
  rw [← this]; exact hz
 ·
  intro hx
  exact ⟨_, List.mem_map.2 ⟨x, hx, rfl⟩, by simp [Lit.sameKey]⟩

theorem size_keys (S : List Int) : Maps.size (Maps.setOf (.lit (.bool true) : DataW Unit) (S.map (Lit.int .i64))) ≤ S.length := by
 rw [← List.reverse_reverse S]
 generalize S.reverse = R
 induction R with
 | nil => simp [Maps.setOf, Maps.size]
 | cons x R ih =>
  rw [List.reverse_cons, List.map_append, List.map_singleton, Maps.setOf_snoc, Maps.size_put (Maps.tidy_setOf _ _ (isKey_ints _))]
  simp only [List.length_append, List.length_singleton]
  split <;> omega

abbrev uniq (S : List Int) : List Int := ofTo S S.length
theorem mem_uniq {S : List Int} {x : Int} : x ∈ uniq S ↔ x ∈ S := by
 rw [mem_ofTo]
 constructor
 ·
  rintro ⟨j, _, e⟩
  exact List.mem_of_getElem? e
 ·
  intro hx
  obtain ⟨j, hj, e⟩ := List.getElem_of_mem hx
  exact ⟨j, hj, by rw [List.getElem?_eq_getElem hj, e]⟩
theorem uniq_up (S : List Int) : Up (uniq S) := ofTo_up


theorem wf64 {k : Int} (h0 : -9223372036854775808 ≤ k) (h1 : k ≤ 9223372036854775807) : (Lit.int .i64 k).wf = true := WalkArith.wf_i64 (by omega)

theorem plainElem_bool_inv {v : Value} {z : DataW Unit × List MemPlace} (h : plainElem Tryz.prog 4 v = some z) : ∃ b, v = .bool b ∧ z = (.lit (.bool b), []) := by
 unfold plainElem at h
 rw [Tryz.underlying4] at h
 cases v <;> simp at h
 exact ⟨_, rfl, h.symm⟩

theorem zero4 (w : World) : (zeroValue 4).run Tryz.prog w = .ok (.bool false) w := by kernel_rfl

theorem SetM.look {w : World} {b : Nat} {S : List Int} (h : SetM w b S) {k : Int} (hk : (Lit.int .i64 k).wf = true) : (Instr.lookup 90 (.map (some b)) (.int .i64 k) false).run Tryz.prog w = .ok (.bool (decide (k ∈ S))) w := by
 obtain ⟨v, ps, hr, hv⟩ := h.1.lookup (Maps.int_keyed Tryz.underlying3) Tryz.underlying90 (zero4 w) (plainElem_bool Tryz.underlying4 false) (Maps.keyOf_int_mk Tryz.underlying3 hk)
 rw [atKey_setOf] at hv
 obtain ⟨x, rfl, hx⟩ := plainElem_bool_inv hv
 rw [hr]
 by_cases hm : k ∈ S
 ·
  rw [if_pos hm] at hx
  simp at hx
  simp [hm, hx.1]
 ·
  rw [if_neg hm] at hx
  simp at hx
  simp [hm, hx.1]

theorem SetM.store {w : World} {b : Nat} {S : List Int} (h : SetM w b S) (hl : S.length ≤ 1000000) {k : Int} (hk : (Lit.int .i64 k).wf = true) :
  ∃ w', (Instr.mapUpdate 90 (.map (some b)) (.int .i64 k) (.bool true)).run Tryz.prog w = .ok () w' ∧ SetM w' b (S ++ [k]) ∧ w.grownBy w' (some b) := by
 obtain ⟨w', hr, ho, ht⟩ := h.1.store (Maps.int_keyed Tryz.underlying3) Tryz.underlying90 (by unfold maxLen; omega) (Maps.keyOf_int_mk Tryz.underlying3 hk) (plainElem_bool Tryz.underlying4 true)
 refine ⟨w', hr, ⟨?_, ?_⟩, ht.grown⟩
 ·
  rw [List.map_append, List.map_singleton, Maps.setOf_snoc, List.length_append]
  exact ho
 ·
  intro x hx
  rcases List.mem_append.1 hx with hx | hx
  · exact h.2 x hx
  · rw [List.mem_singleton.1 hx]; exact hk

theorem ready_setM {ops : Array Oper} {o : Oper} {a : Act} {Q : Exit → Act → World → Prop} {K' : Act → World → Prop} {w : World} (m x : Operand) (hgd : o.guard = none)
  (ho : o.op = .mapUpdate 90 m x (.const (.bool true))) (b : Nat) (S : List Int) (hm : a.eval m = .map (some b)) (hown : SetM w b S) (hl : S.length ≤ 1000000) (k : Int) (hx : a.eval x = .int .i64 k) (hk : (Lit.int .i64 k).wf = true)
  (h : ∀ w', SetM w' b (S ++ [k]) → w.grownBy w' (some b) → K' (a.put o.dst undef) w') :
  if Region.wanted o (yielded ops a.tmps) = true then Oper.wp Tryz.prog o a w K' Q else K' (a.put o.dst undef) w := by
 obtain ⟨w', hr, h2, h3⟩ := hown.store hl hk
 have hw : Region.wanted o (yielded ops a.tmps) = true := by simp only [Region.wanted, hgd]
 rw [if_pos hw]
 unfold Oper.wp
 have hv : a.eval (.const (.bool true)) = .bool true := rfl
 simp [execOp, ho, hm, hx, hv, hr, Result.andThen]
 exact h w' h2 h3

theorem ret_rel {w w3 : World} {B p : Nat} {a : Option Addr} {c : Nat} {k : Int} {L : List Int} (hs : Span (B + 1) w3.heap.size w3 (fun V => IntsW V a c L)) (hB : w.heap.size ≤ B) (hg : w.grownBy w3 none) :
  Span w.heap.size ((w3.setCell ⟨B, 0, none⟩ (.int .i64 k)).setCell ⟨B, 1, none⟩ (.slice a p c)).heap.size ((w3.setCell ⟨B, 0, none⟩ (.int .i64 k)).setCell ⟨B, 1, none⟩ (.slice a p c)) (fun V => IntsW V a c L) ∧
   w.grownBy ((w3.setCell ⟨B, 0, none⟩ (.int .i64 k)).setCell ⟨B, 1, none⟩ (.slice a p c)) none := by
 constructor
 ·
  have h1 := (hs.off (grown_set _ B 0 (.int .i64 k)) (fun x e => by cases e; exact .inl (by omega))).off (grown_set _ B 1 (.slice a p c)) (fun x e => by cases e; exact .inl (by omega))
  exact h1.wide (by omega) (by simp [World.setCell]) (Nat.le_refl _)
 · exact grown_own (grown_own hg (grown_set _ B 0 _) (fun k hk => by cases hk; omega)) (grown_set _ B 1 _) (fun k hk => by cases hk; omega)

end Go.Proofs.YthdhmflodiincaaGreat

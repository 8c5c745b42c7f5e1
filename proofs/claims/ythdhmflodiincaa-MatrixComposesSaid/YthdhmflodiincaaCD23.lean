/- Texts of the proof: PR. -/
import Derived.Test.YthdhmflodiincaaCD00
import Derived.Test.YthdhmflodiincaaCD12
import Derived.Test.YthdhmflodiincaaCD09
import Derived.Test.YthdhmflodiincaaCD16
import Derived.Deep.DeepCutAuto
set_option maxRecDepth 100000
set_option maxHeartbeats 8000000
namespace Go.Proofs.Ythdhmflodiincaa
open Lib (hid)
open Go.RowKit Go.Shelf Go.Maps

abbrev pro0 : Oper := { dst := some 40, op := Op.load 24 (Operand.tmp 39), type := 24, pos := "matrix.go:94", after := #[{ on := 0, ground := Ground.data }], guard := none }
abbrev pro1 : Oper := { dst := some 46, op := Op.call { callee := Callee.value (Operand.func 86), args := #[Operand.tmp 43, Operand.tmp 45], argTypes := #[93, 3] }, type := 3, pos := "matrix.go:94", after := #[{ on := 4, ground := Ground.data }, { on := 6, ground := Ground.data }], guard := none }
abbrev pro2 : Oper := { dst := some 47, op := Op.binOp BinOp.mul 3 (Operand.tmp 42) (Operand.tmp 46) 3, type := 3, pos := "matrix.go:94", after := #[{ on := 3, ground := Ground.data }, { on := 7, ground := Ground.data }], guard := none }
abbrev pro3 : Oper := { dst := some 50, op := Op.binOp BinOp.add 3 (Operand.tmp 47) (Operand.tmp 49) 3, type := 3, pos := "matrix.go:94", after := #[{ on := 8, ground := Ground.data }, { on := 10, ground := Ground.data }], guard := none }
abbrev pro4 : Oper := { dst := some 62, op := Op.call { callee := Callee.value (Operand.func 81), args := #[Operand.tmp 57, Operand.tmp 59, Operand.tmp 61], argTypes := #[86, 3, 3] }, type := 3, pos := "matrix.go:94", after := #[{ on := 18, ground := Ground.data }, { on := 20, ground := Ground.data }, { on := 22, ground := Ground.data }, { on := 7, ground := Ground.chain }], guard := none }
abbrev pro5 : Oper := { dst := some 63, op := Op.call { callee := Callee.value (Operand.func 74), args := #[Operand.tmp 40, Operand.tmp 50, Operand.tmp 62], argTypes := #[24, 3, 3] }, type := 24, pos := "matrix.go:94", after := #[{ on := 1, ground := Ground.data }, { on := 11, ground := Ground.data }, { on := 23, ground := Ground.data }, { on := 23, ground := Ground.chain }], guard := none }
abbrev pro6 : Oper := { dst := some 64, op := Op.fieldAddr 26 (Operand.tmp 11) 1, type := 0, pos := "matrix.go:94", after := #[{ on := 0, ground := Ground.phase }, { on := 1, ground := Ground.phase }, { on := 2, ground := Ground.phase }, { on := 3, ground := Ground.phase }, { on := 4, ground := Ground.phase }, { on := 5, ground := Ground.phase }, { on := 6, ground := Ground.phase }, { on := 7, ground := Ground.phase }, { on := 8, ground := Ground.phase }, { on := 9, ground := Ground.phase }, { on := 10, ground := Ground.phase }, { on := 11, ground := Ground.phase }, { on := 12, ground := Ground.phase }, { on := 13, ground := Ground.phase }, { on := 14, ground := Ground.phase }, { on := 15, ground := Ground.phase }, { on := 16, ground := Ground.phase }, { on := 17, ground := Ground.phase }, { on := 18, ground := Ground.phase }, { on := 19, ground := Ground.phase }, { on := 20, ground := Ground.phase }, { on := 21, ground := Ground.phase }, { on := 22, ground := Ground.phase }, { on := 23, ground := Ground.phase }, { on := 24, ground := Ground.phase }], guard := none }
abbrev pro7 : Oper := { dst := none, op := Op.store 24 (Operand.tmp 64) (Operand.tmp 63), type := 0, pos := "matrix.go:94", after := #[{ on := 25, ground := Ground.data }, { on := 24, ground := Ground.data }, { on := 24, ground := Ground.chain }, { on := 0, ground := Ground.phase }, { on := 1, ground := Ground.phase }, { on := 2, ground := Ground.phase }, { on := 3, ground := Ground.phase }, { on := 4, ground := Ground.phase }, { on := 5, ground := Ground.phase }, { on := 6, ground := Ground.phase }, { on := 7, ground := Ground.phase }, { on := 8, ground := Ground.phase }, { on := 9, ground := Ground.phase }, { on := 10, ground := Ground.phase }, { on := 11, ground := Ground.phase }, { on := 12, ground := Ground.phase }, { on := 13, ground := Ground.phase }, { on := 14, ground := Ground.phase }, { on := 15, ground := Ground.phase }, { on := 16, ground := Ground.phase }, { on := 17, ground := Ground.phase }, { on := 18, ground := Ground.phase }, { on := 19, ground := Ground.phase }, { on := 20, ground := Ground.phase }, { on := 21, ground := Ground.phase }, { on := 22, ground := Ground.phase }, { on := 23, ground := Ground.phase }, { on := 24, ground := Ground.phase }], guard := none }
theorem resM42 (tmps : Array Value) (w : World) (b c : Nat) (a : Option Addr) (n d : Nat) (x y : Value) (ht : tmps.getD 8 undef = .pointer (some ⟨b, 0, none⟩)) (hu : tmps.getD 9 undef = .pointer (some ⟨c, 0, none⟩)) (h0 : w.cell? ⟨b, 0, none⟩ = some (.slice a n d)) (h1 : w.cell? ⟨c, 0, none⟩ = some x) (h2 : w.cell? ⟨c, 1, none⟩ = some y) :
  (results Try.f42 tmps).run Try.prog w = .ok (.tuple #[.agg #[.slice a n d], .agg #[x, y]]) w := by
 have ht' : tmps[8]?.getD undef = .pointer (some ⟨b, 0, none⟩) := by simpa using ht
 have hu' : tmps[9]?.getD undef = .pointer (some ⟨c, 0, none⟩) := by simpa using hu
 simp [results, ht', hu', go_sem, h0, h1, h2, Result.andThen]
def prodF (P : Int) (m : List Cl) (c : Cl × Cl) : Pr (List Cl) := (andP c.1.2 c.2.2).bind fun r => .ret (keptM m (c.1.1 * P + c.2.1) r)
theorem run_prodF (P : Int) (m : List Cl) (x y : Cl) (g : List Gt) : (prodF P m (x, y)).run g = ((andC g x.2 y.2).1, keptM m (x.1 * P + y.1) (andC g x.2 y.2).2) := rfl
theorem prod_run {P : Int} {a b : List Cl} (ha : UpM a) (hb : UpM b) (hy : ∀ y ∈ b, 0 ≤ y.1 ∧ y.1 < P) (gs : List Gt) : (foldP (prodF P) (allPairs a b) []).run gs = (mprodP P a b).run gs := by
 unfold mprodP opP prodRanks
 rw [foldP_map]
 congr 1
 refine foldP_congr _ fun s c hc => ?_
 obtain ⟨h1, h2⟩ := mem_pairs.1 hc
 obtain ⟨h3, h4⟩ := hy _ h2
 have e1 : (c.1.1 * P + c.2.1) / P = c.1.1 := by
  rw [Int.add_comm, Int.add_mul_ediv_right _ _ (by omega), Int.ediv_eq_zero_of_lt h3 h4, Int.zero_add]
 have e2 : (c.1.1 * P + c.2.1) % P = c.2.1 := by
  rw [Int.add_comm, Int.add_mul_emod_self_right, Int.emod_eq_of_lt h3 h4]
 show prodF P s c = _
 unfold prodF
 dsimp only
 rw [e1, e2, at_of_mem ha h1, at_of_mem hb h2]
theorem pairs_drop {x : Cl} {a b : List Cl} {i : Nat} (hx : a[i]? = some x) : allPairs (a.drop i) b = (b.drop 0).map (fun y => (x, y)) ++ allPairs (a.drop (i + 1)) b := by
 obtain ⟨hj, hv⟩ := List.getElem?_eq_some_iff.1 hx
 rw [List.drop_eq_getElem_cons hj, hv]
 rfl
theorem row_drop {x y : Cl} {b : List Cl} {j : Nat} (L : List (Cl × Cl)) (hy : b[j]? = some y) : (b.drop j).map (fun y => (x, y)) ++ L = (x, y) :: ((b.drop (j + 1)).map (fun y => (x, y)) ++ L) := by
 obtain ⟨hj, hv⟩ := List.getElem?_eq_some_iff.1 hy
 rw [List.drop_eq_getElem_cons hj, hv]
 rfl
structure PL (W0 : World) (p q s m : Nat) (ar : Int) (nn : Nat) (gs gE : List Gt) (mE : List Cl) (P : Int) (left : List (Cl × Cl)) (N : Nat) (W : World) : Prop where
 ex : ∃ g l, MSt W0 p q m ar g l W ∧ (foldP (prodF P) left l).run g = (gE, mE) ∧ (Good g ∧ gs <+: g ∧ g.length ≤ gs.length + N ∧ l.length ≤ N)
 s0 : W.cell? ⟨s, 0, none⟩ = some (.pointer (some ⟨q, 0, none⟩))
 s1 : W.cell? ⟨s, 1, none⟩ = some (.int .i64 (nn : Int))
 ss : SafeM p m W s
section
variable {W0 W W' : World} {p q s m nn N : Nat} {ar P : Int} {gs gE : List Gt} {mE : List Cl} {left : List (Cl × Cl)}
theorem PL.grown (h : PL W0 p q s m ar nn gs gE mE P left N W) : W0.grownBy W none := by
 obtain ⟨g, l, h1, _⟩ := h.ex
 exact h1.grown
theorem Saved.ofNone {B : Nat} {g : List Gt} {l : List Cl} (h : MSt W0 p q m ar g l W) (hg : W.grownBy W' none) (_ : p ≤ B) : Saved (SafeM p m) W W' := fun b hb => ⟨hg.block b hb.1 (by simp), (msafe_keep (B := p) h (Quiet.of_none hg) (Nat.le_refl _)).2.1 b hb⟩
theorem PL.laid (h : PL W0 p q s m ar nn gs gE mE P left N W) (hg : W.grownBy W' none) :
  PL W0 p q s m ar nn gs gE mE P left N W' ∧ Saved (SafeM p m) W W' ∧ ∀ k, W.heap.size ≤ k → k < W'.heap.size → SafeM p m W' k := by
 obtain ⟨g, l, h1, h2⟩ := h.ex
 have h3 := msafe_keep (B := p) h1 (Quiet.of_none hg) (Nat.le_refl _)
 exact ⟨⟨⟨g, l, h3.1, h2⟩, hg.cell h.s0 (by simp), hg.cell h.s1 (by simp), h3.2.1 s h.ss⟩, Saved.ofNone (B := p) h1 hg (Nat.le_refl _), h3.2.2⟩
end
theorem mprod_calls (gs : List Gt) (a b : List Cl) (n k j P : Nat) (gF : List Gt) (mF : List Cl) (xa : Option Addr) (xc : Nat) (aa : Option Addr) (na ca : Nat) (ba : Option Addr) (nb cb : Nat) (w : World)
  (eF : (mprodP (P : Int) a b).run gs = (gF, mF)) (h : GatesW w xa xc gs) (hma : CellsW w aa ca a) (hna : a.length = na) (hmb : CellsW w ba cb b) (hnb : b.length = nb) (hG : Good gs) (hMa : Mat gs a) (hMb : Mat gs b) (hl : gs.length + na * nb ≤ 900) (hla : na ≤ 200) (hlb : nb ≤ 200)
  (hn4 : n ≤ 4) (hj3 : j ≤ 3) (hk3 : k ≤ 3) (hP : P = n ^ j) (hra : ∀ c ∈ a, 0 ≤ c.1 ∧ c.1 ≤ 10000) (hrb : ∀ c ∈ b, 0 ≤ c.1 ∧ c.1 < (P : Int)) :
  Calls Try.prog 42 #[.agg #[.slice xa gs.length xc], .int .i64 (n : Int), .agg #[.int .i64 (k : Int), .slice aa na ca], .agg #[.int .i64 (j : Int), .slice ba nb cb]] w (AnsM w gF ((k : Int) + (j : Int)) mF) := by
 obtain ⟨ng, hng⟩ : ∃ n, gs.length = n := ⟨_, rfl⟩
 have hb5 := b5 w (.slice xa ng xc) (.int .i64 (k : Int)) (.slice aa na ca) (.int .i64 (j : Int)) (.slice ba nb cb)
 obtain ⟨W5, hW5⟩ : ∃ z, w5 w (.slice xa ng xc) (.int .i64 (k : Int)) (.slice aa na ca) (.int .i64 (j : Int)) (.slice ba nb cb) = z := ⟨_, rfl⟩
 rw [hW5] at hb5
 unfold w5 at hW5
 rw [hng] at hl ⊢
 have HB := hid hb5
 have HN := hid (And.intro hng (And.intro hna hnb))
 have HL := hid (And.intro hl (And.intro hla hlb))
 have hP256 : P ≤ 64 := by
  rw [hP]
  have h1 : n ^ j ≤ 4 ^ j := Nat.pow_le_pow_left hn4 _
  have h2 : 4 ^ j ≤ 4 ^ 3 := Nat.pow_le_pow_right (by omega) hj3
  omega
 have HE := hid ((prod_run hMa.1 hMb.1 hrb gs).trans eF)
 have HGM := hid (And.intro hG (And.intro hMa hMb))
 have HC := hid (And.intro h (And.intro hma hmb))
 have HNA := hid (fun (U : World) (hU : W5.grownBy U none) => newalg_calls gs (n : Int) xa xc U (h.grown (gT hb5.g hU)))
 rw [hng] at HNA
 have HRG := hid (And.intro hra hrb)
 have HNK := hid (show n ≤ 4 ∧ j ≤ 3 ∧ k ≤ 3 ∧ P = n ^ j ∧ P ≤ 64 from ⟨hn4, hj3, hk3, hP, hP256⟩)
 have z0 := HB.out.c
 clear hb5 hng eF h hma hna hmb hnb hG hMa hMb hl hla hlb hra hrb hP hP256
 go_enter Try.func42, Try.ntmps42
 go_wp2_with fail
 clear hW5 z0
 refine (HNA.out W5 (grown_refl _ _)).mono ?_
 rintro e V ⟨s, q, p, rfl, hp, hq, hs, hpq, hps, hqs, hs0, hs1, hq0, hgx, hg1⟩
 have HWB := hid (show W5.heap.size = w.heap.size + 5 ∧ w.heap.size + 5 ≤ p ∧ w.heap.size + 5 ≤ q ∧ w.heap.size + 5 ≤ s ∧ p ≠ q ∧ p ≠ s ∧ q ≠ s ∧ p < V.heap.size ∧ q < V.heap.size ∧ s < V.heap.size from by have h1 := HB.out.sz; have h2 := hgx.p_lt; have h3 : q < V.heap.size := lies_lt hq0; have h4 : s < V.heap.size := lies_lt hs0; omega)
 have y1 := hg1.cell HB.out.a0 (by simp)
 have y3 := hg1.cell HB.out.b0 (by simp)
 go_upto_region 3 with fail
 have hmb := MB.made V ((k : Int) + (j : Int))
 have hgB := gAl V (.cells #[.int .i64 ((k : Int) + (j : Int)), .slice none 0 0] 26) none
 obtain ⟨V2, hV2⟩ : ∃ z, V.alloc (.cells #[.int .i64 ((k : Int) + (j : Int)), .slice none 0 0] 26) = z := ⟨_, rfl⟩
 have hs2 : V2.heap.size = V.heap.size + 1 := by rw [← hV2]; simp
 rw [hV2] at hmb hgB ⊢
 obtain ⟨m, hm⟩ : ∃ z, V.heap.size = z := ⟨_, rfl⟩
 rw [hm] at hmb hs2 ⊢
 have hgx2 := hgx.grown hgB
 have hsm : ∀ b, b < V.heap.size → b ≠ p → SafeM p m V2 b := fun b h1 h2 => ⟨by omega, fun e => h2 (hgx2.own_in e), fun e => by have := (hmb.own_lt e).1; omega⟩
 have HMS := hid (show MSt W5 p q m ((k : Int) + (j : Int)) gs [] V2 from ⟨⟨0, hgx2.own⟩, hgB.cell hq0 (by simp), hmb, gT hg1 hgB, ⟨by have := HWB.out; omega, by have := HWB.out; omega, by have := HWB.out; omega⟩, fun k' hk hb => by
   have h1 : k' = p := hgx2.own_in hk
   have h2 := hmb.own_lt hb
   have := HWB.out
   omega, (hsm q (by have := HWB.out; omega) (by have := HWB.out; omega)).2⟩)
 have HPL := hid (show PL W5 p q s m ((k : Int) + (j : Int)) n gs gF mF (P : Int) (allPairs (a.drop 0) b) (0 * nb) V2 from ⟨⟨gs, [], HMS.out, HE.out, HGM.out.1, List.prefix_refl _, by omega, by simp⟩, hgB.cell hs0 (by simp), hgB.cell hs1 (by simp), hsm s (by have := HWB.out; omega) (by have := HWB.out; omega)⟩)
 have HZ2 := hid (show V2.heap.size = m + 1 ∧ p < m ∧ q < m ∧ s < m from by have := HWB.out; omega)
 have HOC := hid (show ∀ k', OwnC p V2 k' → k' = p from fun k' hk => hgx2.own_in hk)
 have HG2 := hid (gT hg1 hgB)
 clear hp hq hs hpq hps hqs hs0 hs1 hq0 hgx hg1 hmb hgB hV2 hs2 hm hgx2 hsm y1 y3 HE
 have y2 := HPL.out.grown.cell HB.out.a1 (by simp)
 go_wp2_with fail
 clear y2
 go_loopg [28] na (fun gk s28 wr => ∃ i : Nat, s28 = .int .i64 (i : Int) ∧ gk = na - i ∧ i ≤ na ∧ PL W5 p q s m ((k : Int) + (j : Int)) n gs gF mF (P : Int) (allPairs (a.drop i) b) (i * nb) wr)
 case atStart => exact ⟨0, rfl, rfl, Nat.zero_le _, HPL.out⟩
 case round =>
  obtain ⟨i, rfl, hgi, hi, hj⟩ := hrel
  have HI := hid (And.intro hgi hj)
  clear hgi hj
  by_cases hin : i < na
  ·
   have f1 : decide (i < na) = true := decide_eq_true hin
   have f2 : decide ((i : Int) < (na : Int)) = true := decide_eq_true (by omega)
   have hj0 : (0 : Int) ≤ (i : Int) := by omega
   have hj1 : (i : Int) < (na : Int) := by omega
   obtain ⟨x, hx⟩ : ∃ r, a[i]? = some r := ⟨_, List.getElem?_eq_getElem (by rw [HN.out.2.1]; exact hin)⟩
   have hgw := gT HB.out.g HI.out.2.grown
   obtain ⟨bar, oa, rfl, x0, x1⟩ := (HC.out.2.1.grown hgw).at hx
   have y2 := HI.out.2.grown.cell HB.out.b1 (by simp)
   have HXX := hid hx
   have hrx := HRG.out.1 x (List.mem_of_getElem? hx)
   obtain ⟨xr, hxr⟩ : ∃ z : Nat, x.1 = (z : Int) := ⟨x.1.toNat, by omega⟩
   have HXR := hid (And.intro hxr (show xr ≤ 10000 by omega))
   clear hx hrx hgw
   rw [hxr] at x0
   go_upto_region 6 with fail
   have g5 := gAl wr (.cells #[.int .i64 (xr : Int), .int .i64 x.2] 71) none
   have hc5 := one_cells wr (.int .i64 (xr : Int)) (.int .i64 x.2) 71
   obtain ⟨U, hU⟩ : ∃ z, wr.alloc (.cells #[.int .i64 (xr : Int), .int .i64 x.2] 71) = z := ⟨_, rfl⟩
   rw [hU] at g5 hc5 ⊢
   obtain ⟨bx, hbx⟩ : ∃ z, wr.heap.size = z := ⟨_, rfl⟩
   rw [hbx] at hc5 ⊢
   have hl5 := HI.out.2.laid g5
   have HX14 := hid (show SafeM p m U bx ∧ U.cell? ⟨bx, 0, none⟩ = some (.int .i64 (xr : Int)) ∧ U.cell? ⟨bx, 1, none⟩ = some (.int .i64 x.2) from ⟨hl5.2.2 bx (by omega) (lies_lt hc5.2.1), hc5.2.1, hc5.2.2.1⟩)
   have HJU := hid (show PL W5 p q s m ((k : Int) + (j : Int)) n gs gF mF (P : Int) ((b.drop 0).map (fun y => (x, y)) ++ allPairs (a.drop (i + 1)) b) (i * nb + 0) U from by
    have h := hl5.1
    rw [pairs_drop HXX.out] at h
    exact h)
   have y2' := g5.cell y2 (by simp)
   clear hU hbx g5 hc5 x0 x1 y2 hxr hl5
   go_wp2_with fail
   clear y2' f1 f2 hj0 hj1
   go_loopg [35] nb (fun gk s35 wr => ∃ jy : Nat, s35 = .int .i64 (jy : Int) ∧ gk = nb - jy ∧ jy ≤ nb ∧ PL W5 p q s m ((k : Int) + (j : Int)) n gs gF mF (P : Int) ((b.drop jy).map (fun y => (x, y)) ++ allPairs (a.drop (i + 1)) b) (i * nb + jy) wr ∧ SafeM p m wr bx ∧ wr.cell? ⟨bx, 0, none⟩ = some (.int .i64 (xr : Int)) ∧ wr.cell? ⟨bx, 1, none⟩ = some (.int .i64 x.2))
   case atStart => exact ⟨0, rfl, rfl, Nat.zero_le _, HJU.out, HX14.out⟩
   case round =>
    obtain ⟨jy, rfl, hgj, hj, hjl, hsx, hx0, hx1⟩ := hrel
    have HK := hid (And.intro hgj (And.intro hjl hsx))
    clear hgj hjl hsx
    by_cases hjn : jy < nb
    ·
     have f1 : decide (jy < nb) = true := decide_eq_true hjn
     have f2 : decide ((jy : Int) < (nb : Int)) = true := decide_eq_true (by omega)
     have hj0 : (0 : Int) ≤ (jy : Int) := by omega
     have hj1 : (jy : Int) < (nb : Int) := by omega
     obtain ⟨y, hy⟩ : ∃ r, b[jy]? = some r := ⟨_, List.getElem?_eq_getElem (by rw [HN.out.2.2]; exact hjn)⟩
     obtain ⟨bb, ob, rfl, y0, y1⟩ := (HC.out.2.2.grown (gT HB.out.g HK.out.2.1.grown)).at hy
     have hry := HRG.out.2 y (List.mem_of_getElem? hy)
     obtain ⟨yr, hyr⟩ : ∃ z : Nat, y.1 = (z : Int) := ⟨y.1.toNat, by omega⟩
     have HYR := hid (And.intro hyr (show yr < P by omega))
     have HYY := hid hy
     clear hy hry
     rw [hyr] at y0
     clear hyr
     go_upto_region 9 with fail
     have g6 := gAl wr (.cells #[.int .i64 (yr : Int), .int .i64 y.2] 71) none
     have hc6 := one_cells wr (.int .i64 (yr : Int)) (.int .i64 y.2) 71
     obtain ⟨Y, hY⟩ : ∃ z, wr.alloc (.cells #[.int .i64 (yr : Int), .int .i64 y.2] 71) = z := ⟨_, rfl⟩
     rw [hY] at g6 hc6 ⊢
     obtain ⟨bY, hbY⟩ : ∃ z, wr.heap.size = z := ⟨_, rfl⟩
     rw [hbY] at hc6 ⊢
     have hl6 := HK.out.2.1.laid g6
     have HSY := hid (show SafeM p m Y bY ∧ SafeM p m Y bx from ⟨hl6.2.2 bY (by omega) (lies_lt hc6.2.1), (hl6.2.1 bx HK.out.2.2).2⟩)
     have HJY := hid hl6.1
     have HCY := hid (show (Y.cell? ⟨bx, 0, none⟩ = some (.int .i64 (xr : Int)) ∧ Y.cell? ⟨bx, 1, none⟩ = some (.int .i64 x.2)) ∧ Y.cell? ⟨bY, 0, none⟩ = some (.int .i64 (yr : Int)) ∧ Y.cell? ⟨bY, 1, none⟩ = some (.int .i64 y.2) from ⟨⟨hl6.2.1.cell HK.out.2.2 hx0, hl6.2.1.cell HK.out.2.2 hx1⟩, hc6.2.1, hc6.2.2.1⟩)
     obtain ⟨g, l, hst, hrun, hG, hpx, hgl, hll⟩ := hl6.1.ex
     rw [row_drop _ HYY.out] at hrun
     rw [run_foldP_cons, run_prodF] at hrun
     obtain ⟨nl, hnl⟩ : ∃ z, l.length = z := ⟨_, rfl⟩
     obtain ⟨ma, mc, hm1, _⟩ := hst.mb.row
     rw [hnl] at hm1
     have hox : Ok g x.2 := ((HGM.out.2.1.grow hpx).2 x (List.mem_of_getElem? HXX.out)).1
     have hoy : Ok g y.2 := ((HGM.out.2.2.grow hpx).2 y (List.mem_of_getElem? HYY.out)).1
     obtain ⟨qq, hqq⟩ : ∃ z, andC g x.2 y.2 = z := ⟨_, rfl⟩
     obtain ⟨g1, r⟩ := qq
     have h1 := step_and hG x.2 y.2
     have h3 := @and_len g x.2 y.2
     rw [hqq] at h1 h3 hrun
     simp only at hrun
     have h3' : g1.length ≤ g.length + 1 := h3
     have hbd := jp_lt hin hjn
     have HBD := hid (show g.length ≤ gs.length + (i * nb + jy) ∧ gs.length + (i * nb + jy) + 1 ≤ 900 ∧ nl ≤ i * nb + jy ∧ nl ≤ 900 from by have h7 := HN.out.1; have h2 := HL.out.1; rw [← h7] at h2; omega)
     obtain ⟨R, hR⟩ : ∃ z, xr * P = z := ⟨_, rfl⟩
     obtain ⟨K0, hK0⟩ : ∃ z, R + yr = z := ⟨_, rfl⟩
     have hR9 : R ≤ 10000 * 64 := by rw [← hR]; exact Nat.mul_le_mul HXR.out.2 HNK.out.2.2.2.2
     have hkey : x.1 * (P : Int) + y.1 = (K0 : Int) := by rw [HXR.out.1, HYR.out.1, ← hK0, ← hR]; push_cast; rfl
     rw [hkey] at hrun
     have HNX := hid (show Good g1 ∧ gs <+: g1 ∧ g1.length ≤ gs.length + (i * nb + jy + 1) from ⟨h1.good, hpx.trans h1.pre, by have := HBD.out; omega⟩)
     have HQQ := hid hqq
     have HRUN := hid hrun
     have HST := hid hst
     have HSTD := hid hst.drew
     obtain ⟨hi0, hgx⟩ := HSTD.out.gx
     have HGX := hid hgx
     have HM1 := hid hm1
     have HNL := hid hnl
     have HGD := hid (And.intro hG hpx)
     have HMU := hid (show (xr : Int) * (P : Int) = (R : Int) from by rw [← hR]; simp)
     have w1 : IntKind.i64.wrap ((xr : Int) * (P : Int)) = (R : Int) := by rw [HMU.out]; exact IntWalk.i64_in _ (by omega)
     have w2 : IntKind.i64.wrap ((R : Int) + (yr : Int)) = (K0 : Int) := by rw [IntWalk.i64_in _ (by have := HYR.out; have := HNK.out; omega)]; omega
     have hs0 := hl6.1.s0
     have hs1 := hl6.1.s1
     have hb0 := HJY.out.grown.cell HB.out.b0 (by simp)
     have HSB := hid (show SafeM p m Y (w.heap.size + 2) from ⟨lies_lt hb0, fun e => by have h7 := HGX.out; have h8 := (h7.own_lt e).1; have := HWB.out; omega, fun e => by have h8 := (hst.mb.own_lt e).1; have := HWB.out; have := HZ2.out; omega⟩)
     have HSS := hid (And.intro hl6.1.ss (show SafeM p m Y q from ⟨lies_lt hst.q0, hst.nq.1, hst.nq.2⟩))
     have HSC := hid (And.intro hs0 (And.intro hs1 hb0))
     clear hY hbY g6 hc6 hl6 hx0 hx1 y0 y1 hst hrun hG hpx hgl hll hnl hm1 hox hoy hqq h1 h3 h3' hbd hR hK0 hR9 hkey hgx hs0 hs1 hb0 f1 f2 hj0 hj1
     have HS := hid (fun (Wh : World) (hWh : Saved (SafeM p m) Y Wh) => (⟨hWh, hWh.cell HSS.out.1 HSC.out.1, hWh.cell HSS.out.1 HSC.out.2.1, hWh.cell HSS.out.2 HST.out.q0, hWh.cell HSY.out.2 HCY.out.1.1, hWh.cell HSY.out.2 HCY.out.1.2, hWh.cell HSY.out.1 HCY.out.2.1, hWh.cell HSY.out.1 HCY.out.2.2, hWh.cell HSB.out HSC.out.2.2⟩ : (fun Wh : World => Saved (SafeM p m) Y Wh ∧ Wh.cell? ⟨s, 0, none⟩ = some (.pointer (some ⟨q, 0, none⟩)) ∧ Wh.cell? ⟨s, 1, none⟩ = some (.int .i64 (n : Int)) ∧ Wh.cell? ⟨q, 0, none⟩ = some (.pointer (some ⟨p, 0, none⟩)) ∧ Wh.cell? ⟨bx, 0, none⟩ = some (.int .i64 (xr : Int)) ∧ Wh.cell? ⟨bx, 1, none⟩ = some (.int .i64 x.2) ∧ Wh.cell? ⟨bY, 0, none⟩ = some (.int .i64 (yr : Int)) ∧ Wh.cell? ⟨bY, 1, none⟩ = some (.int .i64 y.2) ∧ Wh.cell? ⟨w.heap.size + 2, 0, none⟩ = some (.int .i64 (j : Int))) Wh))
     have hdr : Saved (SafeM p m) Y Y.drew := Saved.drew p m Y
     refine wp_region_held_drew (S := (fun Wh : World => Saved (SafeM p m) Y Wh ∧ Wh.cell? ⟨s, 0, none⟩ = some (.pointer (some ⟨q, 0, none⟩)) ∧ Wh.cell? ⟨s, 1, none⟩ = some (.int .i64 (n : Int)) ∧ Wh.cell? ⟨q, 0, none⟩ = some (.pointer (some ⟨p, 0, none⟩)) ∧ Wh.cell? ⟨bx, 0, none⟩ = some (.int .i64 (xr : Int)) ∧ Wh.cell? ⟨bx, 1, none⟩ = some (.int .i64 x.2) ∧ Wh.cell? ⟨bY, 0, none⟩ = some (.int .i64 (yr : Int)) ∧ Wh.cell? ⟨bY, 1, none⟩ = some (.int .i64 y.2) ∧ Wh.cell? ⟨w.heap.size + 2, 0, none⟩ = some (.int .i64 (j : Int)))) (by kernel_rfl) (HS.out _ hdr) (fun hH => ?_)
     refine tq 0 ({ dst := some 39, op := Op.fieldAddr 26 (Operand.tmp 11) 1, type := 0, pos := "matrix.go:94", after := #[], guard := none }) ?_ ?_ hH ?_
     rotate_left 1
     · (intro W h; go_simp <;> with_reducible rfl)
     try simp only [Act.put, sA, sB, sC]
     refine tq 2 ({ dst := some 41, op := Op.fieldAddr 71 (Operand.tmp 13) 0, type := 0, pos := "matrix.go:94", after := #[], guard := none }) ?_ ?_ hH ?_
     rotate_left 1
     · (intro W h; go_simp <;> with_reducible rfl)
     try simp only [Act.put, sA, sB, sC]
     refine tq 3 ({ dst := some 42, op := Op.load 3 (Operand.tmp 41), type := 3, pos := "matrix.go:94", after := #[{ on := 2, ground := Ground.data }], guard := none }) ?_ ?_ hH ?_
     rotate_left 1
     · (intro W h; go_simp <;> with_reducible rfl)
     try simp only [Act.put, sA, sB, sC]
     refine tq 4 ({ dst := some 43, op := Op.move (Operand.tmp 10), type := 93, pos := "matrix.go:94", after := #[], guard := none }) ?_ ?_ hH ?_
     rotate_left 1
     · (intro W h; go_simp <;> with_reducible rfl)
     try simp only [Act.put, sA, sB, sC]
     refine tq 5 ({ dst := some 44, op := Op.fieldAddr 26 (Operand.tmp 7) 0, type := 0, pos := "matrix.go:94", after := #[], guard := none }) ?_ ?_ hH ?_
     rotate_left 1
     · (intro W h; go_simp <;> with_reducible rfl)
     try simp only [Act.put, sA, sB, sC]
     refine tq 6 ({ dst := some 45, op := Op.load 3 (Operand.tmp 44), type := 3, pos := "matrix.go:94", after := #[{ on := 5, ground := Ground.data }], guard := none }) ?_ ?_ hH ?_
     rotate_left 1
     · (intro W h; go_simp <;> with_reducible rfl)
     try simp only [Act.put, sA, sB, sC]
     refine tq 9 ({ dst := some 48, op := Op.fieldAddr 71 (Operand.tmp 15) 0, type := 0, pos := "matrix.go:94", after := #[], guard := none }) ?_ ?_ hH ?_
     rotate_left 1
     · (intro W h; go_simp <;> with_reducible rfl)
     try simp only [Act.put, sA, sB, sC]
     refine tq 10 ({ dst := some 49, op := Op.load 3 (Operand.tmp 48), type := 3, pos := "matrix.go:94", after := #[{ on := 9, ground := Ground.data }], guard := none }) ?_ ?_ hH ?_
     rotate_left 1
     · (intro W h; go_simp <;> with_reducible rfl)
     try simp only [Act.put, sA, sB, sC]
     refine tq 12 ({ dst := some 51, op := Op.move (Operand.tmp 10), type := 93, pos := "matrix.go:94", after := #[], guard := none }) ?_ ?_ hH ?_
     rotate_left 1
     · (intro W h; go_simp <;> with_reducible rfl)
     try simp only [Act.put, sA, sB, sC]
     refine tq 13 ({ dst := some 52, op := Op.nilCheck (Operand.tmp 51), type := 0, pos := "matrix.go:94", after := #[{ on := 12, ground := Ground.data }], guard := none }) ?_ ?_ hH ?_
     rotate_left 1
     · (intro W h; go_simp <;> with_reducible rfl)
     try simp only [Act.put, sA, sB, sC]
     refine tq 14 ({ dst := some 53, op := Op.fieldAddr 97 (Operand.tmp 52) 0, type := 0, pos := "matrix.go:94", after := #[{ on := 13, ground := Ground.data }], guard := none }) ?_ ?_ hH ?_
     rotate_left 1
     · (intro W h; go_simp <;> with_reducible rfl)
     try simp only [Act.put, sA, sB, sC]
     refine tq 15 ({ dst := some 54, op := Op.load 77 (Operand.tmp 53), type := 77, pos := "matrix.go:94", after := #[{ on := 14, ground := Ground.data }], guard := none }) ?_ ?_ hH ?_
     rotate_left 1
     · (intro W h; go_simp <;> with_reducible rfl)
     try simp only [Act.put, sA, sB, sC]
     refine tq 16 ({ dst := some 55, op := Op.nilCheck (Operand.tmp 54), type := 0, pos := "matrix.go:94", after := #[{ on := 15, ground := Ground.data }], guard := none }) ?_ ?_ hH ?_
     rotate_left 1
     · (intro W h; go_simp <;> with_reducible rfl)
     try simp only [Act.put, sA, sB, sC]
     refine tq 17 ({ dst := some 56, op := Op.fieldAddr 88 (Operand.tmp 55) 0, type := 0, pos := "matrix.go:94", after := #[{ on := 16, ground := Ground.data }], guard := none }) ?_ ?_ hH ?_
     rotate_left 1
     · (intro W h; go_simp <;> with_reducible rfl)
     try simp only [Act.put, sA, sB, sC]
     refine tq 18 ({ dst := some 57, op := Op.load 86 (Operand.tmp 56), type := 86, pos := "matrix.go:94", after := #[{ on := 17, ground := Ground.data }], guard := none }) ?_ ?_ hH ?_
     rotate_left 1
     · (intro W h; go_simp <;> with_reducible rfl)
     try simp only [Act.put, sA, sB, sC]
     refine tq 19 ({ dst := some 58, op := Op.fieldAddr 71 (Operand.tmp 13) 1, type := 0, pos := "matrix.go:94", after := #[], guard := none }) ?_ ?_ hH ?_
     rotate_left 1
     · (intro W h; go_simp <;> with_reducible rfl)
     try simp only [Act.put, sA, sB, sC]
     refine tq 20 ({ dst := some 59, op := Op.load 3 (Operand.tmp 58), type := 3, pos := "matrix.go:94", after := #[{ on := 19, ground := Ground.data }], guard := none }) ?_ ?_ hH ?_
     rotate_left 1
     · (intro W h; go_simp <;> with_reducible rfl)
     try simp only [Act.put, sA, sB, sC]
     refine tq 21 ({ dst := some 60, op := Op.fieldAddr 71 (Operand.tmp 15) 1, type := 0, pos := "matrix.go:94", after := #[], guard := none }) ?_ ?_ hH ?_
     rotate_left 1
     · (intro W h; go_simp <;> with_reducible rfl)
     try simp only [Act.put, sA, sB, sC]
     refine tq 22 ({ dst := some 61, op := Op.load 3 (Operand.tmp 60), type := 3, pos := "matrix.go:94", after := #[{ on := 21, ground := Ground.data }], guard := none }) ?_ ?_ hH ?_
     rotate_left 1
     · (intro W h; go_simp <;> with_reducible rfl)
     try simp only [Act.put, sA, sB, sC]
     refine wpAnyH_ready (rs := [1, 7]) (by kernel_rfl) (by simp) ?_
     refine (AllReadyH.cons (o := pro0) rfl (fun K hK => ?_) (AllReadyH.cons (o := pro1) rfl (fun K hK => ?_) AllReadyH.nil))
     ·
      rw [if_pos (by rfl)]
      have k1 := (show (World.drew Y).cell? ⟨m, 1, none⟩ = some (.slice ma nl mc) from HM1.out)
      go_simp
      clear k1
      refine hK.out _ _ (HS.out _ hdr) (fun hH => ?_)
      clear hK K
      try simp only [Act.put, sA, sB, sC]
      refine wpAnyH_ready (rs := [7]) (by kernel_rfl) (by simp) ?_
      refine (AllReadyH.cons (o := pro1) rfl (fun K hK => ?_) AllReadyH.nil)
      rw [if_pos (by rfl)]
      go_simp
      go_at_call 86
      refine (power_calls s n j _ ((HS.out _ hdr).2.2.1) (by have := HNK.out; omega) (by have := HNK.out; omega)).mono ?_
      rintro e w9 ⟨rfl, hw9⟩
      rw [hw9]
      clear hw9 w9
      rw [← HNK.out.2.2.2.1]
      go_wp2_with fail
      refine hK.out _ _ (HS.out _ hdr) (fun hH => ?_)
      clear hK K
      try simp only [Act.put, sA, sB, sC]
      refine tq 8 pro2 ?_ ?_ hH ?_
      rotate_left 1
      · (intro W h; go_simp <;> with_reducible rfl)
      try simp only [Act.put, sA, sB, sC]
      refine tq 11 pro3 ?_ ?_ hH ?_
      rotate_left 1
      · (intro W h; go_simp <;> with_reducible rfl)
      try simp only [Act.put, sA, sB, sC]
      refine wpAnyH_ready (rs := [23]) (by kernel_rfl) (by simp) ?_
      refine (AllReadyH.cons (o := pro4) rfl (fun K hK => ?_) AllReadyH.nil)
      rw [if_pos (by rfl)]
      go_simp
      go_at_call 81
      refine (gand_c g x.2 y.2 p g1 r HQQ.out HGD.out.1 (by have := HBD.out; omega) (OwnC p (World.drew Y)) (World.drew Y) hi0 HGX.out).mono ?_
      rintro e wM ⟨rfl, hi2, hgx2, hof2⟩
      have hs3 := HSTD.out.step hgx2 hof2
      have hv3 := Saved.trans hdr hs3.2
      have hm3 := hof2.cell (show (World.drew Y).cell? ⟨m, 1, none⟩ = some (.slice ma nl mc) from HM1.out) (fun e => HSTD.out.apart m e (.inl rfl))
      go_wp2_with fail
      refine hK.out _ _ (HS.out _ hv3) (fun hH => ?_)
      clear hK K
      try simp only [Act.put, sA, sB, sC]
      refine wpAnyH_ready (rs := [24]) (by kernel_rfl) (by simp) ?_
      refine (AllReadyH.cons (o := pro5) rfl (fun K hK => ?_) AllReadyH.nil)
      rw [if_pos (by rfl)]
      have hm3l : wM.cell? ⟨m, 1, none⟩ = some (.slice ma l.length mc) := by rw [HNL.out]; exact hm3
      go_simp
      go_at_call 74
      refine (kept_calls (m + 1) l ma nl mc (K0 : Int) r wM (by have h9 := hs3.1.mb.rowOf hm3l; rw [HNL.out] at h9; exact h9) HNL.out (by have := HBD.out; omega) hs3.1.mb.lt).mono ?_
      rintro e wK ⟨ka, kn, kc, rfl, hko, hkl, hkg, hka⟩
      rw [← HNL.out] at hkg hka
      have hv4 := hs3.1.kept0 hm3l hkg
      have hvk := Saved.trans hv3 hv4.1
      go_wp2_with fail
      refine hK.out _ _ (HS.out _ hvk) (fun hH => ?_)
      clear hK K
      try simp only [Act.put, sA, sB, sC]
      refine tq 25 pro6 ?_ ?_ hH ?_
      rotate_left 1
      · (intro W h; go_simp <;> with_reducible rfl)
      try simp only [Act.put, sA, sB, sC]
      refine wpAnyH_ready (rs := [26]) (by kernel_rfl) (by simp) ?_
      refine (AllReadyH.cons (o := pro7) rfl (fun K hK => ?_) AllReadyH.nil)
      rw [if_pos (by rfl)]
      have k1 := hv4.2.1
      have kf := hv4.2.2
      go_simp
      clear k1 kf
      have hs5 := hs3.1.kept hm3l hkl hkg hko hka
      have hvS := Saved.trans hv3 hs5.2
      refine hK.out _ _ (HS.out _ hvS) (fun hH => ?_)
      clear hK K
      try simp only [Act.put, sA, sB, sC]
      refine wpAnyH_done (by kernel_rfl) ?_ _
      have hEND := hvS
      clear hH
      have w3 : IntKind.i64.wrap ((jy : Int) + 1) = ((jy + 1 : Nat) : Int) := by rw [IntWalk.i64_in _ (by have := HL.out; omega)]; omega
      have hll5 := kept_len l (K0 : Int) r
      have HPN := hid (show PL W5 p q s m ((k : Int) + (j : Int)) n gs gF mF (P : Int) ((b.drop (jy + 1)).map (fun y => (x, y)) ++ allPairs (a.drop (i + 1)) b) (i * nb + (jy + 1)) _ from ⟨⟨g1, _, hs5.1, HRUN.out, HNX.out.1, HNX.out.2.1, HNX.out.2.2, by have := HBD.out; have := HNL.out; omega⟩, hvS.cell HSS.out.1 HSC.out.1, hvS.cell HSS.out.1 HSC.out.2.1, (hvS s HSS.out.1).2⟩)
      have HVX := hid (And.intro (hvS bx HSY.out.2).2 (And.intro (hvS.cell HSY.out.2 HCY.out.1.1) (hvS.cell HSY.out.2 HCY.out.1.2)))
      clear hvS hs5 hs3 hv3 hv4 hvk hko hkl hkg hka hm3 hm3l hgx2 hof2 hEND hdr w1 w2 hll5 HS
      go_wp2_with fail
      go_roundg (nb - (jy + 1))
      case measure => rw [HK.out.1]; omega
      case rel => exact ⟨jy + 1, rfl, rfl, by omega, HPN.out, HVX.out⟩
     ·
      rw [if_pos (by rfl)]
      go_simp
      go_at_call 86
      refine (power_calls s n j _ ((HS.out _ hdr).2.2.1) (by have := HNK.out; omega) (by have := HNK.out; omega)).mono ?_
      rintro e w9 ⟨rfl, hw9⟩
      rw [hw9]
      clear hw9 w9
      rw [← HNK.out.2.2.2.1]
      go_wp2_with fail
      refine hK.out _ _ (HS.out _ hdr) (fun hH => ?_)
      clear hK K
      try simp only [Act.put, sA, sB, sC]
      refine tq 8 pro2 ?_ ?_ hH ?_
      rotate_left 1
      · (intro W h; go_simp <;> with_reducible rfl)
      try simp only [Act.put, sA, sB, sC]
      refine tq 11 pro3 ?_ ?_ hH ?_
      rotate_left 1
      · (intro W h; go_simp <;> with_reducible rfl)
      try simp only [Act.put, sA, sB, sC]
      refine wpAnyH_ready (rs := [1, 23]) (by kernel_rfl) (by simp) ?_
      refine (AllReadyH.cons (o := pro0) rfl (fun K hK => ?_) (AllReadyH.cons (o := pro4) rfl (fun K hK => ?_) AllReadyH.nil))
      ·
       rw [if_pos (by rfl)]
       have k1 := (show (World.drew Y).cell? ⟨m, 1, none⟩ = some (.slice ma nl mc) from HM1.out)
       go_simp
       clear k1
       refine hK.out _ _ (HS.out _ hdr) (fun hH => ?_)
       clear hK K
       try simp only [Act.put, sA, sB, sC]
       refine wpAnyH_ready (rs := [23]) (by kernel_rfl) (by simp) ?_
       refine (AllReadyH.cons (o := pro4) rfl (fun K hK => ?_) AllReadyH.nil)
       rw [if_pos (by rfl)]
       go_simp
       go_at_call 81
       refine (gand_c g x.2 y.2 p g1 r HQQ.out HGD.out.1 (by have := HBD.out; omega) (OwnC p (World.drew Y)) (World.drew Y) hi0 HGX.out).mono ?_
       rintro e wM ⟨rfl, hi2, hgx2, hof2⟩
       have hs3 := HSTD.out.step hgx2 hof2
       have hv3 := Saved.trans hdr hs3.2
       have hm3 := hof2.cell (show (World.drew Y).cell? ⟨m, 1, none⟩ = some (.slice ma nl mc) from HM1.out) (fun e => HSTD.out.apart m e (.inl rfl))
       go_wp2_with fail
       refine hK.out _ _ (HS.out _ hv3) (fun hH => ?_)
       clear hK K
       try simp only [Act.put, sA, sB, sC]
       refine wpAnyH_ready (rs := [24]) (by kernel_rfl) (by simp) ?_
       refine (AllReadyH.cons (o := pro5) rfl (fun K hK => ?_) AllReadyH.nil)
       rw [if_pos (by rfl)]
       have hm3l : wM.cell? ⟨m, 1, none⟩ = some (.slice ma l.length mc) := by rw [HNL.out]; exact hm3
       go_simp
       go_at_call 74
       refine (kept_calls (m + 1) l ma nl mc (K0 : Int) r wM (by have h9 := hs3.1.mb.rowOf hm3l; rw [HNL.out] at h9; exact h9) HNL.out (by have := HBD.out; omega) hs3.1.mb.lt).mono ?_
       rintro e wK ⟨ka, kn, kc, rfl, hko, hkl, hkg, hka⟩
       rw [← HNL.out] at hkg hka
       have hv4 := hs3.1.kept0 hm3l hkg
       have hvk := Saved.trans hv3 hv4.1
       go_wp2_with fail
       refine hK.out _ _ (HS.out _ hvk) (fun hH => ?_)
       clear hK K
       try simp only [Act.put, sA, sB, sC]
       refine tq 25 pro6 ?_ ?_ hH ?_
       rotate_left 1
       · (intro W h; go_simp <;> with_reducible rfl)
       try simp only [Act.put, sA, sB, sC]
       refine wpAnyH_ready (rs := [26]) (by kernel_rfl) (by simp) ?_
       refine (AllReadyH.cons (o := pro7) rfl (fun K hK => ?_) AllReadyH.nil)
       rw [if_pos (by rfl)]
       have k1 := hv4.2.1
       have kf := hv4.2.2
       go_simp
       clear k1 kf
       have hs5 := hs3.1.kept hm3l hkl hkg hko hka
       have hvS := Saved.trans hv3 hs5.2
       refine hK.out _ _ (HS.out _ hvS) (fun hH => ?_)
       clear hK K
       try simp only [Act.put, sA, sB, sC]
       refine wpAnyH_done (by kernel_rfl) ?_ _
       have hEND := hvS
       clear hH
       have w3 : IntKind.i64.wrap ((jy : Int) + 1) = ((jy + 1 : Nat) : Int) := by rw [IntWalk.i64_in _ (by have := HL.out; omega)]; omega
       have hll5 := kept_len l (K0 : Int) r
       have HPN := hid (show PL W5 p q s m ((k : Int) + (j : Int)) n gs gF mF (P : Int) ((b.drop (jy + 1)).map (fun y => (x, y)) ++ allPairs (a.drop (i + 1)) b) (i * nb + (jy + 1)) _ from ⟨⟨g1, _, hs5.1, HRUN.out, HNX.out.1, HNX.out.2.1, HNX.out.2.2, by have := HBD.out; have := HNL.out; omega⟩, hvS.cell HSS.out.1 HSC.out.1, hvS.cell HSS.out.1 HSC.out.2.1, (hvS s HSS.out.1).2⟩)
       have HVX := hid (And.intro (hvS bx HSY.out.2).2 (And.intro (hvS.cell HSY.out.2 HCY.out.1.1) (hvS.cell HSY.out.2 HCY.out.1.2)))
       clear hvS hs5 hs3 hv3 hv4 hvk hko hkl hkg hka hm3 hm3l hgx2 hof2 hEND hdr w1 w2 hll5 HS
       go_wp2_with fail
       go_roundg (nb - (jy + 1))
       case measure => rw [HK.out.1]; omega
       case rel => exact ⟨jy + 1, rfl, rfl, by omega, HPN.out, HVX.out⟩
      ·
       rw [if_pos (by rfl)]
       go_simp
       go_at_call 81
       refine (gand_c g x.2 y.2 p g1 r HQQ.out HGD.out.1 (by have := HBD.out; omega) (OwnC p (World.drew Y)) (World.drew Y) hi0 HGX.out).mono ?_
       rintro e wM ⟨rfl, hi2, hgx2, hof2⟩
       have hs3 := HSTD.out.step hgx2 hof2
       have hv3 := Saved.trans hdr hs3.2
       have hm3 := hof2.cell (show (World.drew Y).cell? ⟨m, 1, none⟩ = some (.slice ma nl mc) from HM1.out) (fun e => HSTD.out.apart m e (.inl rfl))
       go_wp2_with fail
       refine hK.out _ _ (HS.out _ hv3) (fun hH => ?_)
       clear hK K
       try simp only [Act.put, sA, sB, sC]
       refine wpAnyH_ready (rs := [1]) (by kernel_rfl) (by simp) ?_
       refine (AllReadyH.cons (o := pro0) rfl (fun K hK => ?_) AllReadyH.nil)
       rw [if_pos (by rfl)]
       have k1 := hm3
       go_simp
       clear k1
       refine hK.out _ _ (HS.out _ hv3) (fun hH => ?_)
       clear hK K
       try simp only [Act.put, sA, sB, sC]
       refine wpAnyH_ready (rs := [24]) (by kernel_rfl) (by simp) ?_
       refine (AllReadyH.cons (o := pro5) rfl (fun K hK => ?_) AllReadyH.nil)
       rw [if_pos (by rfl)]
       have hm3l : wM.cell? ⟨m, 1, none⟩ = some (.slice ma l.length mc) := by rw [HNL.out]; exact hm3
       go_simp
       go_at_call 74
       refine (kept_calls (m + 1) l ma nl mc (K0 : Int) r wM (by have h9 := hs3.1.mb.rowOf hm3l; rw [HNL.out] at h9; exact h9) HNL.out (by have := HBD.out; omega) hs3.1.mb.lt).mono ?_
       rintro e wK ⟨ka, kn, kc, rfl, hko, hkl, hkg, hka⟩
       rw [← HNL.out] at hkg hka
       have hv4 := hs3.1.kept0 hm3l hkg
       have hvk := Saved.trans hv3 hv4.1
       go_wp2_with fail
       refine hK.out _ _ (HS.out _ hvk) (fun hH => ?_)
       clear hK K
       try simp only [Act.put, sA, sB, sC]
       refine tq 25 pro6 ?_ ?_ hH ?_
       rotate_left 1
       · (intro W h; go_simp <;> with_reducible rfl)
       try simp only [Act.put, sA, sB, sC]
       refine wpAnyH_ready (rs := [26]) (by kernel_rfl) (by simp) ?_
       refine (AllReadyH.cons (o := pro7) rfl (fun K hK => ?_) AllReadyH.nil)
       rw [if_pos (by rfl)]
       have k1 := hv4.2.1
       have kf := hv4.2.2
       go_simp
       clear k1 kf
       have hs5 := hs3.1.kept hm3l hkl hkg hko hka
       have hvS := Saved.trans hv3 hs5.2
       refine hK.out _ _ (HS.out _ hvS) (fun hH => ?_)
       clear hK K
       try simp only [Act.put, sA, sB, sC]
       refine wpAnyH_done (by kernel_rfl) ?_ _
       have hEND := hvS
       clear hH
       have w3 : IntKind.i64.wrap ((jy : Int) + 1) = ((jy + 1 : Nat) : Int) := by rw [IntWalk.i64_in _ (by have := HL.out; omega)]; omega
       have hll5 := kept_len l (K0 : Int) r
       have HPN := hid (show PL W5 p q s m ((k : Int) + (j : Int)) n gs gF mF (P : Int) ((b.drop (jy + 1)).map (fun y => (x, y)) ++ allPairs (a.drop (i + 1)) b) (i * nb + (jy + 1)) _ from ⟨⟨g1, _, hs5.1, HRUN.out, HNX.out.1, HNX.out.2.1, HNX.out.2.2, by have := HBD.out; have := HNL.out; omega⟩, hvS.cell HSS.out.1 HSC.out.1, hvS.cell HSS.out.1 HSC.out.2.1, (hvS s HSS.out.1).2⟩)
       have HVX := hid (And.intro (hvS bx HSY.out.2).2 (And.intro (hvS.cell HSY.out.2 HCY.out.1.1) (hvS.cell HSY.out.2 HCY.out.1.2)))
       clear hvS hs5 hs3 hv3 hv4 hvk hko hkl hkg hka hm3 hm3l hgx2 hof2 hEND hdr w1 w2 hll5 HS
       go_wp2_with fail
       go_roundg (nb - (jy + 1))
       case measure => rw [HK.out.1]; omega
       case rel => exact ⟨jy + 1, rfl, rfl, by omega, HPN.out, HVX.out⟩
    ·
     have f1 : decide (jy < nb) = false := decide_eq_false hjn
     have f2 : decide ((jy : Int) < (nb : Int)) = false := decide_eq_false (by omega)
     obtain rfl : jy = nb := by omega
     have w3 : IntKind.i64.wrap ((i : Int) + 1) = ((i + 1 : Nat) : Int) := by rw [IntWalk.i64_in _ (by have := HL.out; omega)]; omega
     have HFE := hid (show PL W5 p q s m ((k : Int) + (j : Int)) n gs gF mF (P : Int) (allPairs (a.drop (i + 1)) b) ((i + 1) * jy) wr from by
      have h9 := HK.out.2.1
      rw [List.drop_eq_nil_of_le (by rw [HN.out.2.2]; exact Nat.le_refl _), List.map_nil, List.nil_append] at h9
      rw [Nat.succ_mul]
      exact h9)
     clear hjn hj hx0 hx1
     go_wp2_with fail
     go_roundg (na - (i + 1))
     case measure => rw [HI.out.1]; omega
     case rel => exact ⟨i + 1, rfl, rfl, by omega, HFE.out⟩
  ·
   have f1 : decide (i < na) = false := decide_eq_false hin
   have f2 : decide ((i : Int) < (na : Int)) = false := decide_eq_false (by omega)
   obtain rfl : i = na := by omega
   obtain ⟨g, l, hst, hrun, hgd, hpx, hgl, hll⟩ := HI.out.2.ex
   rw [List.drop_eq_nil_of_le (by rw [HN.out.2.1]; exact Nat.le_refl _)] at hrun
   have e9 : (g, l) = (gF, mF) := hrun
   injection e9 with e1 e2
   rw [e1] at hst hgd hgl
   rw [e2] at hst hll
   clear e1 e2 hrun hpx
   obtain ⟨gW, hgW⟩ : ∃ z, gF = z := ⟨_, rfl⟩
   obtain ⟨lW, hlW⟩ : ∃ z, mF = z := ⟨_, rfl⟩
   obtain ⟨b6, hb6⟩ : ∃ z, w.heap.size + 3 = z := ⟨_, rfl⟩
   obtain ⟨b7, hb7⟩ : ∃ z, w.heap.size + 4 = z := ⟨_, rfl⟩
   have HWC := hid (show w.heap.size ≤ b6 ∧ b6 < b7 ∧ b7 < p ∧ p < m ∧ b7 < q ∧ b7 < s ∧ q < m ∧ s < m ∧ p ≠ q ∧ p ≠ s from by have h1 := HWB.out; have h2 := HZ2.out; omega)
   have hgw := HI.out.2.grown
   have ra : W5.cell? ⟨b6, 0, none⟩ = some (.slice none 0 0) := by rw [← hb6]; exact HB.out.r
   have rb : W5.frozen? ⟨b6, 0, none⟩ = false := by rw [← hb6]; exact HB.out.rf
   have rc : W5.cell? ⟨b7, 0, none⟩ = some (.int .i64 0) := by rw [← hb7]; exact HB.out.s0
   have rd : W5.frozen? ⟨b7, 0, none⟩ = false := by rw [← hb7]; exact HB.out.sf0
   have re : W5.cell? ⟨b7, 1, none⟩ = some (.slice none 0 0) := by rw [← hb7]; exact HB.out.s1
   have rf : W5.frozen? ⟨b7, 1, none⟩ = false := by rw [← hb7]; exact HB.out.sf1
   have R6 := hid (show Rc wr b6 0 _ from ⟨hgw.cell ra (by simp), (grown_frozen hgw (lies_lt ra) 0).trans rb⟩)
   have R70 := hid (show Rc wr b7 0 _ from ⟨hgw.cell rc (by simp), (grown_frozen hgw (lies_lt rc) 0).trans rd⟩)
   have R71 := hid (show Rc wr b7 1 _ from ⟨hgw.cell re (by simp), (grown_frozen hgw (lies_lt re) 1).trans rf⟩)
   clear ra rb rc rd re rf
   have HTY := hid (show Ty26 wr b7 from (show Ty26 W5 b7 from by rw [← hb7]; exact HB.out.ty).grown hgw (by simp))
   obtain ⟨hi, hgx⟩ := hst.gx
   have HGX2 := hid hgx
   have HNO := hid (show ¬ OwnC p wr b7 from fun e => by have h8 := (hgx.own_lt e).1; have := HWC.out; omega)
   have HST := hid hst
   obtain ⟨nl, hnl⟩ : ∃ z, mF.length = z := ⟨_, rfl⟩
   obtain ⟨ma, mc, hm1, hmo⟩ := hst.mb.row
   have HROW := hid (show Span (m + 1) wr.heap.size wr (fun W => CellsW W ma mc mF) from by obtain ⟨a9, c9, e9, hs9⟩ := cells_span hmo; cases e9; exact hs9)
   rw [hnl] at hm1
   have HM1 := hid hm1
   have HNL := hid hnl
   have HFG := hid (show w.grownBy wr.drew none from gT HB.out.g (gT hst.grown ⟨rfl, rfl, rfl, Nat.le_refl _, fun _ _ _ => rfl⟩))
   have HBD := hid (show gF.length ≤ 1000 from by have h1 := HN.out; have h2 := HL.out; omega)
   have HSS := hid (And.intro HI.out.2.s0 HI.out.2.s1)
   clear hst hgd hgl hll hgw hgx hm1 hmo hnl hin hgW hlW
   have e7 : w.heap.size + 1 + 1 + 1 + 1 = b7 := hb7
   have e6 : w.heap.size + 1 + 1 + 1 = b6 := hb6
   rw [e7, e6]
   clear e7 e6 hb6 hb7
   go_upto_region 12 with fail
   have r6 := R6.out
   have r70 := R70.out
   have r71 := R71.out
   have hx : GX p (OwnC p wr) wr.drew gF hi := HGX2.out.grown ⟨rfl, rfl, rfl, Nat.le_refl _, fun _ _ _ => rfl⟩
   have hty : Ty26 wr.drew b7 := HTY.out
   replace r6 : Rc wr.drew b6 0 _ := r6
   replace r70 : Rc wr.drew b7 0 _ := r70
   replace r71 : Rc wr.drew b7 1 _ := r71
   have HS := hid (fun (Wh : World) (hWh : FinA w wr (fun k => k = s ∨ k = q ∨ k = m) (m + 1) ma mc mF Wh) => (⟨(World.cell?_of_block (a := ⟨s, 0, none⟩) (hWh.kp s (.inl rfl) (lies_lt HSS.out.1))).trans HSS.out.1, (World.cell?_of_block (a := ⟨q, 0, none⟩) (hWh.kp q (.inr (.inl rfl)) (lies_lt HST.out.q0))).trans HST.out.q0, (World.cell?_of_block (a := ⟨m, 0, none⟩) (hWh.kp m (.inr (.inr rfl)) HST.out.mb.lt)).trans HST.out.mb.c0, (World.cell?_of_block (a := ⟨m, 1, none⟩) (hWh.kp m (.inr (.inr rfl)) HST.out.mb.lt)).trans HM1.out⟩ : (fun Wh : World => Wh.cell? ⟨s, 0, none⟩ = some (.pointer (some ⟨q, 0, none⟩)) ∧ Wh.cell? ⟨q, 0, none⟩ = some (.pointer (some ⟨p, 0, none⟩)) ∧ Wh.cell? ⟨m, 0, none⟩ = some (.int .i64 ((k : Int) + (j : Int))) ∧ Wh.cell? ⟨m, 1, none⟩ = some (.slice ma nl mc)) Wh))
   have hdr : FinA w wr (fun k => k = s ∨ k = q ∨ k = m) (m + 1) ma mc mF wr.drew := ⟨fun _ _ _ => rfl, HROW.out, HFG.out⟩
   refine wp_region_held_drew (S := (fun Wh : World => Wh.cell? ⟨s, 0, none⟩ = some (.pointer (some ⟨q, 0, none⟩)) ∧ Wh.cell? ⟨q, 0, none⟩ = some (.pointer (some ⟨p, 0, none⟩)) ∧ Wh.cell? ⟨m, 0, none⟩ = some (.int .i64 ((k : Int) + (j : Int))) ∧ Wh.cell? ⟨m, 1, none⟩ = some (.slice ma nl mc))) (by kernel_rfl) (HS.out _ hdr) (fun hH => ?_)
   refine tq 0 ({ dst := some 67, op := Op.move (Operand.tmp 10), type := 93, pos := "matrix.go:97", after := #[], guard := none }) ?_ ?_ hH ?_
   rotate_left 1
   · (intro W h; go_simp <;> with_reducible rfl)
   try simp only [Act.put, sA, sB, sC]
   refine tq 1 ({ dst := some 68, op := Op.nilCheck (Operand.tmp 67), type := 0, pos := "matrix.go:97", after := #[{ on := 0, ground := Ground.data }], guard := none }) ?_ ?_ hH ?_
   rotate_left 1
   · (intro W h; go_simp <;> with_reducible rfl)
   try simp only [Act.put, sA, sB, sC]
   refine tq 2 ({ dst := some 69, op := Op.fieldAddr 97 (Operand.tmp 68) 0, type := 0, pos := "matrix.go:97", after := #[{ on := 1, ground := Ground.data }], guard := none }) ?_ ?_ hH ?_
   rotate_left 1
   · (intro W h; go_simp <;> with_reducible rfl)
   try simp only [Act.put, sA, sB, sC]
   refine tq 3 ({ dst := some 70, op := Op.load 77 (Operand.tmp 69), type := 77, pos := "matrix.go:97", after := #[{ on := 2, ground := Ground.data }], guard := none }) ?_ ?_ hH ?_
   rotate_left 1
   · (intro W h; go_simp <;> with_reducible rfl)
   try simp only [Act.put, sA, sB, sC]
   refine tq 4 ({ dst := some 71, op := Op.nilCheck (Operand.tmp 70), type := 0, pos := "matrix.go:97", after := #[{ on := 3, ground := Ground.data }], guard := none }) ?_ ?_ hH ?_
   rotate_left 1
   · (intro W h; go_simp <;> with_reducible rfl)
   try simp only [Act.put, sA, sB, sC]
   refine tq 5 ({ dst := some 72, op := Op.fieldAddr 88 (Operand.tmp 71) 0, type := 0, pos := "matrix.go:97", after := #[{ on := 4, ground := Ground.data }], guard := none }) ?_ ?_ hH ?_
   rotate_left 1
   · (intro W h; go_simp <;> with_reducible rfl)
   try simp only [Act.put, sA, sB, sC]
   refine tq 6 ({ dst := some 73, op := Op.load 86 (Operand.tmp 72), type := 86, pos := "matrix.go:97", after := #[{ on := 5, ground := Ground.data }], guard := none }) ?_ ?_ hH ?_
   rotate_left 1
   · (intro W h; go_simp <;> with_reducible rfl)
   try simp only [Act.put, sA, sB, sC]
   refine tq 8 ({ dst := some 75, op := Op.load 26 (Operand.tmp 11), type := 26, pos := "matrix.go:97", after := #[{ on := 9, ground := Ground.gcOnly Departure.lateStores }], guard := none }) ?_ ?_ hH ?_
   rotate_left 1
   · (intro W h; go_simp <;> with_reducible rfl)
   try simp only [Act.put, sA, sB, sC]
   refine wpAnyH_ready (rs := [7]) (by kernel_rfl) (by simp) ?_
   refine (AllReadyH.cons (o := { dst := some 74, op := Op.call { callee := Callee.value (Operand.func 76), args := #[Operand.tmp 73], argTypes := #[86] }, type := 30, pos := "matrix.go:97", after := #[{ on := 6, ground := Ground.data }], guard := none }) rfl (fun K hK => ?_) AllReadyH.nil)
   rw [if_pos (by rfl)]
   go_simp
   go_at_call 76
   refine (gcircuit_off gF p (OwnC p wr) wr.drew hi hx HBD.out).mono ?_
   rintro e wM ⟨ca1, cc1, rfl, hsp, hof⟩
   have hf := hdr.step hof (fun k e => by have e2 : k = p := e; have := HWC.out; refine ⟨by omega, ?_, by omega⟩; rintro (h | h | h) <;> omega)
   replace r6 := r6.step hof (fun e => by have e2 : b6 = p := e; have := HWC.out; omega)
   replace r70 := r70.step hof (fun e => by have e2 : b7 = p := e; have := HWC.out; omega)
   replace r71 := r71.step hof (fun e => by have e2 : b7 = p := e; have := HWC.out; omega)
   clear hof hx hty
   go_wp2_with fail
   refine hK.out _ _ (HS.out _ hf) (fun hH => ?_)
   clear hK K
   try simp only [Act.put, sA, sB, sC]
   refine wpAnyH_ready (rs := [9]) (by kernel_rfl) (by simp) ?_
   refine (AllReadyH.cons (o := { dst := none, op := Op.store 30 (Operand.tmp 8) (Operand.tmp 74), type := 0, pos := "matrix.go:97", after := #[{ on := 7, ground := Ground.data }, { on := 7, ground := Ground.chain }, { on := 0, ground := Ground.phase }, { on := 1, ground := Ground.phase }, { on := 2, ground := Ground.phase }, { on := 3, ground := Ground.phase }, { on := 4, ground := Ground.phase }, { on := 5, ground := Ground.phase }, { on := 6, ground := Ground.phase }, { on := 7, ground := Ground.phase }, { on := 8, ground := Ground.textOnly Departure.lateStores }], guard := none }) rfl (fun K hK => ?_) AllReadyH.nil)
   rw [if_pos (by rfl)]
   have k1 := r6.1
   have kf := r6.2
   go_simp
   clear k1 kf
   have hof := off_set wM b6 0 (.slice ca1 gF.length cc1)
   have hf6 := hf.step hof (fun k e => by have e2 : k = b6 := e; have := HWC.out; refine ⟨by omega, ?_, by omega⟩; rintro (h | h | h) <;> omega)
   replace r6 := r6.set (.slice ca1 gF.length cc1)
   replace r70 := r70.step hof (fun e => by have e2 : b7 = b6 := e; have := HWC.out; omega)
   replace r71 := r71.step hof (fun e => by have e2 : b7 = b6 := e; have := HWC.out; omega)
   replace hsp := hsp.away hof (fun k e => by have e2 : k = b6 := e; have := HWC.out; omega)
   clear hof
   refine hK.out _ _ (HS.out _ hf6) (fun hH => ?_)
   clear hK K
   try simp only [Act.put, sA, sB, sC]
   refine wpAnyH_ready (rs := [10]) (by kernel_rfl) (by simp) ?_
   refine (AllReadyH.cons (o := { dst := none, op := Op.store 26 (Operand.tmp 9) (Operand.tmp 75), type := 0, pos := "matrix.go:97", after := #[{ on := 8, ground := Ground.data }, { on := 9, ground := Ground.chain }, { on := 0, ground := Ground.phase }, { on := 1, ground := Ground.phase }, { on := 2, ground := Ground.phase }, { on := 3, ground := Ground.phase }, { on := 4, ground := Ground.phase }, { on := 5, ground := Ground.phase }, { on := 6, ground := Ground.phase }, { on := 7, ground := Ground.phase }, { on := 8, ground := Ground.phase }, { on := 9, ground := Ground.phase }], guard := none }) rfl (fun K hK => ?_) AllReadyH.nil)
   rw [if_pos (by rfl)]
   have k1 := r70.1
   have kf := r70.2
   have k2 := r71.1
   have kg := r71.2
   go_simp
   clear k1 kf k2 kg
   have hof := off_set2 (World.setCell wM ⟨b6, 0, none⟩ (.slice ca1 gF.length cc1)) b7 (.int .i64 ((k : Int) + (j : Int))) (.slice ma nl mc)
   have hf7 := hf6.step hof (fun k e => by have e2 : k = b7 := e; have := HWC.out; refine ⟨by omega, ?_, by omega⟩; rintro (h | h | h) <;> omega)
   replace r6 := r6.step hof (fun e => by have e2 : b6 = b7 := e; have := HWC.out; omega)
   replace r70 := (r70.set (.int .i64 ((k : Int) + (j : Int)))).other (o' := 1) (by decide) (.slice ma nl mc)
   replace r71 := (r71.other (o' := 0) (by decide) (.int .i64 ((k : Int) + (j : Int)))).set (.slice ma nl mc)
   replace hsp := hsp.away hof (fun k e => by have e2 : k = b7 := e; have := HWC.out; omega)
   clear hof
   refine hK.out _ _ (HS.out _ hf7) (fun hH => ?_)
   clear hK K
   try simp only [Act.put, sA, sB, sC]
   refine wpAnyH_done (by kernel_rfl) ?_ _
   have hEND := hf7
   clear hH
   go_wp2_with fail
   exact bodyPost_ret (resM42 _ _ b6 b7 _ _ _ _ _ rfl rfl r6.1 r70.1 r71.1) rfl ⟨ca1, cc1, ma, nl, mc, rfl, HNL.out, hsp.here, hEND.row.here, hEND.gw⟩
end Go.Proofs.Ythdhmflodiincaa

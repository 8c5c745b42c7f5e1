/- Texts of the proof: UD. -/
import Derived.Test.YthdhmflodiincaaGreatCB17
import Derived.Test.YthdhmflodiincaaGreatCB09
import Derived.Test.YthdhmflodiincaaGreatCB00
import Derived.Deep.DeepCutAuto
set_option maxRecDepth 100000
set_option maxHeartbeats 8000000
namespace Go.Proofs.YthdhmflodiincaaGreat
open Go.RowKit Go.Maps

theorem cloneC_calls (zs : List Cl) (a : Option Addr) (c n : Nat) (w : World) (hn : zs.length = n) (h : CellsW w a c zs) (hl : n ≤ 50000) :
    Calls Tryz.prog 107 #[.slice a n c] w fun e w' => ∃ a' c', e = .returned (.slice a' n c') ∧ CellsW w' a' c' zs ∧ w.grownBy w' none := by
  have HN := Lib.hid hn; clear hn
  have q28 : ∀ (w : World) (a : Option Addr) (n c n' c' : Nat), (binOp .eql 33 (.slice a n c) (.slice none n' c')).run Tryz.prog w = .ok (.bool a.isNone) w := fun w a n c n' c' => Lib.run_eql_slice_nil w _ _ a n c n' c' Tryz.underlying33
  cases a with
  | none =>
    obtain rfl : zs = [] := by
      obtain ⟨_, h | ⟨_, _, e, _⟩⟩ := h
      · exact h
      · cases e
    have hn0 : n = 0 := by rw [← HN.out]; rfl
    subst hn0
    go_enter Tryz.func107, Tryz.ntmps107
    go_wp2_with fail
    go_ret
    exact ⟨none, 0, rfl, ⟨Nat.le_refl _, .inl rfl⟩, grown_refl _ _⟩
  | some ad =>
    have HH := Lib.hid h; clear h
    go_enter Tryz.func107, Tryz.ntmps107
    go_wp2_with (at_builtin; refine append_cells rfl _ _ rfl w.heap.size _ 0 [] rfl (World.ownsRow_made w #[] 0 (Nat.le_refl _) (Nat.zero_le _) rfl) (some ad) n c zs rfl HN.out (HH.out.grown (World.grownBy_alloc w _ none)) (by omega) (World.grownBy.size (World.grownBy_alloc w (.cells #[] 70) none)) ?_)
    intro v' w1 hown hgrow
    have hown' : w1.ownsRow w.heap.size 70 2 v' zs.length (clCells zs) := by rw [HN.out]; simpa using hown
    obtain ⟨a', c', rfl, hi⟩ := cells_span hown'
    have HR := Lib.hid hi; clear hi hown hown'
    have HG : Hid (w.grownBy w1 none) := Lib.hid (grown_own (World.grownBy_alloc w _ none) hgrow (fun k hk => by simp [Value.ownBlock] at hk; omega))
    clear hgrow
    rw [HN.out]
    go_wp2_with fail
    go_ret
    exact ⟨a', c', rfl, HR.out.here, HG.out⟩
def TF (w : World) (b : Nat) (r : Nat) (fv : Value) : Prop := w.cell? ⟨b, 0, none⟩ = some (.int .i64 (r : Int)) ∧ w.cell? ⟨b, 1, none⟩ = some fv
theorem TF.grown {w w' : World} {b r : Nat} {fv : Value} (h : TF w b r fv) (hg : w.grownBy w' none) : TF w' b r fv := ⟨hg.cell h.1 (by simp), hg.cell h.2 (by simp)⟩
theorem TF.setc {w : World} {b b' r : Nat} {fv : Value} (h : TF w b r fv) (v : Value) (hne : b' ≠ b) : TF (w.setCell ⟨b', 0, none⟩ v) b r fv :=
  ⟨(World.cell?_setCell_other _ _ _ _ (fun e => hne (by injection e))).trans h.1, (World.cell?_setCell_other _ _ _ _ (fun e => hne (by injection e))).trans h.2⟩
theorem TF.setm {w : World} {b b' r : Nat} {fv : Value} (h : TF w b r fv) (u v : Value) (hne : b' ≠ b) : TF (laidX w b' u v) b r fv :=
  ⟨(laidX_other (fun e => hne (by injection e)) (fun e => hne (by injection e))).trans h.1, (laidX_other (fun e => hne (by injection e)) (fun e => hne (by injection e))).trans h.2⟩
theorem boxes5 (w : World) (r : Nat) (fv : Value) (xa : Option Addr) (ng xc : Nat) (ma : Option Addr) (nm mc : Nat) :
    ∃ W b0 b1 b2 b3 b4, ((((w.alloc (.cells #[.int .i64 (r : Int), fv] 127)).alloc (.cells #[.slice xa ng xc] 27)).alloc (.cells #[.int .i64 2, .slice ma nm mc] 35)).alloc (.cells #[.slice none 0 0] 27)).alloc (.cells #[.int .i64 0, .slice none 0 0] 35) = W ∧ w.grownBy W none ∧ W.heap.size = w.heap.size + 5 ∧ (w.heap.size = b0 ∧ w.heap.size + 1 = b1 ∧ w.heap.size + 1 + 1 = b2 ∧ w.heap.size + 1 + 1 + 1 = b3 ∧ w.heap.size + 1 + 1 + 1 + 1 = b4) ∧
      TF W b0 r fv ∧ CF W b1 xa ng xc ∧ MF W b2 2 ma nm mc ∧ CF W b3 none 0 0 ∧ MF W b4 0 none 0 0 :=
  ⟨_, _, _, _, _, _, rfl, ((((World.grownBy_alloc w _ none).trans (World.grownBy_alloc _ _ none)).trans (World.grownBy_alloc _ _ none)).trans (World.grownBy_alloc _ _ none)).trans (World.grownBy_alloc _ _ none), by simp, ⟨rfl, rfl, rfl, rfl, rfl⟩,
    ⟨by go_simp, by go_simp⟩, ⟨by go_simp, by go_simp⟩, ⟨by go_simp, by go_simp, by go_simp, by go_simp⟩, ⟨by go_simp, by go_simp⟩, ⟨by go_simp, by go_simp, by go_simp, by go_simp⟩⟩
abbrev it2o0 : Oper := { dst := some 13, op := Op.fieldAddr 35 (Operand.tmp 5) 0, type := 0, pos := "closure.go:21", after := #[], guard := none }
abbrev it2o1 : Oper := { dst := some 14, op := Op.load 3 (Operand.tmp 13), type := 3, pos := "closure.go:21", after := #[{ on := 0, ground := Ground.data }], guard := none }
abbrev it2o2 : Oper := { dst := some 15, op := Op.fieldAddr 35 (Operand.tmp 5) 1, type := 0, pos := "closure.go:21", after := #[], guard := none }
abbrev it2o3 : Oper := { dst := some 16, op := Op.load 33 (Operand.tmp 15), type := 33, pos := "closure.go:21", after := #[{ on := 2, ground := Ground.data }], guard := none }
abbrev it2o4 : Oper := { dst := some 17, op := Op.call { callee := Callee.value (Operand.func 107), args := #[Operand.tmp 16], argTypes := #[33] }, type := 33, pos := "closure.go:21", after := #[{ on := 3, ground := Ground.data }], guard := none }
abbrev it2o5 : Oper := { dst := some 18, op := Op.build 35 #[(0, Operand.tmp 14), (1, Operand.tmp 17)], type := 35, pos := "closure.go:21", after := #[{ on := 1, ground := Ground.data }, { on := 4, ground := Ground.data }], guard := none }
abbrev it2o6 : Oper := { dst := some 8, op := Op.alloc 35, type := 0, pos := "closure.go:21", after := #[], guard := none }
abbrev it2o7 : Oper := { dst := none, op := Op.store 35 (Operand.tmp 8) (Operand.tmp 18), type := 0, pos := "closure.go:21", after := #[{ on := 6, ground := Ground.data }, { on := 5, ground := Ground.data }, { on := 4, ground := Ground.chain }, { on := 0, ground := Ground.phase }, { on := 1, ground := Ground.phase }, { on := 2, ground := Ground.phase }, { on := 3, ground := Ground.phase }, { on := 4, ground := Ground.phase }, { on := 5, ground := Ground.phase }, { on := 6, ground := Ground.phase }], guard := none }
def it2Ops : Array Oper := #[it2o0, it2o1, it2o2, it2o3, it2o4, it2o5, it2o6, it2o7]
def it2P (V : World) (b2 nm : Nat) (ma : Option Addr) (mc : Nat) : World → Prop := (fun Wh : World => V.grownBy Wh none ∧ Wh.cell? ⟨b2, 0, none⟩ = some (.int .i64 2) ∧ Wh.cell? ⟨b2, 1, none⟩ = some (.slice ma nm mc))
theorem it2S {V W : World} {b2 nm : Nat} {m : List Cl} {ma : Option Addr} {mc : Nat} (h : MF V b2 2 ma nm mc ∧ CellsW V ma mc m ∧ m.length = nm ∧ nm ≤ 50000) (HG : V.grownBy W none) : (it2P V b2 nm ma mc) W := ⟨HG, (h.1.grown HG).1, (h.1.grown HG).2.1⟩
def it2F (Q : Exit → Act → World → Prop) (V : World) (m : List Cl) (nm b0 b1 b2 b3 b4 : Nat) : Prop := ∀ (a4 : Option Addr) (c4 : Nat) (p6 : Nat) (u0 u1 u2 u9 u10 u11 u12 u13 u14 u15 u16 u17 u18 u19 u20 u21 u22 u23 u24 u25 u26 u27 u28 u29 u30 u31 u32 u33 : Value) (W : World), V.grownBy W none → CellsW W a4 c4 m → V.heap.size ≤ p6 → MF W p6 2 a4 nm c4 → Q .normal ⟨#[u0, u1, u2, .pointer (some ⟨b0, 0, none⟩), .pointer (some ⟨b1, 0, none⟩), .pointer (some ⟨b2, 0, none⟩), .pointer (some ⟨b3, 0, none⟩), .pointer (some ⟨b4, 0, none⟩), .pointer (some ⟨p6, 0, none⟩), u9, u10, u11, u12, u13, u14, u15, u16, u17, u18, u19, u20, u21, u22, u23, u24, u25, u26, u27, u28, u29, u30, u31, u32, u33], []⟩ W
def it2f (t : Nat → Value) (_m : List Cl) (_nm b0 b1 b2 b3 b4 : Nat) (v8 v13 v14 v15 v16 v17 v18 : Value) : Act := ⟨#[t 0, t 1, t 2, .pointer (some ⟨b0, 0, none⟩), .pointer (some ⟨b1, 0, none⟩), .pointer (some ⟨b2, 0, none⟩), .pointer (some ⟨b3, 0, none⟩), .pointer (some ⟨b4, 0, none⟩), v8, t 9, t 10, t 11, t 12, v13, v14, v15, v16, v17, v18, t 19, t 20, t 21, t 22, t 23, t 24, t 25, t 26, t 27, t 28, t 29, t 30, t 31, t 32, t 33], []⟩
section
variable {Q : Exit → Act → World → Prop} {V W : World} {b0 b1 b2 b3 b4 nm : Nat} {m : List Cl} {ma : Option Addr} {mc : Nat} {L : Array Bool} {t : Nat → Value}
theorem it20 (_hp : ∀ c a d v w, Q (.panic c) (Act.put a d v) w → Q (.panic c) a w) {a4 : Option Addr} {c4 : Nat} {p6 : Nat} (hl : L = #[true, true, true, true, true, true, true, true]) (_HB : Hid (MF V b2 2 ma nm mc ∧ CellsW V ma mc m ∧ m.length = nm ∧ nm ≤ 50000)) (HG : V.grownBy W none) (k4 : CellsW W a4 c4 m) (l_y : V.heap.size ≤ p6) (mb : MF W p6 2 a4 nm c4) (HQ : Hid (it2F Q V m nm b0 b1 b2 b3 b4)) :
    wpAnyH Tryz.prog .any it2Ops Q (it2P V b2 nm ma mc) 0 L (it2f t m nm b0 b1 b2 b3 b4 (.pointer (some ⟨p6, 0, none⟩)) (.pointer (some ⟨b2, 0, none⟩)) (.int .i64 2) (.pointer (some ⟨b2, 1, none⟩)) (.slice ma nm mc) (.slice a4 nm c4) (.agg #[.int .i64 2, .slice a4 nm c4])) W := by
  subst hl
  unfold it2f
  refine wpAnyH_done (by kernel_rfl) ?_ _
  exact HQ.out _ _ _ _ _ _ _ _ _ _ _ _ _ _ _ _ _ _ _ _ _ _ _ _ _ _ _ _ _ _ _ _ HG k4 l_y mb

theorem it21 (hp : ∀ c a d v w, Q (.panic c) (Act.put a d v) w → Q (.panic c) a w) {a4 : Option Addr} {c4 : Nat} {p6 : Nat} (hl : L = #[true, true, true, true, true, true, true, false]) (HB : Hid (MF V b2 2 ma nm mc ∧ CellsW V ma mc m ∧ m.length = nm ∧ nm ≤ 50000)) (HG : V.grownBy W none) (k4 : CellsW W a4 c4 m) (y : MF W p6 0 none 0 0) (l_y : V.heap.size ≤ p6) (HQ : Hid (it2F Q V m nm b0 b1 b2 b3 b4)) :
    wpAnyH Tryz.prog .any it2Ops Q (it2P V b2 nm ma mc) 1 L (it2f t m nm b0 b1 b2 b3 b4 (.pointer (some ⟨p6, 0, none⟩)) (.pointer (some ⟨b2, 0, none⟩)) (.int .i64 2) (.pointer (some ⟨b2, 1, none⟩)) (.slice ma nm mc) (.slice a4 nm c4) (.agg #[.int .i64 2, .slice a4 nm c4])) W := by
  subst hl
  unfold it2f
  refine wpAnyH_ready (rs := [7]) (by kernel_rfl) (by simp) ?_
  refine (AllReadyH.cons (o := it2o7) rfl (fun K hK => ?_) AllReadyH.nil)
  rw [if_pos (by rfl)]
  unfold it2o7
  have y0 := y.1
  have y1 := y.2.1
  have y2 := y.2.2.1
  have y3 := y.2.2.2
  go_simp
  have mb := (show MF (laidX W p6 (.int .i64 2) (.slice a4 nm c4)) p6 2 a4 nm c4 from MF.put y 2 a4 nm c4)
  replace k4 := MF.cells y (.int .i64 2) (.slice a4 nm c4) k4
  replace HG := MF.grows HG l_y (.int .i64 2) (.slice a4 nm c4)
  clear y
  unfold laidX at HG k4 mb
  obtain ⟨U, hU⟩ : ∃ U, (W.setCell ⟨p6, 0, none⟩ (.int .i64 2)).setCell ⟨p6, 1, none⟩ (.slice a4 nm c4) = U := ⟨_, rfl⟩
  rw [hU] at HG k4 mb ⊢
  clear hU
  refine hK.out _ _ (it2S HB.out HG) (fun hHeld => ?_)
  clear hK K
  try simp only [sA, sB, sC]
  exact it20 hp (by kernel_rfl) HB HG k4 l_y mb HQ

theorem it22 (hp : ∀ c a d v w, Q (.panic c) (Act.put a d v) w → Q (.panic c) a w) {a4 : Option Addr} {c4 : Nat} (hl : L = #[true, true, true, true, true, true, false, false]) (HB : Hid (MF V b2 2 ma nm mc ∧ CellsW V ma mc m ∧ m.length = nm ∧ nm ≤ 50000)) (HG : V.grownBy W none) (k4 : CellsW W a4 c4 m) (HQ : Hid (it2F Q V m nm b0 b1 b2 b3 b4)) :
    wpAnyH Tryz.prog .any it2Ops Q (it2P V b2 nm ma mc) 2 L (it2f t m nm b0 b1 b2 b3 b4 (t 8) (.pointer (some ⟨b2, 0, none⟩)) (.int .i64 2) (.pointer (some ⟨b2, 1, none⟩)) (.slice ma nm mc) (.slice a4 nm c4) (.agg #[.int .i64 2, .slice a4 nm c4])) W := by
  subst hl
  unfold it2f
  refine wpAnyH_ready (rs := [6]) (by kernel_rfl) (by simp) ?_
  refine (AllReadyH.cons (o := it2o6) rfl (fun K hK => ?_) AllReadyH.nil)
  rw [if_pos (by rfl)]
  unfold it2o6
  go_simp
  have hg := World.grownBy_alloc W (.cells #[.int .i64 0, .slice none 0 0] 35) none
  have y := MF.new W 0 none 0 0
  have l_y := World.grownBy.size HG
  replace k4 := k4.grown hg
  replace HG := World.grownBy.trans HG hg
  obtain ⟨U, hU⟩ : ∃ U, W.alloc (.cells #[.int .i64 0, .slice none 0 0] 35) = U := ⟨_, rfl⟩
  rw [hU] at HG k4 y ⊢
  clear hU hg
  refine hK.out _ _ (it2S HB.out HG) (fun hHeld => ?_)
  clear hK K
  try simp only [sA, sB, sC]
  exact it21 hp (by kernel_rfl) HB HG k4 y l_y HQ

theorem it23 (hp : ∀ c a d v w, Q (.panic c) (Act.put a d v) w → Q (.panic c) a w) {p6 : Nat} (hl : L = #[true, true, true, true, false, false, true, false]) (HB : Hid (MF V b2 2 ma nm mc ∧ CellsW V ma mc m ∧ m.length = nm ∧ nm ≤ 50000)) (HG : V.grownBy W none) (y : MF W p6 0 none 0 0) (l_y : V.heap.size ≤ p6) (HQ : Hid (it2F Q V m nm b0 b1 b2 b3 b4)) :
    wpAnyH Tryz.prog .any it2Ops Q (it2P V b2 nm ma mc) 3 L (it2f t m nm b0 b1 b2 b3 b4 (.pointer (some ⟨p6, 0, none⟩)) (.pointer (some ⟨b2, 0, none⟩)) (.int .i64 2) (.pointer (some ⟨b2, 1, none⟩)) (.slice ma nm mc) (t 17) (t 18)) W := by
  subst hl
  unfold it2f
  refine wpAnyH_ready (rs := [4]) (by kernel_rfl) (by simp) ?_
  refine (AllReadyH.cons (o := it2o4) rfl (fun K hK => ?_) AllReadyH.nil)
  rw [if_pos (by rfl)]
  unfold it2o4
  go_simp
  go_at_call 107
  refine (cloneC_calls m ma mc nm W HB.out.2.2.1 (HB.out.2.1.grown HG) (by have := HB.out.2.2.2; omega)).mono ?_
  rintro e U ⟨a4, c4, rfl, k4, g⟩
  replace y := y.grown g
  replace HG := World.grownBy.trans HG g
  clear g
  go_wp2_with fail
  refine hK.out _ _ (it2S HB.out HG) (fun hHeld => ?_)
  clear hK K
  try simp only [sA, sB, sC]
  refine tk 5 it2o5 ?_ rfl (by kernel_rfl) (fun c a w h => hp c a _ _ w h) (by rfl) ?_ hHeld ?_
  rotate_left 1
  · (intro W hSW; unfold it2P at hSW; unfold it2o5; first | (go_simp; done) | (go_simp; with_reducible rfl))
  try simp only [Act.put, sA, sB, sC]
  exact it21 hp (by kernel_rfl) HB HG k4 y l_y HQ

theorem it24 (hp : ∀ c a d v w, Q (.panic c) (Act.put a d v) w → Q (.panic c) a w)  (hl : L = #[true, true, true, true, false, false, false, false]) (HB : Hid (MF V b2 2 ma nm mc ∧ CellsW V ma mc m ∧ m.length = nm ∧ nm ≤ 50000)) (HG : V.grownBy W none)  (HQ : Hid (it2F Q V m nm b0 b1 b2 b3 b4)) :
    wpAnyH Tryz.prog .any it2Ops Q (it2P V b2 nm ma mc) 4 L (it2f t m nm b0 b1 b2 b3 b4 (t 8) (.pointer (some ⟨b2, 0, none⟩)) (.int .i64 2) (.pointer (some ⟨b2, 1, none⟩)) (.slice ma nm mc) (t 17) (t 18)) W := by
  subst hl
  unfold it2f
  refine wpAnyH_ready (rs := [4, 6]) (by kernel_rfl) (by simp) ?_
  refine (AllReadyH.cons (o := it2o4) rfl (fun K hK => ?_) (AllReadyH.cons (o := it2o6) rfl (fun K hK => ?_) AllReadyH.nil))
  · rw [if_pos (by rfl)]
    unfold it2o4
    go_simp
    go_at_call 107
    refine (cloneC_calls m ma mc nm W HB.out.2.2.1 (HB.out.2.1.grown HG) (by have := HB.out.2.2.2; omega)).mono ?_
    rintro e U ⟨a4, c4, rfl, k4, g⟩
    replace HG := World.grownBy.trans HG g
    clear g
    go_wp2_with fail
    refine hK.out _ _ (it2S HB.out HG) (fun hHeld => ?_)
    clear hK K
    try simp only [sA, sB, sC]
    refine tk 5 it2o5 ?_ rfl (by kernel_rfl) (fun c a w h => hp c a _ _ w h) (by rfl) ?_ hHeld ?_
    rotate_left 1
    · (intro W hSW; unfold it2P at hSW; unfold it2o5; first | (go_simp; done) | (go_simp; with_reducible rfl))
    try simp only [Act.put, sA, sB, sC]
    exact it22 hp (by kernel_rfl) HB HG k4 HQ
  · rw [if_pos (by rfl)]
    unfold it2o6
    go_simp
    have hg := World.grownBy_alloc W (.cells #[.int .i64 0, .slice none 0 0] 35) none
    have y := MF.new W 0 none 0 0
    have l_y := World.grownBy.size HG
    replace HG := World.grownBy.trans HG hg
    obtain ⟨U, hU⟩ : ∃ U, W.alloc (.cells #[.int .i64 0, .slice none 0 0] 35) = U := ⟨_, rfl⟩
    rw [hU] at HG  y ⊢
    clear hU hg
    refine hK.out _ _ (it2S HB.out HG) (fun hHeld => ?_)
    clear hK K
    try simp only [sA, sB, sC]
    exact it23 hp (by kernel_rfl) HB HG y l_y HQ

theorem it2_all {t0 t1 t2 t8 t9 t10 t11 t12 t13 t14 t15 t16 t17 t18 t19 t20 t21 t22 t23 t24 t25 t26 t27 t28 t29 t30 t31 t32 t33 : Value} (hp : ∀ c a d v w, Q (.panic c) (Act.put a d v) w → Q (.panic c) a w) (HB : Hid (MF V b2 2 ma nm mc ∧ CellsW V ma mc m ∧ m.length = nm ∧ nm ≤ 50000)) (HQ : Hid (it2F Q V m nm b0 b1 b2 b3 b4)) :
    (Code.region 2 it2Ops true).wp Tryz.prog Q ⟨#[t0, t1, t2, .pointer (some ⟨b0, 0, none⟩), .pointer (some ⟨b1, 0, none⟩), .pointer (some ⟨b2, 0, none⟩), .pointer (some ⟨b3, 0, none⟩), .pointer (some ⟨b4, 0, none⟩), t8, t9, t10, t11, t12, t13, t14, t15, t16, t17, t18, t19, t20, t21, t22, t23, t24, t25, t26, t27, t28, t29, t30, t31, t32, t33], []⟩ V := by
  have HG := ((⟨rfl, rfl, rfl, Nat.le_refl _, fun _ _ _ => rfl⟩ : V.grownBy V.drew none))
  refine wp_region_held_drew (S := (it2P V b2 nm ma mc)) (by kernel_rfl) (it2S HB.out HG) (fun hHeld => ?_)
  refine tk 0 it2o0 ?_ rfl (by kernel_rfl) (fun c a w h => hp c a _ _ w h) (by rfl) ?_ hHeld ?_
  rotate_left 1
  · (intro W hSW; unfold it2P at hSW; unfold it2o0; first | (go_simp; done) | (go_simp; with_reducible rfl))
  try simp only [Act.put, sA, sB, sC]
  refine tk 1 it2o1 ?_ rfl (by kernel_rfl) (fun c a w h => hp c a _ _ w h) (by rfl) ?_ hHeld ?_
  rotate_left 1
  · (intro W hSW; unfold it2P at hSW; unfold it2o1; first | (go_simp; done) | (go_simp; with_reducible rfl))
  try simp only [Act.put, sA, sB, sC]
  refine tk 2 it2o2 ?_ rfl (by kernel_rfl) (fun c a w h => hp c a _ _ w h) (by rfl) ?_ hHeld ?_
  rotate_left 1
  · (intro W hSW; unfold it2P at hSW; unfold it2o2; first | (go_simp; done) | (go_simp; with_reducible rfl))
  try simp only [Act.put, sA, sB, sC]
  refine tk 3 it2o3 ?_ rfl (by kernel_rfl) (fun c a w h => hp c a _ _ w h) (by rfl) ?_ hHeld ?_
  rotate_left 1
  · (intro W hSW; unfold it2P at hSW; unfold it2o3; first | (go_simp; done) | (go_simp; with_reducible rfl))
  try simp only [Act.put, sA, sB, sC]
  exact it24 (t := fun k => List.getD [t0, t1, t2, undef, undef, undef, undef, undef, t8, t9, t10, t11, t12, t13, t14, t15, t16, t17, t18, t19, t20, t21, t22, t23, t24, t25, t26, t27, t28, t29, t30, t31, t32, t33] k undef) hp (by kernel_rfl) HB HG HQ
end
theorem resU106 (tmps : Array Value) (w : World) (b c : Nat) (a : Option Addr) (n d : Nat) (x y : Value) (ht : tmps.getD 6 undef = .pointer (some ⟨b, 0, none⟩)) (hu : tmps.getD 7 undef = .pointer (some ⟨c, 0, none⟩)) (h0 : w.cell? ⟨b, 0, none⟩ = some (.slice a n d)) (h1 : w.cell? ⟨c, 0, none⟩ = some x) (h2 : w.cell? ⟨c, 1, none⟩ = some y) :
    (results Tryz.f96 tmps).run Tryz.prog w = .ok (.tuple #[.agg #[.slice a n d], .agg #[x, y]]) w := by
  have ht' : tmps[6]?.getD undef = .pointer (some ⟨b, 0, none⟩) := by simpa using ht
  have hu' : tmps[7]?.getD undef = .pointer (some ⟨c, 0, none⟩) := by simpa using hu
  simp [results, ht', hu', go_sem, h0, h1, h2, Result.andThen]
theorem itsq_calls (w : World) (r : Nat) (st : Nat → List Gt × List Cl) (gs : List Gt) (m : List Cl) (nb : Nat) (xa ma : Option Addr) (xc mc ng nm : Nat) (hst : st 0 = (gs, m)) (hng : gs.length = ng) (hnm : m.length = nm) (h : GatesW w xa xc gs) (hm : CellsW w ma mc m) (hr : r ≤ 1000) (hlg : ng ≤ 50000) (hlm : nm ≤ 50000)
    (hc : ∀ k, k < r → ∀ (U : World) (ya za : Option Addr) (yc zc ny nz : Nat), w.grownBy U none → (st k).1.length = ny → (st k).2.length = nz → GatesW U ya yc (st k).1 → CellsW U za zc (st k).2 → Calls Tryz.prog 95 #[.agg #[.slice ya ny yc], .agg #[.int .i64 2, .slice za nz zc], .pointer (some ⟨nb, 0, none⟩)] U (AnsM U (st (k + 1)).1 2 (st (k + 1)).2)) :
    Calls Tryz.prog 96 #[.agg #[.int .i64 (r : Int), (.func (.func 95) #[] #[.pointer (some ⟨nb, 0, none⟩)])], .agg #[.slice xa ng xc], .agg #[.int .i64 2, .slice ma nm mc]] w (AnsM w (st r).1 2 (st r).2) := by
  obtain ⟨W, b0, b1, b2, b3, b4, hW, hg, hsz, ⟨hb0, hb1, hb2, hb3, hb4⟩, k0, k1, k2, k3, k4⟩ := boxes5 w r (.func (.func 95) #[] #[.pointer (some ⟨nb, 0, none⟩)]) xa ng xc ma nm mc
  have HG := Lib.hid hg
  have H0 := Lib.hid k0
  have H1 := Lib.hid k1
  have H2 := Lib.hid k2
  have H3 := Lib.hid k3
  have H4 := Lib.hid k4
  have HN := Lib.hid (show w.heap.size ≤ b0 ∧ b0 < b1 ∧ b1 < b2 ∧ b2 < b3 ∧ b3 < b4 ∧ b4 < W.heap.size from by omega)
  have HX := Lib.hid (h.grown hg)
  have HM := Lib.hid (hm.grown hg)
  have HC := Lib.hid hc
  have HL := Lib.hid (show gs.length = ng ∧ m.length = nm ∧ r ≤ 1000 ∧ ng ≤ 50000 ∧ nm ≤ 50000 ∧ st 0 = (gs, m) from ⟨hng, hnm, hr, hlg, hlm, hst⟩)
  have HB := Lib.hid (And.intro hb4 (And.intro hb3 (And.intro hb2 (And.intro hb1 hb0))))
  have HCL := Lib.hid (fun (U : World) (hU : GatesW U xa xc gs) => clone_calls gs xa xc U hU (by omega))
  rw [hng] at HCL
  clear hg k0 k1 k2 k3 k4 hsz h hm hc hng hnm hr hlg hlm hst hb0 hb1 hb2 hb3 hb4
  go_enter Tryz.func96, Tryz.ntmps96
  go_upto_region 1 with fail
  rw [HB.out.1, HB.out.2.1, HB.out.2.2.1, HB.out.2.2.2.1, HB.out.2.2.2.2]
  clear hW HB
  have q1 := H1.out.1
  go_wp2_with fail
  clear q1
  refine (HCL.out W HX.out).mono ?_
  rintro e V ⟨a1, c1, rfl, hsp, gw⟩
  have hr := hsp.here
  clear hsp
  replace H0 := Lib.hid (H0.out.grown gw)
  replace H1 := Lib.hid (H1.out.grown gw)
  replace H2 := Lib.hid (H2.out.grown gw)
  replace H3 := Lib.hid (H3.out.grown gw)
  replace H4 := Lib.hid (H4.out.grown gw)
  replace HX := Lib.hid (HX.out.grown gw)
  replace HM := Lib.hid (HM.out.grown gw)
  replace HG := Lib.hid (World.grownBy.trans HG.out gw)
  have HS1 := Lib.hid (World.grownBy.size gw)
  clear gw
  have HR := Lib.hid hr
  clear hr HX HCL
  have q1 := H1.out.1
  have f1 := H1.out.2
  go_upto_region 2 with fail
  clear q1 f1
  have nw0 := TF.setc (b' := b1) H0.out (.slice a1 ng c1) (by have := HN.out; have := HS1.out; omega)
  have nw1 := H1.out.put a1 ng c1
  have nw2 := H1.out.mf (.slice a1 ng c1) H2.out
  have nw3 := H1.out.cf (.slice a1 ng c1) H3.out (by have := HN.out; have := HS1.out; omega)
  have nw4 := H1.out.mf (.slice a1 ng c1) H4.out
  have nwM := H1.out.cells (.slice a1 ng c1) HM.out
  have nwR := H1.out.gates (.slice a1 ng c1) HR.out
  have nG := CF.grows HG.out (by have := HN.out; have := HS1.out; omega) (.slice a1 ng c1) (b := b1)
  have nS : (World.setCell V ⟨b1, 0, none⟩ (.slice a1 ng c1)).heap.size = V.heap.size := by simp
  obtain ⟨V1, hV⟩ : ∃ z, World.setCell V ⟨b1, 0, none⟩ (.slice a1 ng c1) = z := ⟨_, rfl⟩
  rw [hV] at nw0 nw1 nw2 nw3 nw4 nwM nwR nG nS ⊢
  clear hV
  replace H0 := Lib.hid nw0
  replace H1 := Lib.hid nw1
  replace H2 := Lib.hid nw2
  replace H3 := Lib.hid nw3
  replace H4 := Lib.hid nw4
  replace HM := Lib.hid nwM
  replace HR := Lib.hid nwR
  replace HG := Lib.hid nG
  have HS2 := Lib.hid nS
  clear nG nS nw0 nw1 nw2 nw3 nw4 nwM nwR
  have HBC := Lib.hid (show MF V1 b2 2 ma nm mc ∧ CellsW V1 ma mc m ∧ m.length = nm ∧ nm ≤ 50000 from ⟨H2.out, HM.out, HL.out.2.1, HL.out.2.2.2.2.1⟩)
  refine it2_all (fun c a d v w h => by cases d <;> exact h) HBC (Lib.hid ?_)
  clear HBC
  intro a4 c4 p6 _ _ _ _ _ _ _ _ _ _ _ _ _ _ _ _ _ _ _ _ _ _ _ _ _ _ _ _ Y gw k4 hle hmb
  have HS0 := Lib.hid (show V1.heap.size ≤ p6 ∧ p6 < Y.heap.size from ⟨hle, lies_lt hmb.1⟩)
  clear hle
  replace H0 := Lib.hid (H0.out.grown gw)
  replace H1 := Lib.hid (H1.out.grown gw)
  replace H2 := Lib.hid (H2.out.grown gw)
  replace H3 := Lib.hid (H3.out.grown gw)
  replace H4 := Lib.hid (H4.out.grown gw)
  replace HM := Lib.hid (HM.out.grown gw)
  replace HR := Lib.hid (HR.out.grown gw)
  replace HG := Lib.hid (World.grownBy.trans HG.out gw)
  have HS3 := Lib.hid (World.grownBy.size gw)
  clear gw
  have H8 := Lib.hid hmb
  have HT := Lib.hid k4
  clear hmb k4 HM
  have t0 := H0.out.1
  go_wp2_with fail
  clear t0
  have HSA := Lib.hid (show b4 < p6 ∧ p6 < Y.heap.size ∧ w.heap.size ≤ b0 ∧ b0 < b1 ∧ b1 < b2 ∧ b2 < b3 ∧ b3 < b4 from (by have := HN.out; have := HS1.out; have := HS2.out; have := HS0.out; have := HS3.out; omega))
  go_loopg [21] r (fun gk s21 wr => ∃ (k : Nat) (xa ma : Option Addr) (xc mc : Nat), s21 = .int .i64 (k : Int) ∧ gk = r - k ∧ k ≤ r ∧ w.grownBy wr none ∧ p6 < wr.heap.size ∧ TF wr b0 r (.func (.func 95) #[] #[.pointer (some ⟨nb, 0, none⟩)]) ∧ CF wr b1 xa (st k).1.length xc ∧ MF wr p6 2 ma (st k).2.length mc ∧ CF wr b3 none 0 0 ∧ MF wr b4 0 none 0 0 ∧ GatesW wr xa xc (st k).1 ∧ CellsW wr ma mc (st k).2)
  case atStart => exact ⟨0, a1, a4, c1, c4, rfl, rfl, Nat.zero_le _, HG.out, HSA.out.2.1, H0.out, by rw [HL.out.2.2.2.2.2, HL.out.1]; exact H1.out, by rw [HL.out.2.2.2.2.2, HL.out.2.1]; exact H8.out, H3.out, H4.out, by rw [HL.out.2.2.2.2.2]; exact HR.out, by rw [HL.out.2.2.2.2.2]; exact HT.out⟩
  case round =>
    clear H0 H1 H2 H3 H4 H8 HR HT HG
    obtain ⟨k, xa, ma, xc, mc, rfl, hgk, hk, hg, hp6, h0, h1, h8, h3, h4, hr, ht⟩ := hrel
    obtain ⟨g, hgg⟩ : ∃ z, (st k).1 = z := ⟨_, rfl⟩
    obtain ⟨l, hll⟩ : ∃ z, (st k).2 = z := ⟨_, rfl⟩
    rw [hgg] at h1 hr
    rw [hll] at h8 ht
    obtain ⟨ny, hny⟩ : ∃ z, g.length = z := ⟨_, rfl⟩
    obtain ⟨nz, hnz⟩ : ∃ z, l.length = z := ⟨_, rfl⟩
    rw [hny] at h1
    rw [hnz] at h8
    have HG := Lib.hid hg
    have H0 := Lib.hid h0
    have H1 := Lib.hid h1
    have H8 := Lib.hid h8
    have H3 := Lib.hid h3
    have H4 := Lib.hid h4
    have HR := Lib.hid hr
    have HT := Lib.hid ht
    have HP := Lib.hid hp6
    have HK := Lib.hid (show gk = r - k ∧ (st k).1 = g ∧ (st k).2 = l ∧ g.length = ny ∧ l.length = nz from ⟨hgk, hgg, hll, hny, hnz⟩)
    clear hg h0 h1 h8 h3 h4 hr ht hp6 hgk hgg hll hny hnz
    by_cases hkr : k < r
    · have f1 : decide (k < r) = true := decide_eq_true hkr
      have f2 : decide ((k : Int) < (r : Int)) = true := decide_eq_true (by omega)
      have hk1 : IntKind.i64.wrap ((k : Int) + 1) = ((k + 1 : Nat) : Int) := by rw [IntWalk.i64_in _ (by have := HL.out; omega)]; omega
      have HCC := Lib.hid (HC.out k hkr)
      rw [HK.out.2.1, HK.out.2.2.1] at HCC
      have q1 := H1.out.1
      have q8 := H8.out.1
      have r8 := H8.out.2.1
      have t0 := H0.out.1
      have t1 := H0.out.2
      go_wp2_with fail
      clear q1 q8 r8 t0 t1
      refine (HCC.out wr xa ma xc mc ny nz HG.out HK.out.2.2.2.1 HK.out.2.2.2.2 HR.out HT.out).mono ?_
      rintro e U ⟨a5, c5, a6, n6, c6, rfl, hn6, hr, hm2, gw⟩
      replace H0 := Lib.hid (H0.out.grown gw)
      replace H1 := Lib.hid (H1.out.grown gw)
      replace H3 := Lib.hid (H3.out.grown gw)
      replace H4 := Lib.hid (H4.out.grown gw)
      replace H8 := Lib.hid (H8.out.grown gw)
      replace HR := Lib.hid (HR.out.grown gw)
      replace HT := Lib.hid (HT.out.grown gw)
      replace HG := Lib.hid (World.grownBy.trans HG.out gw)
      have HS51 := Lib.hid (World.grownBy.size gw)
      clear gw
      obtain ⟨g2, hg2⟩ : ∃ z, (st (k + 1)).1 = z := ⟨_, rfl⟩
      obtain ⟨l2, hl2⟩ : ∃ z, (st (k + 1)).2 = z := ⟨_, rfl⟩
      rw [hg2] at hr ⊢
      rw [hl2] at hn6 hm2
      have HR2 := Lib.hid hr
      have HT2 := Lib.hid hm2
      have HK2 := Lib.hid (show (st (k + 1)).1 = g2 ∧ (st (k + 1)).2 = l2 ∧ l2.length = n6 from ⟨hg2, hl2, hn6⟩)
      clear hr hm2 hn6 hg2 hl2 HR HT HCC
      have q1 := H1.out.1
      have f1 := H1.out.2
      have q8 := H8.out.1
      have r8 := H8.out.2.1
      have f8 := H8.out.2.2.1
      have e8 := H8.out.2.2.2
      have hne1 : ¬ b1 = p6 := (by have := HSA.out; have := HP.out; have := HS51.out; omega)
      have hne2 : ¬ p6 = b1 := (by have := HSA.out; have := HP.out; have := HS51.out; omega)
      go_upto_region 6 with fail
      clear q1 f1 q8 r8 f8 e8 hne1 hne2
      have nw0 := TF.setc (b' := b1) H0.out (.slice a5 g2.length c5) (by have := HSA.out; have := HP.out; have := HS51.out; omega)
      have nw1 := H1.out.put a5 g2.length c5
      have nw3 := H1.out.cf (.slice a5 g2.length c5) H3.out (by have := HSA.out; have := HP.out; have := HS51.out; omega)
      have nw4 := H1.out.mf (.slice a5 g2.length c5) H4.out
      have nw8 := H1.out.mf (.slice a5 g2.length c5) H8.out
      have nwR2 := H1.out.gates (.slice a5 g2.length c5) HR2.out
      have nwT2 := H1.out.cells (.slice a5 g2.length c5) HT2.out
      have nG := CF.grows HG.out (by have := HSA.out; have := HP.out; have := HS51.out; omega) (.slice a5 g2.length c5) (b := b1)
      have nS : (World.setCell U ⟨b1, 0, none⟩ (.slice a5 g2.length c5)).heap.size = U.heap.size := by simp
      obtain ⟨V51, hV⟩ : ∃ z, World.setCell U ⟨b1, 0, none⟩ (.slice a5 g2.length c5) = z := ⟨_, rfl⟩
      rw [hV] at nw0 nw1 nw3 nw4 nw8 nwR2 nwT2 nG nS ⊢
      clear hV
      replace H0 := Lib.hid nw0
      replace H1 := Lib.hid nw1
      replace H3 := Lib.hid nw3
      replace H4 := Lib.hid nw4
      replace H8 := Lib.hid nw8
      replace HR2 := Lib.hid nwR2
      replace HT2 := Lib.hid nwT2
      replace HG := Lib.hid nG
      have HS52 := Lib.hid nS
      clear nG nS nw0 nw1 nw3 nw4 nw8 nwR2 nwT2
      have nw0 := TF.setm (b' := p6) H0.out (.int .i64 2) (.slice a6 n6 c6) (by have := HSA.out; have := HP.out; have := HS51.out; have := HS52.out; omega)
      have nw1 := H8.out.cf (.int .i64 2) (.slice a6 n6 c6) H1.out
      have nw3 := H8.out.cf (.int .i64 2) (.slice a6 n6 c6) H3.out
      have nw4 := H8.out.mf (.int .i64 2) (.slice a6 n6 c6) H4.out (by have := HSA.out; have := HP.out; have := HS51.out; have := HS52.out; omega)
      have nw8 := H8.out.put 2 a6 n6 c6
      have nwR2 := H8.out.gates (.int .i64 2) (.slice a6 n6 c6) HR2.out
      have nwT2 := H8.out.cells (.int .i64 2) (.slice a6 n6 c6) HT2.out
      have nG := MF.grows HG.out (by have := HSA.out; have := HP.out; have := HS51.out; have := HS52.out; omega) (.int .i64 2) (.slice a6 n6 c6) (b := p6)
      have nS : (World.setCell (World.setCell V51 ⟨p6, 0, none⟩ (.int .i64 2)) ⟨p6, 1, none⟩ (.slice a6 n6 c6)).heap.size = V51.heap.size := by simp
      unfold laidX at nw0 nw1 nw3 nw4 nw8 nwR2 nwT2 nG
      obtain ⟨V52, hV⟩ : ∃ z, World.setCell (World.setCell V51 ⟨p6, 0, none⟩ (.int .i64 2)) ⟨p6, 1, none⟩ (.slice a6 n6 c6) = z := ⟨_, rfl⟩
      rw [hV] at nw0 nw1 nw3 nw4 nw8 nwR2 nwT2 nG nS ⊢
      clear hV
      replace H0 := Lib.hid nw0
      replace H1 := Lib.hid nw1
      replace H3 := Lib.hid nw3
      replace H4 := Lib.hid nw4
      replace H8 := Lib.hid nw8
      replace HR2 := Lib.hid nwR2
      replace HT2 := Lib.hid nwT2
      replace HG := Lib.hid nG
      have HS53 := Lib.hid nS
      clear nG nS nw0 nw1 nw3 nw4 nw8 nwR2 nwT2
      go_wp2_with fail
      go_roundg (r - (k + 1))
      case measure => rw [HK.out.1]; omega
      case rel => exact ⟨k + 1, a5, a6, c5, c6, rfl, rfl, by omega, HG.out, (by have := HSA.out; have := HP.out; have := HS51.out; have := HS52.out; have := HS53.out; omega), H0.out, by rw [HK2.out.1]; exact H1.out, by rw [HK2.out.2.1, HK2.out.2.2]; exact H8.out, H3.out, H4.out, by rw [HK2.out.1]; exact HR2.out, by rw [HK2.out.2.1]; exact HT2.out⟩
    · have f1 : decide (k < r) = false := decide_eq_false hkr
      have f2 : decide ((k : Int) < (r : Int)) = false := decide_eq_false (by omega)
      have hkr2 : k = r := by omega
      have HKE := Lib.hid (show (st r).1 = g ∧ (st r).2 = l from by rw [← hkr2]; exact ⟨HK.out.2.1, HK.out.2.2.1⟩)
      clear hkr hkr2 hk
      go_wp2_with fail
      obtain ⟨wd, hwd⟩ : ∃ z, wr.drew = z := ⟨_, rfl⟩
      have gw : wr.grownBy wd none := by rw [← hwd]; exact ⟨rfl, rfl, rfl, Nat.le_refl _, fun _ _ _ => rfl⟩
      replace H0 := Lib.hid (H0.out.grown gw)
      replace H1 := Lib.hid (H1.out.grown gw)
      replace H3 := Lib.hid (H3.out.grown gw)
      replace H4 := Lib.hid (H4.out.grown gw)
      replace H8 := Lib.hid (H8.out.grown gw)
      replace HR := Lib.hid (HR.out.grown gw)
      replace HT := Lib.hid (HT.out.grown gw)
      replace HG := Lib.hid (World.grownBy.trans HG.out gw)
      have HS54 := Lib.hid (World.grownBy.size gw)
      clear gw
      have HS := Lib.hid (fun (Wh : World) (hWh : CF Wh b1 xa ny xc ∧ MF Wh p6 2 ma nz mc) => (⟨hWh.1.1, hWh.2.1, hWh.2.2.1⟩ : (fun Wh : World => Wh.cell? ⟨b1, 0, none⟩ = some (.slice xa ny xc) ∧ Wh.cell? ⟨p6, 0, none⟩ = some (.int .i64 2) ∧ Wh.cell? ⟨p6, 1, none⟩ = some (.slice ma nz mc)) Wh))
      have hdr : CF wr.drew b1 xa ny xc ∧ MF wr.drew p6 2 ma nz mc := by rw [hwd]; exact ⟨H1.out, H8.out⟩
      refine wp_region_held_drew (S := (fun Wh : World => Wh.cell? ⟨b1, 0, none⟩ = some (.slice xa ny xc) ∧ Wh.cell? ⟨p6, 0, none⟩ = some (.int .i64 2) ∧ Wh.cell? ⟨p6, 1, none⟩ = some (.slice ma nz mc))) (by kernel_rfl) (HS.out _ hdr) (fun hHeld => ?_)
      rw [hwd] at hHeld ⊢
      clear hwd
      refine wpAnyH_take (i := 0) (oi := { dst := some 32, op := Op.load 27 (Operand.tmp 4), type := 27, pos := "closure.go:25", after := #[], guard := none }) (v := ?_) rfl (by kernel_rfl) (by kernel_rfl) (by kernel_rfl) (fun _ _ _ h => h) (Or.inl ⟨by rfl, ?_⟩) (by assumption) ?_
      rotate_left 1
      · (intro W h; (try dsimp only at h); go_simp <;> with_reducible rfl)
      try simp only [Act.put, sA, sB, sC]
      refine wpAnyH_take (i := 1) (oi := { dst := some 33, op := Op.load 35 (Operand.tmp 8), type := 35, pos := "closure.go:25", after := #[{ on := 2, ground := Ground.gcOnly Departure.lateStores }], guard := none }) (v := ?_) rfl (by kernel_rfl) (by kernel_rfl) (by kernel_rfl) (fun _ _ _ h => h) (Or.inl ⟨by rfl, ?_⟩) (by assumption) ?_
      rotate_left 1
      · (intro W h; (try dsimp only at h); go_simp <;> with_reducible rfl)
      try simp only [Act.put, sA, sB, sC]
      refine wpAnyH_ready (rs := [2]) (by kernel_rfl) (by simp) ?_
      refine (AllReadyH.cons (o := { dst := none, op := Op.store 27 (Operand.tmp 6) (Operand.tmp 32), type := 0, pos := "closure.go:25", after := #[{ on := 0, ground := Ground.data }, { on := 0, ground := Ground.phase }, { on := 1, ground := Ground.textOnly Departure.lateStores }], guard := none }) rfl (fun K hK => ?_) AllReadyH.nil)
      rw [if_pos (by rfl)]
      have k1 := H3.out.1
      have kf := H3.out.2
      go_simp
      clear k1 kf
      have nw0 := TF.setc (b' := b3) H0.out (.slice xa ny xc) (by have := HSA.out; have := HP.out; have := HS54.out; omega)
      have nw1 := H3.out.cf (.slice xa ny xc) H1.out (by have := HSA.out; have := HP.out; have := HS54.out; omega)
      have nw3 := H3.out.put xa ny xc
      have nw4 := H3.out.mf (.slice xa ny xc) H4.out
      have nw8 := H3.out.mf (.slice xa ny xc) H8.out
      have nwR := H3.out.gates (.slice xa ny xc) HR.out
      have nwT := H3.out.cells (.slice xa ny xc) HT.out
      have nG := CF.grows HG.out (by have := HSA.out; have := HP.out; have := HS54.out; omega) (.slice xa ny xc) (b := b3)
      have nS : (World.setCell wd ⟨b3, 0, none⟩ (.slice xa ny xc)).heap.size = wd.heap.size := by simp
      obtain ⟨V53, hV⟩ : ∃ z, World.setCell wd ⟨b3, 0, none⟩ (.slice xa ny xc) = z := ⟨_, rfl⟩
      rw [hV] at nw0 nw1 nw3 nw4 nw8 nwR nwT nG nS ⊢
      clear hV
      replace H0 := Lib.hid nw0
      replace H1 := Lib.hid nw1
      replace H3 := Lib.hid nw3
      replace H4 := Lib.hid nw4
      replace H8 := Lib.hid nw8
      replace HR := Lib.hid nwR
      replace HT := Lib.hid nwT
      replace HG := Lib.hid nG
      have HS55 := Lib.hid nS
      clear nG nS nw0 nw1 nw3 nw4 nw8 nwR nwT
      refine hK.out _ _ (HS.out _ ⟨H1.out, H8.out⟩) (fun hHeld => ?_)
      clear hK K
      try simp only [Act.put, sA, sB, sC]
      refine wpAnyH_ready (rs := [3]) (by kernel_rfl) (by simp) ?_
      refine (AllReadyH.cons (o := { dst := none, op := Op.store 35 (Operand.tmp 7) (Operand.tmp 33), type := 0, pos := "closure.go:25", after := #[{ on := 1, ground := Ground.data }, { on := 2, ground := Ground.chain }, { on := 0, ground := Ground.phase }, { on := 1, ground := Ground.phase }, { on := 2, ground := Ground.phase }], guard := none }) rfl (fun K hK => ?_) AllReadyH.nil)
      rw [if_pos (by rfl)]
      have k1 := H4.out.1
      have k2 := H4.out.2.1
      have kf := H4.out.2.2.1
      have kg := H4.out.2.2.2
      go_simp
      clear k1 k2 kf kg
      have nw0 := TF.setm (b' := b4) H0.out (.int .i64 2) (.slice ma nz mc) (by have := HSA.out; have := HP.out; have := HS54.out; have := HS55.out; omega)
      have nw1 := H4.out.cf (.int .i64 2) (.slice ma nz mc) H1.out
      have nw3 := H4.out.cf (.int .i64 2) (.slice ma nz mc) H3.out
      have nw4 := H4.out.put 2 ma nz mc
      have nw8 := H4.out.mf (.int .i64 2) (.slice ma nz mc) H8.out (by have := HSA.out; have := HP.out; have := HS54.out; have := HS55.out; omega)
      have nwR := H4.out.gates (.int .i64 2) (.slice ma nz mc) HR.out
      have nwT := H4.out.cells (.int .i64 2) (.slice ma nz mc) HT.out
      have nG := MF.grows HG.out (by have := HSA.out; have := HP.out; have := HS54.out; have := HS55.out; omega) (.int .i64 2) (.slice ma nz mc) (b := b4)
      have nS : (World.setCell (World.setCell V53 ⟨b4, 0, none⟩ (.int .i64 2)) ⟨b4, 1, none⟩ (.slice ma nz mc)).heap.size = V53.heap.size := by simp
      unfold laidX at nw0 nw1 nw3 nw4 nw8 nwR nwT nG
      obtain ⟨V54, hV⟩ : ∃ z, World.setCell (World.setCell V53 ⟨b4, 0, none⟩ (.int .i64 2)) ⟨b4, 1, none⟩ (.slice ma nz mc) = z := ⟨_, rfl⟩
      rw [hV] at nw0 nw1 nw3 nw4 nw8 nwR nwT nG nS ⊢
      clear hV
      replace H0 := Lib.hid nw0
      replace H1 := Lib.hid nw1
      replace H3 := Lib.hid nw3
      replace H4 := Lib.hid nw4
      replace H8 := Lib.hid nw8
      replace HR := Lib.hid nwR
      replace HT := Lib.hid nwT
      replace HG := Lib.hid nG
      have HS56 := Lib.hid nS
      clear nG nS nw0 nw1 nw3 nw4 nw8 nwR nwT
      refine hK.out _ _ (HS.out _ ⟨H1.out, H8.out⟩) (fun hHeld => ?_)
      clear hK K
      try simp only [Act.put, sA, sB, sC]
      refine wpAnyH_done (by kernel_rfl) ?_ _
      have hEND := hdr
      clear hHeld
      go_wp2_with fail
      refine bodyPost_ret (resU106 _ _ b3 b4 xa ny xc _ _ rfl rfl H3.out.1 H4.out.1 H4.out.2.1) rfl ?_
      rw [HKE.out.1, HKE.out.2]
      exact ⟨xa, xc, ma, nz, mc, by rw [HK.out.2.2.2.1], HK.out.2.2.2.2, HR.out, HT.out, HG.out⟩
theorem itst_calls (w : World) (r : Nat) (st : Nat → List Gt × List Cl) (gs : List Gt) (m : List Cl) (nb ab : Nat) (xa ma : Option Addr) (xc mc ng nm : Nat) (hst : st 0 = (gs, m)) (hng : gs.length = ng) (hnm : m.length = nm) (h : GatesW w xa xc gs) (hm : CellsW w ma mc m) (hr : r ≤ 1000) (hlg : ng ≤ 50000) (hlm : nm ≤ 50000)
    (hc : ∀ k, k < r → ∀ (U : World) (ya za : Option Addr) (yc zc ny nz : Nat), w.grownBy U none → (st k).1.length = ny → (st k).2.length = nz → GatesW U ya yc (st k).1 → CellsW U za zc (st k).2 → Calls Tryz.prog 97 #[.agg #[.slice ya ny yc], .agg #[.int .i64 2, .slice za nz zc], .pointer (some ⟨nb, 0, none⟩), .pointer (some ⟨ab, 0, none⟩)] U (AnsM U (st (k + 1)).1 2 (st (k + 1)).2)) :
    Calls Tryz.prog 96 #[.agg #[.int .i64 (r : Int), (.func (.func 97) #[] #[.pointer (some ⟨nb, 0, none⟩), .pointer (some ⟨ab, 0, none⟩)])], .agg #[.slice xa ng xc], .agg #[.int .i64 2, .slice ma nm mc]] w (AnsM w (st r).1 2 (st r).2) := by
  obtain ⟨W, b0, b1, b2, b3, b4, hW, hg, hsz, ⟨hb0, hb1, hb2, hb3, hb4⟩, k0, k1, k2, k3, k4⟩ := boxes5 w r (.func (.func 97) #[] #[.pointer (some ⟨nb, 0, none⟩), .pointer (some ⟨ab, 0, none⟩)]) xa ng xc ma nm mc
  have HG := Lib.hid hg
  have H0 := Lib.hid k0
  have H1 := Lib.hid k1
  have H2 := Lib.hid k2
  have H3 := Lib.hid k3
  have H4 := Lib.hid k4
  have HN := Lib.hid (show w.heap.size ≤ b0 ∧ b0 < b1 ∧ b1 < b2 ∧ b2 < b3 ∧ b3 < b4 ∧ b4 < W.heap.size from by omega)
  have HX := Lib.hid (h.grown hg)
  have HM := Lib.hid (hm.grown hg)
  have HC := Lib.hid hc
  have HL := Lib.hid (show gs.length = ng ∧ m.length = nm ∧ r ≤ 1000 ∧ ng ≤ 50000 ∧ nm ≤ 50000 ∧ st 0 = (gs, m) from ⟨hng, hnm, hr, hlg, hlm, hst⟩)
  have HB := Lib.hid (And.intro hb4 (And.intro hb3 (And.intro hb2 (And.intro hb1 hb0))))
  have HCL := Lib.hid (fun (U : World) (hU : GatesW U xa xc gs) => clone_calls gs xa xc U hU (by omega))
  rw [hng] at HCL
  clear hg k0 k1 k2 k3 k4 hsz h hm hc hng hnm hr hlg hlm hst hb0 hb1 hb2 hb3 hb4
  go_enter Tryz.func96, Tryz.ntmps96
  go_upto_region 1 with fail
  rw [HB.out.1, HB.out.2.1, HB.out.2.2.1, HB.out.2.2.2.1, HB.out.2.2.2.2]
  clear hW HB
  have q1 := H1.out.1
  go_wp2_with fail
  clear q1
  refine (HCL.out W HX.out).mono ?_
  rintro e V ⟨a1, c1, rfl, hsp, gw⟩
  have hr := hsp.here
  clear hsp
  replace H0 := Lib.hid (H0.out.grown gw)
  replace H1 := Lib.hid (H1.out.grown gw)
  replace H2 := Lib.hid (H2.out.grown gw)
  replace H3 := Lib.hid (H3.out.grown gw)
  replace H4 := Lib.hid (H4.out.grown gw)
  replace HX := Lib.hid (HX.out.grown gw)
  replace HM := Lib.hid (HM.out.grown gw)
  replace HG := Lib.hid (World.grownBy.trans HG.out gw)
  have HS1 := Lib.hid (World.grownBy.size gw)
  clear gw
  have HR := Lib.hid hr
  clear hr HX HCL
  have q1 := H1.out.1
  have f1 := H1.out.2
  go_upto_region 2 with fail
  clear q1 f1
  have nw0 := TF.setc (b' := b1) H0.out (.slice a1 ng c1) (by have := HN.out; have := HS1.out; omega)
  have nw1 := H1.out.put a1 ng c1
  have nw2 := H1.out.mf (.slice a1 ng c1) H2.out
  have nw3 := H1.out.cf (.slice a1 ng c1) H3.out (by have := HN.out; have := HS1.out; omega)
  have nw4 := H1.out.mf (.slice a1 ng c1) H4.out
  have nwM := H1.out.cells (.slice a1 ng c1) HM.out
  have nwR := H1.out.gates (.slice a1 ng c1) HR.out
  have nG := CF.grows HG.out (by have := HN.out; have := HS1.out; omega) (.slice a1 ng c1) (b := b1)
  have nS : (World.setCell V ⟨b1, 0, none⟩ (.slice a1 ng c1)).heap.size = V.heap.size := by simp
  obtain ⟨V1, hV⟩ : ∃ z, World.setCell V ⟨b1, 0, none⟩ (.slice a1 ng c1) = z := ⟨_, rfl⟩
  rw [hV] at nw0 nw1 nw2 nw3 nw4 nwM nwR nG nS ⊢
  clear hV
  replace H0 := Lib.hid nw0
  replace H1 := Lib.hid nw1
  replace H2 := Lib.hid nw2
  replace H3 := Lib.hid nw3
  replace H4 := Lib.hid nw4
  replace HM := Lib.hid nwM
  replace HR := Lib.hid nwR
  replace HG := Lib.hid nG
  have HS2 := Lib.hid nS
  clear nG nS nw0 nw1 nw2 nw3 nw4 nwM nwR
  have HBC := Lib.hid (show MF V1 b2 2 ma nm mc ∧ CellsW V1 ma mc m ∧ m.length = nm ∧ nm ≤ 50000 from ⟨H2.out, HM.out, HL.out.2.1, HL.out.2.2.2.2.1⟩)
  refine it2_all (fun c a d v w h => by cases d <;> exact h) HBC (Lib.hid ?_)
  clear HBC
  intro a4 c4 p6 _ _ _ _ _ _ _ _ _ _ _ _ _ _ _ _ _ _ _ _ _ _ _ _ _ _ _ _ Y gw k4 hle hmb
  have HS0 := Lib.hid (show V1.heap.size ≤ p6 ∧ p6 < Y.heap.size from ⟨hle, lies_lt hmb.1⟩)
  clear hle
  replace H0 := Lib.hid (H0.out.grown gw)
  replace H1 := Lib.hid (H1.out.grown gw)
  replace H2 := Lib.hid (H2.out.grown gw)
  replace H3 := Lib.hid (H3.out.grown gw)
  replace H4 := Lib.hid (H4.out.grown gw)
  replace HM := Lib.hid (HM.out.grown gw)
  replace HR := Lib.hid (HR.out.grown gw)
  replace HG := Lib.hid (World.grownBy.trans HG.out gw)
  have HS3 := Lib.hid (World.grownBy.size gw)
  clear gw
  have H8 := Lib.hid hmb
  have HT := Lib.hid k4
  clear hmb k4 HM
  have t0 := H0.out.1
  go_wp2_with fail
  clear t0
  have HSA := Lib.hid (show b4 < p6 ∧ p6 < Y.heap.size ∧ w.heap.size ≤ b0 ∧ b0 < b1 ∧ b1 < b2 ∧ b2 < b3 ∧ b3 < b4 from (by have := HN.out; have := HS1.out; have := HS2.out; have := HS0.out; have := HS3.out; omega))
  go_loopg [21] r (fun gk s21 wr => ∃ (k : Nat) (xa ma : Option Addr) (xc mc : Nat), s21 = .int .i64 (k : Int) ∧ gk = r - k ∧ k ≤ r ∧ w.grownBy wr none ∧ p6 < wr.heap.size ∧ TF wr b0 r (.func (.func 97) #[] #[.pointer (some ⟨nb, 0, none⟩), .pointer (some ⟨ab, 0, none⟩)]) ∧ CF wr b1 xa (st k).1.length xc ∧ MF wr p6 2 ma (st k).2.length mc ∧ CF wr b3 none 0 0 ∧ MF wr b4 0 none 0 0 ∧ GatesW wr xa xc (st k).1 ∧ CellsW wr ma mc (st k).2)
  case atStart => exact ⟨0, a1, a4, c1, c4, rfl, rfl, Nat.zero_le _, HG.out, HSA.out.2.1, H0.out, by rw [HL.out.2.2.2.2.2, HL.out.1]; exact H1.out, by rw [HL.out.2.2.2.2.2, HL.out.2.1]; exact H8.out, H3.out, H4.out, by rw [HL.out.2.2.2.2.2]; exact HR.out, by rw [HL.out.2.2.2.2.2]; exact HT.out⟩
  case round =>
    clear H0 H1 H2 H3 H4 H8 HR HT HG
    obtain ⟨k, xa, ma, xc, mc, rfl, hgk, hk, hg, hp6, h0, h1, h8, h3, h4, hr, ht⟩ := hrel
    obtain ⟨g, hgg⟩ : ∃ z, (st k).1 = z := ⟨_, rfl⟩
    obtain ⟨l, hll⟩ : ∃ z, (st k).2 = z := ⟨_, rfl⟩
    rw [hgg] at h1 hr
    rw [hll] at h8 ht
    obtain ⟨ny, hny⟩ : ∃ z, g.length = z := ⟨_, rfl⟩
    obtain ⟨nz, hnz⟩ : ∃ z, l.length = z := ⟨_, rfl⟩
    rw [hny] at h1
    rw [hnz] at h8
    have HG := Lib.hid hg
    have H0 := Lib.hid h0
    have H1 := Lib.hid h1
    have H8 := Lib.hid h8
    have H3 := Lib.hid h3
    have H4 := Lib.hid h4
    have HR := Lib.hid hr
    have HT := Lib.hid ht
    have HP := Lib.hid hp6
    have HK := Lib.hid (show gk = r - k ∧ (st k).1 = g ∧ (st k).2 = l ∧ g.length = ny ∧ l.length = nz from ⟨hgk, hgg, hll, hny, hnz⟩)
    clear hg h0 h1 h8 h3 h4 hr ht hp6 hgk hgg hll hny hnz
    by_cases hkr : k < r
    · have f1 : decide (k < r) = true := decide_eq_true hkr
      have f2 : decide ((k : Int) < (r : Int)) = true := decide_eq_true (by omega)
      have hk1 : IntKind.i64.wrap ((k : Int) + 1) = ((k + 1 : Nat) : Int) := by rw [IntWalk.i64_in _ (by have := HL.out; omega)]; omega
      have HCC := Lib.hid (HC.out k hkr)
      rw [HK.out.2.1, HK.out.2.2.1] at HCC
      have q1 := H1.out.1
      have q8 := H8.out.1
      have r8 := H8.out.2.1
      have t0 := H0.out.1
      have t1 := H0.out.2
      go_wp2_with fail
      clear q1 q8 r8 t0 t1
      refine (HCC.out wr xa ma xc mc ny nz HG.out HK.out.2.2.2.1 HK.out.2.2.2.2 HR.out HT.out).mono ?_
      rintro e U ⟨a5, c5, a6, n6, c6, rfl, hn6, hr, hm2, gw⟩
      replace H0 := Lib.hid (H0.out.grown gw)
      replace H1 := Lib.hid (H1.out.grown gw)
      replace H3 := Lib.hid (H3.out.grown gw)
      replace H4 := Lib.hid (H4.out.grown gw)
      replace H8 := Lib.hid (H8.out.grown gw)
      replace HR := Lib.hid (HR.out.grown gw)
      replace HT := Lib.hid (HT.out.grown gw)
      replace HG := Lib.hid (World.grownBy.trans HG.out gw)
      have HS51 := Lib.hid (World.grownBy.size gw)
      clear gw
      obtain ⟨g2, hg2⟩ : ∃ z, (st (k + 1)).1 = z := ⟨_, rfl⟩
      obtain ⟨l2, hl2⟩ : ∃ z, (st (k + 1)).2 = z := ⟨_, rfl⟩
      rw [hg2] at hr ⊢
      rw [hl2] at hn6 hm2
      have HR2 := Lib.hid hr
      have HT2 := Lib.hid hm2
      have HK2 := Lib.hid (show (st (k + 1)).1 = g2 ∧ (st (k + 1)).2 = l2 ∧ l2.length = n6 from ⟨hg2, hl2, hn6⟩)
      clear hr hm2 hn6 hg2 hl2 HR HT HCC
      have q1 := H1.out.1
      have f1 := H1.out.2
      have q8 := H8.out.1
      have r8 := H8.out.2.1
      have f8 := H8.out.2.2.1
      have e8 := H8.out.2.2.2
      have hne1 : ¬ b1 = p6 := (by have := HSA.out; have := HP.out; have := HS51.out; omega)
      have hne2 : ¬ p6 = b1 := (by have := HSA.out; have := HP.out; have := HS51.out; omega)
      go_upto_region 6 with fail
      clear q1 f1 q8 r8 f8 e8 hne1 hne2
      have nw0 := TF.setc (b' := b1) H0.out (.slice a5 g2.length c5) (by have := HSA.out; have := HP.out; have := HS51.out; omega)
      have nw1 := H1.out.put a5 g2.length c5
      have nw3 := H1.out.cf (.slice a5 g2.length c5) H3.out (by have := HSA.out; have := HP.out; have := HS51.out; omega)
      have nw4 := H1.out.mf (.slice a5 g2.length c5) H4.out
      have nw8 := H1.out.mf (.slice a5 g2.length c5) H8.out
      have nwR2 := H1.out.gates (.slice a5 g2.length c5) HR2.out
      have nwT2 := H1.out.cells (.slice a5 g2.length c5) HT2.out
      have nG := CF.grows HG.out (by have := HSA.out; have := HP.out; have := HS51.out; omega) (.slice a5 g2.length c5) (b := b1)
      have nS : (World.setCell U ⟨b1, 0, none⟩ (.slice a5 g2.length c5)).heap.size = U.heap.size := by simp
      obtain ⟨V51, hV⟩ : ∃ z, World.setCell U ⟨b1, 0, none⟩ (.slice a5 g2.length c5) = z := ⟨_, rfl⟩
      rw [hV] at nw0 nw1 nw3 nw4 nw8 nwR2 nwT2 nG nS ⊢
      clear hV
      replace H0 := Lib.hid nw0
      replace H1 := Lib.hid nw1
      replace H3 := Lib.hid nw3
      replace H4 := Lib.hid nw4
      replace H8 := Lib.hid nw8
      replace HR2 := Lib.hid nwR2
      replace HT2 := Lib.hid nwT2
      replace HG := Lib.hid nG
      have HS52 := Lib.hid nS
      clear nG nS nw0 nw1 nw3 nw4 nw8 nwR2 nwT2
      have nw0 := TF.setm (b' := p6) H0.out (.int .i64 2) (.slice a6 n6 c6) (by have := HSA.out; have := HP.out; have := HS51.out; have := HS52.out; omega)
      have nw1 := H8.out.cf (.int .i64 2) (.slice a6 n6 c6) H1.out
      have nw3 := H8.out.cf (.int .i64 2) (.slice a6 n6 c6) H3.out
      have nw4 := H8.out.mf (.int .i64 2) (.slice a6 n6 c6) H4.out (by have := HSA.out; have := HP.out; have := HS51.out; have := HS52.out; omega)
      have nw8 := H8.out.put 2 a6 n6 c6
      have nwR2 := H8.out.gates (.int .i64 2) (.slice a6 n6 c6) HR2.out
      have nwT2 := H8.out.cells (.int .i64 2) (.slice a6 n6 c6) HT2.out
      have nG := MF.grows HG.out (by have := HSA.out; have := HP.out; have := HS51.out; have := HS52.out; omega) (.int .i64 2) (.slice a6 n6 c6) (b := p6)
      have nS : (World.setCell (World.setCell V51 ⟨p6, 0, none⟩ (.int .i64 2)) ⟨p6, 1, none⟩ (.slice a6 n6 c6)).heap.size = V51.heap.size := by simp
      unfold laidX at nw0 nw1 nw3 nw4 nw8 nwR2 nwT2 nG
      obtain ⟨V52, hV⟩ : ∃ z, World.setCell (World.setCell V51 ⟨p6, 0, none⟩ (.int .i64 2)) ⟨p6, 1, none⟩ (.slice a6 n6 c6) = z := ⟨_, rfl⟩
      rw [hV] at nw0 nw1 nw3 nw4 nw8 nwR2 nwT2 nG nS ⊢
      clear hV
      replace H0 := Lib.hid nw0
      replace H1 := Lib.hid nw1
      replace H3 := Lib.hid nw3
      replace H4 := Lib.hid nw4
      replace H8 := Lib.hid nw8
      replace HR2 := Lib.hid nwR2
      replace HT2 := Lib.hid nwT2
      replace HG := Lib.hid nG
      have HS53 := Lib.hid nS
      clear nG nS nw0 nw1 nw3 nw4 nw8 nwR2 nwT2
      go_wp2_with fail
      go_roundg (r - (k + 1))
      case measure => rw [HK.out.1]; omega
      case rel => exact ⟨k + 1, a5, a6, c5, c6, rfl, rfl, by omega, HG.out, (by have := HSA.out; have := HP.out; have := HS51.out; have := HS52.out; have := HS53.out; omega), H0.out, by rw [HK2.out.1]; exact H1.out, by rw [HK2.out.2.1, HK2.out.2.2]; exact H8.out, H3.out, H4.out, by rw [HK2.out.1]; exact HR2.out, by rw [HK2.out.2.1]; exact HT2.out⟩
    · have f1 : decide (k < r) = false := decide_eq_false hkr
      have f2 : decide ((k : Int) < (r : Int)) = false := decide_eq_false (by omega)
      have hkr2 : k = r := by omega
      have HKE := Lib.hid (show (st r).1 = g ∧ (st r).2 = l from by rw [← hkr2]; exact ⟨HK.out.2.1, HK.out.2.2.1⟩)
      clear hkr hkr2 hk
      go_wp2_with fail
      obtain ⟨wd, hwd⟩ : ∃ z, wr.drew = z := ⟨_, rfl⟩
      have gw : wr.grownBy wd none := by rw [← hwd]; exact ⟨rfl, rfl, rfl, Nat.le_refl _, fun _ _ _ => rfl⟩
      replace H0 := Lib.hid (H0.out.grown gw)
      replace H1 := Lib.hid (H1.out.grown gw)
      replace H3 := Lib.hid (H3.out.grown gw)
      replace H4 := Lib.hid (H4.out.grown gw)
      replace H8 := Lib.hid (H8.out.grown gw)
      replace HR := Lib.hid (HR.out.grown gw)
      replace HT := Lib.hid (HT.out.grown gw)
      replace HG := Lib.hid (World.grownBy.trans HG.out gw)
      have HS54 := Lib.hid (World.grownBy.size gw)
      clear gw
      have HS := Lib.hid (fun (Wh : World) (hWh : CF Wh b1 xa ny xc ∧ MF Wh p6 2 ma nz mc) => (⟨hWh.1.1, hWh.2.1, hWh.2.2.1⟩ : (fun Wh : World => Wh.cell? ⟨b1, 0, none⟩ = some (.slice xa ny xc) ∧ Wh.cell? ⟨p6, 0, none⟩ = some (.int .i64 2) ∧ Wh.cell? ⟨p6, 1, none⟩ = some (.slice ma nz mc)) Wh))
      have hdr : CF wr.drew b1 xa ny xc ∧ MF wr.drew p6 2 ma nz mc := by rw [hwd]; exact ⟨H1.out, H8.out⟩
      refine wp_region_held_drew (S := (fun Wh : World => Wh.cell? ⟨b1, 0, none⟩ = some (.slice xa ny xc) ∧ Wh.cell? ⟨p6, 0, none⟩ = some (.int .i64 2) ∧ Wh.cell? ⟨p6, 1, none⟩ = some (.slice ma nz mc))) (by kernel_rfl) (HS.out _ hdr) (fun hHeld => ?_)
      rw [hwd] at hHeld ⊢
      clear hwd
      refine wpAnyH_take (i := 0) (oi := { dst := some 32, op := Op.load 27 (Operand.tmp 4), type := 27, pos := "closure.go:25", after := #[], guard := none }) (v := ?_) rfl (by kernel_rfl) (by kernel_rfl) (by kernel_rfl) (fun _ _ _ h => h) (Or.inl ⟨by rfl, ?_⟩) (by assumption) ?_
      rotate_left 1
      · (intro W h; (try dsimp only at h); go_simp <;> with_reducible rfl)
      try simp only [Act.put, sA, sB, sC]
      refine wpAnyH_take (i := 1) (oi := { dst := some 33, op := Op.load 35 (Operand.tmp 8), type := 35, pos := "closure.go:25", after := #[{ on := 2, ground := Ground.gcOnly Departure.lateStores }], guard := none }) (v := ?_) rfl (by kernel_rfl) (by kernel_rfl) (by kernel_rfl) (fun _ _ _ h => h) (Or.inl ⟨by rfl, ?_⟩) (by assumption) ?_
      rotate_left 1
      · (intro W h; (try dsimp only at h); go_simp <;> with_reducible rfl)
      try simp only [Act.put, sA, sB, sC]
      refine wpAnyH_ready (rs := [2]) (by kernel_rfl) (by simp) ?_
      refine (AllReadyH.cons (o := { dst := none, op := Op.store 27 (Operand.tmp 6) (Operand.tmp 32), type := 0, pos := "closure.go:25", after := #[{ on := 0, ground := Ground.data }, { on := 0, ground := Ground.phase }, { on := 1, ground := Ground.textOnly Departure.lateStores }], guard := none }) rfl (fun K hK => ?_) AllReadyH.nil)
      rw [if_pos (by rfl)]
      have k1 := H3.out.1
      have kf := H3.out.2
      go_simp
      clear k1 kf
      have nw0 := TF.setc (b' := b3) H0.out (.slice xa ny xc) (by have := HSA.out; have := HP.out; have := HS54.out; omega)
      have nw1 := H3.out.cf (.slice xa ny xc) H1.out (by have := HSA.out; have := HP.out; have := HS54.out; omega)
      have nw3 := H3.out.put xa ny xc
      have nw4 := H3.out.mf (.slice xa ny xc) H4.out
      have nw8 := H3.out.mf (.slice xa ny xc) H8.out
      have nwR := H3.out.gates (.slice xa ny xc) HR.out
      have nwT := H3.out.cells (.slice xa ny xc) HT.out
      have nG := CF.grows HG.out (by have := HSA.out; have := HP.out; have := HS54.out; omega) (.slice xa ny xc) (b := b3)
      have nS : (World.setCell wd ⟨b3, 0, none⟩ (.slice xa ny xc)).heap.size = wd.heap.size := by simp
      obtain ⟨V53, hV⟩ : ∃ z, World.setCell wd ⟨b3, 0, none⟩ (.slice xa ny xc) = z := ⟨_, rfl⟩
      rw [hV] at nw0 nw1 nw3 nw4 nw8 nwR nwT nG nS ⊢
      clear hV
      replace H0 := Lib.hid nw0
      replace H1 := Lib.hid nw1
      replace H3 := Lib.hid nw3
      replace H4 := Lib.hid nw4
      replace H8 := Lib.hid nw8
      replace HR := Lib.hid nwR
      replace HT := Lib.hid nwT
      replace HG := Lib.hid nG
      have HS55 := Lib.hid nS
      clear nG nS nw0 nw1 nw3 nw4 nw8 nwR nwT
      refine hK.out _ _ (HS.out _ ⟨H1.out, H8.out⟩) (fun hHeld => ?_)
      clear hK K
      try simp only [Act.put, sA, sB, sC]
      refine wpAnyH_ready (rs := [3]) (by kernel_rfl) (by simp) ?_
      refine (AllReadyH.cons (o := { dst := none, op := Op.store 35 (Operand.tmp 7) (Operand.tmp 33), type := 0, pos := "closure.go:25", after := #[{ on := 1, ground := Ground.data }, { on := 2, ground := Ground.chain }, { on := 0, ground := Ground.phase }, { on := 1, ground := Ground.phase }, { on := 2, ground := Ground.phase }], guard := none }) rfl (fun K hK => ?_) AllReadyH.nil)
      rw [if_pos (by rfl)]
      have k1 := H4.out.1
      have k2 := H4.out.2.1
      have kf := H4.out.2.2.1
      have kg := H4.out.2.2.2
      go_simp
      clear k1 k2 kf kg
      have nw0 := TF.setm (b' := b4) H0.out (.int .i64 2) (.slice ma nz mc) (by have := HSA.out; have := HP.out; have := HS54.out; have := HS55.out; omega)
      have nw1 := H4.out.cf (.int .i64 2) (.slice ma nz mc) H1.out
      have nw3 := H4.out.cf (.int .i64 2) (.slice ma nz mc) H3.out
      have nw4 := H4.out.put 2 ma nz mc
      have nw8 := H4.out.mf (.int .i64 2) (.slice ma nz mc) H8.out (by have := HSA.out; have := HP.out; have := HS54.out; have := HS55.out; omega)
      have nwR := H4.out.gates (.int .i64 2) (.slice ma nz mc) HR.out
      have nwT := H4.out.cells (.int .i64 2) (.slice ma nz mc) HT.out
      have nG := MF.grows HG.out (by have := HSA.out; have := HP.out; have := HS54.out; have := HS55.out; omega) (.int .i64 2) (.slice ma nz mc) (b := b4)
      have nS : (World.setCell (World.setCell V53 ⟨b4, 0, none⟩ (.int .i64 2)) ⟨b4, 1, none⟩ (.slice ma nz mc)).heap.size = V53.heap.size := by simp
      unfold laidX at nw0 nw1 nw3 nw4 nw8 nwR nwT nG
      obtain ⟨V54, hV⟩ : ∃ z, World.setCell (World.setCell V53 ⟨b4, 0, none⟩ (.int .i64 2)) ⟨b4, 1, none⟩ (.slice ma nz mc) = z := ⟨_, rfl⟩
      rw [hV] at nw0 nw1 nw3 nw4 nw8 nwR nwT nG nS ⊢
      clear hV
      replace H0 := Lib.hid nw0
      replace H1 := Lib.hid nw1
      replace H3 := Lib.hid nw3
      replace H4 := Lib.hid nw4
      replace H8 := Lib.hid nw8
      replace HR := Lib.hid nwR
      replace HT := Lib.hid nwT
      replace HG := Lib.hid nG
      have HS56 := Lib.hid nS
      clear nG nS nw0 nw1 nw3 nw4 nw8 nwR nwT
      refine hK.out _ _ (HS.out _ ⟨H1.out, H8.out⟩) (fun hHeld => ?_)
      clear hK K
      try simp only [Act.put, sA, sB, sC]
      refine wpAnyH_done (by kernel_rfl) ?_ _
      have hEND := hdr
      clear hHeld
      go_wp2_with fail
      refine bodyPost_ret (resU106 _ _ b3 b4 xa ny xc _ _ rfl rfl H3.out.1 H4.out.1 H4.out.2.1) rfl ?_
      rw [HKE.out.1, HKE.out.2]
      exact ⟨xa, xc, ma, nz, mc, by rw [HK.out.2.2.2.1], HK.out.2.2.2.2, HR.out, HT.out, HG.out⟩
end Go.Proofs.YthdhmflodiincaaGreat

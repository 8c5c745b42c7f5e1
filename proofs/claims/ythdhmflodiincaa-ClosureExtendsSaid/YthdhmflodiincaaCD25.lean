/- Texts of the proof: VB. -/
import Derived.Test.YthdhmflodiincaaCD22
import Derived.Test.YthdhmflodiincaaCD24
import Derived.Deep.DeepCutAuto
set_option maxRecDepth 100000
set_option maxHeartbeats 8000000
namespace Go.Proofs.Ythdhmflodiincaa
open Go.RowKit Go.Maps

abbrev hw1o0 : Oper := { dst := some 111, op := Op.call { callee := Callee.value (Operand.func 66), args := #[], argTypes := #[] }, type := 30, pos := "law.go:137", after := #[], guard := none }
abbrev hw1o1 : Oper := { dst := some 112, op := Op.move (Operand.tmp 9), type := 3, pos := "law.go:137", after := #[], guard := none }
abbrev hw1o2 : Oper := { dst := some 113, op := Op.load 26 (Operand.tmp 17), type := 26, pos := "law.go:137", after := #[], guard := none }
abbrev hw1o3 : Oper := { dst := some 114, op := Op.call { callee := Callee.value (Operand.func 60), args := #[Operand.tmp 111, Operand.tmp 112, Operand.tmp 113], argTypes := #[30, 3, 26] }, type := 38, pos := "law.go:137", after := #[{ on := 0, ground := Ground.data }, { on := 1, ground := Ground.data }, { on := 2, ground := Ground.data }, { on := 0, ground := Ground.chain }], guard := none }
abbrev hw1o4 : Oper := { dst := some 110, op := Op.move (Operand.tmp 114), type := 38, pos := "law.go:137", after := #[{ on := 3, ground := Ground.data }], guard := none }
abbrev hw1o5 : Oper := { dst := some 115, op := Op.extract (Operand.tmp 110) 0, type := 30, pos := "law.go:137", after := #[{ on := 4, ground := Ground.data }], guard := none }
abbrev hw1o6 : Oper := { dst := some 116, op := Op.extract (Operand.tmp 110) 1, type := 26, pos := "law.go:137", after := #[{ on := 4, ground := Ground.data }, { on := 9, ground := Ground.gcOnly Departure.lateStores }], guard := none }
abbrev hw1o7 : Oper := { dst := some 18, op := Op.alloc 30, type := 0, pos := "law.go:137", after := #[], guard := none }
abbrev hw1o8 : Oper := { dst := some 19, op := Op.alloc 26, type := 0, pos := "law.go:137", after := #[], guard := none }
abbrev hw1o9 : Oper := { dst := none, op := Op.store 30 (Operand.tmp 18) (Operand.tmp 115), type := 0, pos := "law.go:137", after := #[{ on := 7, ground := Ground.data }, { on := 5, ground := Ground.data }, { on := 3, ground := Ground.chain }, { on := 0, ground := Ground.phase }, { on := 1, ground := Ground.phase }, { on := 2, ground := Ground.phase }, { on := 3, ground := Ground.phase }, { on := 4, ground := Ground.phase }, { on := 5, ground := Ground.phase }, { on := 6, ground := Ground.textOnly Departure.lateStores }, { on := 7, ground := Ground.phase }, { on := 8, ground := Ground.phase }], guard := none }
abbrev hw1o10 : Oper := { dst := none, op := Op.store 26 (Operand.tmp 19) (Operand.tmp 116), type := 0, pos := "law.go:137", after := #[{ on := 8, ground := Ground.data }, { on := 6, ground := Ground.data }, { on := 9, ground := Ground.chain }, { on := 0, ground := Ground.phase }, { on := 1, ground := Ground.phase }, { on := 2, ground := Ground.phase }, { on := 3, ground := Ground.phase }, { on := 4, ground := Ground.phase }, { on := 5, ground := Ground.phase }, { on := 6, ground := Ground.phase }, { on := 7, ground := Ground.phase }, { on := 8, ground := Ground.phase }, { on := 9, ground := Ground.phase }], guard := none }
def hw1Ops : Array Oper := #[hw1o0, hw1o1, hw1o2, hw1o3, hw1o4, hw1o5, hw1o6, hw1o7, hw1o8, hw1o9, hw1o10]
def hw1P (V : World) (bK mK cK _n : Nat) (aK : Option Addr) (_K _M : List Cl) : World → Prop := (fun Wh : World => V.grownBy Wh none ∧ Wh.cell? ⟨bK, 0, none⟩ = some (.int .i64 2) ∧ Wh.cell? ⟨bK, 1, none⟩ = some (.slice aK mK cK))
theorem hw1S {V W : World} {bK mK cK n : Nat} {aK : Option Addr} {K M : List Cl} (h : XB V bK 2 aK mK cK K ∧ (∀ (U : World) (a : Option Addr) (c : Nat), V.grownBy U none → GatesW U a c hN → Calls Try.prog 60 #[.agg #[.slice a 1 c], .int .i64 (n : Int), .agg #[.int .i64 2, .slice aK mK cK]] U fun e w' => ∃ a c b q d, e = .returned (.tuple #[.agg #[.slice a 1 c], .agg #[.int .i64 2, .slice b q d]]) ∧ M.length = q ∧ GatesW w' a c hN ∧ CellsW w' b d M ∧ U.grownBy w' none)) (HG : V.grownBy W none) : (hw1P V bK mK cK n aK K M) W := ⟨HG, (h.1.grown HG).1, (h.1.grown HG).2.1⟩
def hw1F (Q : Exit → Act → World → Prop) (V : World) (bK _mK _cK n : Nat) (_aK : Option Addr) (_K M : List Cl) : Prop := ∀ (aJ : Option Addr) (cJ : Nat) (bJ : Option Addr) (nJ : Nat) (dJ : Nat) (p6 : Nat) (p7 : Nat) (u0 u1 u2 u3 u4 u5 u6 u8 u10 u11 u12 u13 u14 u15 u16 u20 u21 u22 u23 u24 u25 u26 u27 u28 u29 u30 u31 u32 u33 u34 u35 u36 u37 u38 u39 u40 u41 u42 u43 u44 u45 u46 u47 u48 u49 u50 u51 u52 u53 u54 u55 u56 u57 u58 u59 u60 u61 u62 u63 u64 u65 u66 u67 u68 u69 u70 u71 u72 u73 u74 u75 u76 u77 u78 u79 u80 u81 u82 u83 u84 u85 u86 u87 u88 u89 u90 u91 u92 u93 u94 u95 u96 u97 u98 u99 u100 u101 u102 u103 u104 u105 u106 u107 u108 u109 u110 u111 u112 u113 u114 u115 u116 u117 u118 u119 u120 u121 u122 u123 u124 u125 u126 u127 u128 u129 u130 u131 u132 u133 u134 u135 u136 u137 u138 u139 u140 u141 u142 u143 u144 : Value) (W : World), V.grownBy W none → M.length = nJ → V.heap.size ≤ p6 → V.heap.size ≤ p7 → CB W p6 aJ cJ hN → XB W p7 2 bJ nJ dJ M → Q .normal ⟨#[u0, u1, u2, u3, u4, u5, u6, .bool true, u8, .int .i64 (n : Int), u10, u11, u12, u13, u14, u15, u16, .pointer (some ⟨bK, 0, none⟩), .pointer (some ⟨p6, 0, none⟩), .pointer (some ⟨p7, 0, none⟩), u20, u21, u22, u23, u24, u25, u26, u27, u28, u29, u30, u31, u32, u33, u34, u35, u36, u37, u38, u39, u40, u41, u42, u43, u44, u45, u46, u47, u48, u49, u50, u51, u52, u53, u54, u55, u56, u57, u58, u59, u60, u61, u62, u63, u64, u65, u66, u67, u68, u69, u70, u71, u72, u73, u74, u75, u76, u77, u78, u79, u80, u81, u82, u83, u84, u85, u86, u87, u88, u89, u90, u91, u92, u93, u94, u95, u96, u97, u98, u99, u100, u101, u102, u103, u104, u105, u106, u107, u108, u109, u110, u111, u112, u113, u114, u115, u116, u117, u118, u119, u120, u121, u122, u123, u124, u125, u126, u127, u128, u129, u130, u131, u132, u133, u134, u135, u136, u137, u138, u139, u140, u141, u142, u143, u144], []⟩ W
def hw1f (t : Nat → Value) (bK _mK _cK n : Nat) (_aK : Option Addr) (_K _M : List Cl) (v18 v19 v110 v111 v112 v113 v114 v115 v116 : Value) : Act := ⟨#[t 0, t 1, t 2, t 3, t 4, t 5, t 6, .bool true, t 8, .int .i64 (n : Int), t 10, t 11, t 12, t 13, t 14, t 15, t 16, .pointer (some ⟨bK, 0, none⟩), v18, v19, t 20, t 21, t 22, t 23, t 24, t 25, t 26, t 27, t 28, t 29, t 30, t 31, t 32, t 33, t 34, t 35, t 36, t 37, t 38, t 39, t 40, t 41, t 42, t 43, t 44, t 45, t 46, t 47, t 48, t 49, t 50, t 51, t 52, t 53, t 54, t 55, t 56, t 57, t 58, t 59, t 60, t 61, t 62, t 63, t 64, t 65, t 66, t 67, t 68, t 69, t 70, t 71, t 72, t 73, t 74, t 75, t 76, t 77, t 78, t 79, t 80, t 81, t 82, t 83, t 84, t 85, t 86, t 87, t 88, t 89, t 90, t 91, t 92, t 93, t 94, t 95, t 96, t 97, t 98, t 99, t 100, t 101, t 102, t 103, t 104, t 105, t 106, t 107, t 108, t 109, v110, v111, v112, v113, v114, v115, v116, t 117, t 118, t 119, t 120, t 121, t 122, t 123, t 124, t 125, t 126, t 127, t 128, t 129, t 130, t 131, t 132, t 133, t 134, t 135, t 136, t 137, t 138, t 139, t 140, t 141, t 142, t 143, t 144], []⟩
section
variable {Q : Exit → Act → World → Prop} {V W : World} {bK mK cK n : Nat} {aK : Option Addr} {K M : List Cl} {L : Array Bool} {t : Nat → Value}
theorem hw10 (_hp : ∀ c a d v w, Q (.panic c) (Act.put a d v) w → Q (.panic c) a w) {a0 : Option Addr} {c0 : Nat} {aJ : Option Addr} {cJ : Nat} {bJ : Option Addr} {nJ : Nat} {dJ : Nat} {p6 : Nat} {p7 : Nat} (hl : L = #[true, true, true, true, true, true, true, true, true, true, true]) (_HB : Hid (XB V bK 2 aK mK cK K ∧ (∀ (U : World) (a : Option Addr) (c : Nat), V.grownBy U none → GatesW U a c hN → Calls Try.prog 60 #[.agg #[.slice a 1 c], .int .i64 (n : Int), .agg #[.int .i64 2, .slice aK mK cK]] U fun e w' => ∃ a c b q d, e = .returned (.tuple #[.agg #[.slice a 1 c], .agg #[.int .i64 2, .slice b q d]]) ∧ M.length = q ∧ GatesW w' a c hN ∧ CellsW w' b d M ∧ U.grownBy w' none))) (HG : V.grownBy W none) (l_n : M.length = nJ) (l_z : V.heap.size ≤ p6) (l_y : V.heap.size ≤ p7) (cb : CB W p6 aJ cJ hN) (xb : XB W p7 2 bJ nJ dJ M) (HQ : Hid (hw1F Q V bK mK cK n aK K M)) :
    wpAnyH Try.prog .any hw1Ops Q (hw1P V bK mK cK n aK K M) 0 L (hw1f t bK mK cK n aK K M (.pointer (some ⟨p6, 0, none⟩)) (.pointer (some ⟨p7, 0, none⟩)) (.tuple #[.agg #[.slice aJ 1 cJ], .agg #[.int .i64 2, .slice bJ nJ dJ]]) (.agg #[.slice a0 1 c0]) (.int .i64 (n : Int)) (.agg #[.int .i64 2, .slice aK mK cK]) (.tuple #[.agg #[.slice aJ 1 cJ], .agg #[.int .i64 2, .slice bJ nJ dJ]]) (.agg #[.slice aJ 1 cJ]) (.agg #[.int .i64 2, .slice bJ nJ dJ])) W := by
  subst hl
  unfold hw1f
  refine wpAnyH_done (by kernel_rfl) ?_ _
  exact HQ.out _ _ _ _ _ _ _ _ _ _ _ _ _ _ _ _ _ _ _ _ _ _ _ _ _ _ _ _ _ _ _ _ _ _ _ _ _ _ _ _ _ _ _ _ _ _ _ _ _ _ _ _ _ _ _ _ _ _ _ _ _ _ _ _ _ _ _ _ _ _ _ _ _ _ _ _ _ _ _ _ _ _ _ _ _ _ _ _ _ _ _ _ _ _ _ _ _ _ _ _ _ _ _ _ _ _ _ _ _ _ _ _ _ _ _ _ _ _ _ _ _ _ _ _ _ _ _ _ _ _ _ _ _ _ _ _ _ _ _ _ _ _ _ _ _ _ _ _ HG l_n l_z l_y cb xb

theorem hw11 (hp : ∀ c a d v w, Q (.panic c) (Act.put a d v) w → Q (.panic c) a w) {a0 : Option Addr} {c0 : Nat} {aJ : Option Addr} {cJ : Nat} {bJ : Option Addr} {nJ : Nat} {dJ : Nat} {p6 : Nat} {p7 : Nat} (hl : L = #[true, true, true, true, true, true, true, true, true, true, false]) (HB : Hid (XB V bK 2 aK mK cK K ∧ (∀ (U : World) (a : Option Addr) (c : Nat), V.grownBy U none → GatesW U a c hN → Calls Try.prog 60 #[.agg #[.slice a 1 c], .int .i64 (n : Int), .agg #[.int .i64 2, .slice aK mK cK]] U fun e w' => ∃ a c b q d, e = .returned (.tuple #[.agg #[.slice a 1 c], .agg #[.int .i64 2, .slice b q d]]) ∧ M.length = q ∧ GatesW w' a c hN ∧ CellsW w' b d M ∧ U.grownBy w' none))) (HG : V.grownBy W none) (l_n : M.length = nJ) (mJ : CellsW W bJ dJ M) (l_z : V.heap.size ≤ p6) (y : XZ W p7) (l_y : V.heap.size ≤ p7) (cb : CB W p6 aJ cJ hN) (HQ : Hid (hw1F Q V bK mK cK n aK K M)) :
    wpAnyH Try.prog .any hw1Ops Q (hw1P V bK mK cK n aK K M) 1 L (hw1f t bK mK cK n aK K M (.pointer (some ⟨p6, 0, none⟩)) (.pointer (some ⟨p7, 0, none⟩)) (.tuple #[.agg #[.slice aJ 1 cJ], .agg #[.int .i64 2, .slice bJ nJ dJ]]) (.agg #[.slice a0 1 c0]) (.int .i64 (n : Int)) (.agg #[.int .i64 2, .slice aK mK cK]) (.tuple #[.agg #[.slice aJ 1 cJ], .agg #[.int .i64 2, .slice bJ nJ dJ]]) (.agg #[.slice aJ 1 cJ]) (.agg #[.int .i64 2, .slice bJ nJ dJ])) W := by
  subst hl
  unfold hw1f
  refine wpAnyH_ready (rs := [10]) (by kernel_rfl) (by simp) ?_
  refine (AllReadyH.cons (o := hw1o10) rfl (fun K hK => ?_) AllReadyH.nil)
  rw [if_pos (by rfl)]
  unfold hw1o10
  have y0 := y.1
  have y1 := y.2.1
  have y2 := y.2.2.1
  have y3 := y.2.2.2
  go_simp
  have xb := (show XB (laidX W p7 (.int .i64 2) (.slice bJ nJ dJ)) p7 2 bJ nJ dJ M from XZ.put y 2 mJ l_n)
  replace cb := XZ.cb y (.int .i64 2) (.slice bJ nJ dJ) cb
  replace HG := XZ.grows HG l_y (.int .i64 2) (.slice bJ nJ dJ)
  clear y mJ
  unfold laidX at HG cb xb
  obtain ⟨U, hU⟩ : ∃ U, (W.setCell ⟨p7, 0, none⟩ (.int .i64 2)).setCell ⟨p7, 1, none⟩ (.slice bJ nJ dJ) = U := ⟨_, rfl⟩
  rw [hU] at HG cb xb ⊢
  clear hU
  refine hK.out _ _ (hw1S HB.out HG) (fun hHeld => ?_)
  clear hK K
  try simp only [sA, sB, sC]
  exact hw10 hp (by kernel_rfl) HB HG l_n l_z l_y cb xb HQ

theorem hw12 (hp : ∀ c a d v w, Q (.panic c) (Act.put a d v) w → Q (.panic c) a w) {a0 : Option Addr} {c0 : Nat} {aJ : Option Addr} {cJ : Nat} {bJ : Option Addr} {nJ : Nat} {dJ : Nat} {p6 : Nat} {p7 : Nat} (hl : L = #[true, true, true, true, true, true, true, true, true, false, false]) (HB : Hid (XB V bK 2 aK mK cK K ∧ (∀ (U : World) (a : Option Addr) (c : Nat), V.grownBy U none → GatesW U a c hN → Calls Try.prog 60 #[.agg #[.slice a 1 c], .int .i64 (n : Int), .agg #[.int .i64 2, .slice aK mK cK]] U fun e w' => ∃ a c b q d, e = .returned (.tuple #[.agg #[.slice a 1 c], .agg #[.int .i64 2, .slice b q d]]) ∧ M.length = q ∧ GatesW w' a c hN ∧ CellsW w' b d M ∧ U.grownBy w' none))) (HG : V.grownBy W none) (l_n : M.length = nJ) (gJ : GatesW W aJ cJ hN) (mJ : CellsW W bJ dJ M) (z : BoxZ W p6) (l_z : V.heap.size ≤ p6) (y : XZ W p7) (l_y : V.heap.size ≤ p7) (HQ : Hid (hw1F Q V bK mK cK n aK K M)) :
    wpAnyH Try.prog .any hw1Ops Q (hw1P V bK mK cK n aK K M) 2 L (hw1f t bK mK cK n aK K M (.pointer (some ⟨p6, 0, none⟩)) (.pointer (some ⟨p7, 0, none⟩)) (.tuple #[.agg #[.slice aJ 1 cJ], .agg #[.int .i64 2, .slice bJ nJ dJ]]) (.agg #[.slice a0 1 c0]) (.int .i64 (n : Int)) (.agg #[.int .i64 2, .slice aK mK cK]) (.tuple #[.agg #[.slice aJ 1 cJ], .agg #[.int .i64 2, .slice bJ nJ dJ]]) (.agg #[.slice aJ 1 cJ]) (.agg #[.int .i64 2, .slice bJ nJ dJ])) W := by
  subst hl
  unfold hw1f
  refine wpAnyH_ready (rs := [9]) (by kernel_rfl) (by simp) ?_
  refine (AllReadyH.cons (o := hw1o9) rfl (fun K hK => ?_) AllReadyH.nil)
  rw [if_pos (by rfl)]
  unfold hw1o9
  have z0 := z.1
  have zf := z.2
  go_simp
  have cb := (show CB (W.setCell ⟨p6, 0, none⟩ (.slice aJ 1 cJ)) p6 aJ cJ hN from CB.put gJ z.1 z.2)
  replace mJ := CellsW.setB z (.slice aJ 1 cJ) mJ
  replace y := XZ.set y z (.slice aJ 1 cJ)
  replace HG := grown_own HG (grown_set W p6 0 (.slice aJ 1 cJ)) (fun k e => by cases e; exact l_z)
  clear gJ z
  obtain ⟨U, hU⟩ : ∃ U, W.setCell ⟨p6, 0, none⟩ (.slice aJ 1 cJ) = U := ⟨_, rfl⟩
  rw [hU] at HG mJ y cb ⊢
  clear hU
  refine hK.out _ _ (hw1S HB.out HG) (fun hHeld => ?_)
  clear hK K
  try simp only [sA, sB, sC]
  exact hw11 hp (by kernel_rfl) HB HG l_n mJ l_z y l_y cb HQ

theorem hw13 (hp : ∀ c a d v w, Q (.panic c) (Act.put a d v) w → Q (.panic c) a w) {a0 : Option Addr} {c0 : Nat} {aJ : Option Addr} {cJ : Nat} {bJ : Option Addr} {nJ : Nat} {dJ : Nat} {p6 : Nat} (hl : L = #[true, true, true, true, true, true, true, true, false, false, false]) (HB : Hid (XB V bK 2 aK mK cK K ∧ (∀ (U : World) (a : Option Addr) (c : Nat), V.grownBy U none → GatesW U a c hN → Calls Try.prog 60 #[.agg #[.slice a 1 c], .int .i64 (n : Int), .agg #[.int .i64 2, .slice aK mK cK]] U fun e w' => ∃ a c b q d, e = .returned (.tuple #[.agg #[.slice a 1 c], .agg #[.int .i64 2, .slice b q d]]) ∧ M.length = q ∧ GatesW w' a c hN ∧ CellsW w' b d M ∧ U.grownBy w' none))) (HG : V.grownBy W none) (l_n : M.length = nJ) (gJ : GatesW W aJ cJ hN) (mJ : CellsW W bJ dJ M) (z : BoxZ W p6) (l_z : V.heap.size ≤ p6) (HQ : Hid (hw1F Q V bK mK cK n aK K M)) :
    wpAnyH Try.prog .any hw1Ops Q (hw1P V bK mK cK n aK K M) 3 L (hw1f t bK mK cK n aK K M (.pointer (some ⟨p6, 0, none⟩)) (t 19) (.tuple #[.agg #[.slice aJ 1 cJ], .agg #[.int .i64 2, .slice bJ nJ dJ]]) (.agg #[.slice a0 1 c0]) (.int .i64 (n : Int)) (.agg #[.int .i64 2, .slice aK mK cK]) (.tuple #[.agg #[.slice aJ 1 cJ], .agg #[.int .i64 2, .slice bJ nJ dJ]]) (.agg #[.slice aJ 1 cJ]) (.agg #[.int .i64 2, .slice bJ nJ dJ])) W := by
  subst hl
  unfold hw1f
  refine wpAnyH_ready (rs := [8]) (by kernel_rfl) (by simp) ?_
  refine (AllReadyH.cons (o := hw1o8) rfl (fun K hK => ?_) AllReadyH.nil)
  rw [if_pos (by rfl)]
  unfold hw1o8
  go_simp
  have hg := World.grownBy_alloc W (.cells #[.int .i64 0, .slice none 0 0] 26) none
  have y := XZ.new W
  have l_y := World.grownBy.size HG
  replace gJ := gJ.grown hg
  replace mJ := mJ.grown hg
  replace z := z.grown hg
  replace HG := World.grownBy.trans HG hg
  obtain ⟨U, hU⟩ : ∃ U, W.alloc (.cells #[.int .i64 0, .slice none 0 0] 26) = U := ⟨_, rfl⟩
  rw [hU] at HG gJ mJ z y ⊢
  clear hU hg
  refine hK.out _ _ (hw1S HB.out HG) (fun hHeld => ?_)
  clear hK K
  try simp only [sA, sB, sC]
  exact hw12 hp (by kernel_rfl) HB HG l_n gJ mJ z l_z y l_y HQ

theorem hw14 (hp : ∀ c a d v w, Q (.panic c) (Act.put a d v) w → Q (.panic c) a w) {a0 : Option Addr} {c0 : Nat} {aJ : Option Addr} {cJ : Nat} {bJ : Option Addr} {nJ : Nat} {dJ : Nat} {p7 : Nat} (hl : L = #[true, true, true, true, true, true, true, false, true, false, false]) (HB : Hid (XB V bK 2 aK mK cK K ∧ (∀ (U : World) (a : Option Addr) (c : Nat), V.grownBy U none → GatesW U a c hN → Calls Try.prog 60 #[.agg #[.slice a 1 c], .int .i64 (n : Int), .agg #[.int .i64 2, .slice aK mK cK]] U fun e w' => ∃ a c b q d, e = .returned (.tuple #[.agg #[.slice a 1 c], .agg #[.int .i64 2, .slice b q d]]) ∧ M.length = q ∧ GatesW w' a c hN ∧ CellsW w' b d M ∧ U.grownBy w' none))) (HG : V.grownBy W none) (l_n : M.length = nJ) (gJ : GatesW W aJ cJ hN) (mJ : CellsW W bJ dJ M) (y : XZ W p7) (l_y : V.heap.size ≤ p7) (HQ : Hid (hw1F Q V bK mK cK n aK K M)) :
    wpAnyH Try.prog .any hw1Ops Q (hw1P V bK mK cK n aK K M) 3 L (hw1f t bK mK cK n aK K M (t 18) (.pointer (some ⟨p7, 0, none⟩)) (.tuple #[.agg #[.slice aJ 1 cJ], .agg #[.int .i64 2, .slice bJ nJ dJ]]) (.agg #[.slice a0 1 c0]) (.int .i64 (n : Int)) (.agg #[.int .i64 2, .slice aK mK cK]) (.tuple #[.agg #[.slice aJ 1 cJ], .agg #[.int .i64 2, .slice bJ nJ dJ]]) (.agg #[.slice aJ 1 cJ]) (.agg #[.int .i64 2, .slice bJ nJ dJ])) W := by
  subst hl
  unfold hw1f
  refine wpAnyH_ready (rs := [7]) (by kernel_rfl) (by simp) ?_
  refine (AllReadyH.cons (o := hw1o7) rfl (fun K hK => ?_) AllReadyH.nil)
  rw [if_pos (by rfl)]
  unfold hw1o7
  go_simp
  have hg := World.grownBy_alloc W (.cells #[.slice none 0 0] 30) none
  have z := BoxZ.new W
  have l_z := World.grownBy.size HG
  replace gJ := gJ.grown hg
  replace mJ := mJ.grown hg
  replace y := y.grown hg
  replace HG := World.grownBy.trans HG hg
  obtain ⟨U, hU⟩ : ∃ U, W.alloc (.cells #[.slice none 0 0] 30) = U := ⟨_, rfl⟩
  rw [hU] at HG gJ mJ y z ⊢
  clear hU hg
  refine hK.out _ _ (hw1S HB.out HG) (fun hHeld => ?_)
  clear hK K
  try simp only [sA, sB, sC]
  exact hw12 hp (by kernel_rfl) HB HG l_n gJ mJ z l_z y l_y HQ

theorem hw15 (hp : ∀ c a d v w, Q (.panic c) (Act.put a d v) w → Q (.panic c) a w) {a0 : Option Addr} {c0 : Nat} {aJ : Option Addr} {cJ : Nat} {bJ : Option Addr} {nJ : Nat} {dJ : Nat} (hl : L = #[true, true, true, true, true, true, true, false, false, false, false]) (HB : Hid (XB V bK 2 aK mK cK K ∧ (∀ (U : World) (a : Option Addr) (c : Nat), V.grownBy U none → GatesW U a c hN → Calls Try.prog 60 #[.agg #[.slice a 1 c], .int .i64 (n : Int), .agg #[.int .i64 2, .slice aK mK cK]] U fun e w' => ∃ a c b q d, e = .returned (.tuple #[.agg #[.slice a 1 c], .agg #[.int .i64 2, .slice b q d]]) ∧ M.length = q ∧ GatesW w' a c hN ∧ CellsW w' b d M ∧ U.grownBy w' none))) (HG : V.grownBy W none) (l_n : M.length = nJ) (gJ : GatesW W aJ cJ hN) (mJ : CellsW W bJ dJ M) (HQ : Hid (hw1F Q V bK mK cK n aK K M)) :
    wpAnyH Try.prog .any hw1Ops Q (hw1P V bK mK cK n aK K M) 4 L (hw1f t bK mK cK n aK K M (t 18) (t 19) (.tuple #[.agg #[.slice aJ 1 cJ], .agg #[.int .i64 2, .slice bJ nJ dJ]]) (.agg #[.slice a0 1 c0]) (.int .i64 (n : Int)) (.agg #[.int .i64 2, .slice aK mK cK]) (.tuple #[.agg #[.slice aJ 1 cJ], .agg #[.int .i64 2, .slice bJ nJ dJ]]) (.agg #[.slice aJ 1 cJ]) (.agg #[.int .i64 2, .slice bJ nJ dJ])) W := by
  subst hl
  unfold hw1f
  refine wpAnyH_ready (rs := [7, 8]) (by kernel_rfl) (by simp) ?_
  refine (AllReadyH.cons (o := hw1o7) rfl (fun K hK => ?_) (AllReadyH.cons (o := hw1o8) rfl (fun K hK => ?_) AllReadyH.nil))
  · rw [if_pos (by rfl)]
    unfold hw1o7
    go_simp
    have hg := World.grownBy_alloc W (.cells #[.slice none 0 0] 30) none
    have z := BoxZ.new W
    have l_z := World.grownBy.size HG
    replace gJ := gJ.grown hg
    replace mJ := mJ.grown hg
    replace HG := World.grownBy.trans HG hg
    obtain ⟨U, hU⟩ : ∃ U, W.alloc (.cells #[.slice none 0 0] 30) = U := ⟨_, rfl⟩
    rw [hU] at HG gJ mJ z ⊢
    clear hU hg
    refine hK.out _ _ (hw1S HB.out HG) (fun hHeld => ?_)
    clear hK K
    try simp only [sA, sB, sC]
    exact hw13 hp (by kernel_rfl) HB HG l_n gJ mJ z l_z HQ
  · rw [if_pos (by rfl)]
    unfold hw1o8
    go_simp
    have hg := World.grownBy_alloc W (.cells #[.int .i64 0, .slice none 0 0] 26) none
    have y := XZ.new W
    have l_y := World.grownBy.size HG
    replace gJ := gJ.grown hg
    replace mJ := mJ.grown hg
    replace HG := World.grownBy.trans HG hg
    obtain ⟨U, hU⟩ : ∃ U, W.alloc (.cells #[.int .i64 0, .slice none 0 0] 26) = U := ⟨_, rfl⟩
    rw [hU] at HG gJ mJ y ⊢
    clear hU hg
    refine hK.out _ _ (hw1S HB.out HG) (fun hHeld => ?_)
    clear hK K
    try simp only [sA, sB, sC]
    exact hw14 hp (by kernel_rfl) HB HG l_n gJ mJ y l_y HQ

theorem hw16 (hp : ∀ c a d v w, Q (.panic c) (Act.put a d v) w → Q (.panic c) a w) {a0 : Option Addr} {c0 : Nat} {p6 : Nat} {p7 : Nat} (hl : L = #[true, true, true, false, false, false, false, true, true, false, false]) (HB : Hid (XB V bK 2 aK mK cK K ∧ (∀ (U : World) (a : Option Addr) (c : Nat), V.grownBy U none → GatesW U a c hN → Calls Try.prog 60 #[.agg #[.slice a 1 c], .int .i64 (n : Int), .agg #[.int .i64 2, .slice aK mK cK]] U fun e w' => ∃ a c b q d, e = .returned (.tuple #[.agg #[.slice a 1 c], .agg #[.int .i64 2, .slice b q d]]) ∧ M.length = q ∧ GatesW w' a c hN ∧ CellsW w' b d M ∧ U.grownBy w' none))) (HG : V.grownBy W none) (k0 : GatesW W a0 c0 hN) (z : BoxZ W p6) (l_z : V.heap.size ≤ p6) (y : XZ W p7) (l_y : V.heap.size ≤ p7) (HQ : Hid (hw1F Q V bK mK cK n aK K M)) :
    wpAnyH Try.prog .any hw1Ops Q (hw1P V bK mK cK n aK K M) 6 L (hw1f t bK mK cK n aK K M (.pointer (some ⟨p6, 0, none⟩)) (.pointer (some ⟨p7, 0, none⟩)) (t 110) (.agg #[.slice a0 1 c0]) (.int .i64 (n : Int)) (.agg #[.int .i64 2, .slice aK mK cK]) (t 114) (t 115) (t 116)) W := by
  subst hl
  unfold hw1f
  refine wpAnyH_ready (rs := [3]) (by kernel_rfl) (by simp) ?_
  refine (AllReadyH.cons (o := hw1o3) rfl (fun K hK => ?_) AllReadyH.nil)
  rw [if_pos (by rfl)]
  unfold hw1o3
  go_simp
  go_at_call 60
  refine (HB.out.2 W a0 c0 HG k0).mono ?_
  rintro e U ⟨aJ, cJ, bJ, nJ, dJ, rfl, l_n, gJ, mJ, g⟩
  replace z := z.grown g
  replace y := y.grown g
  replace HG := World.grownBy.trans HG g
  clear g
  go_wp2_with fail
  refine hK.out _ _ (hw1S HB.out HG) (fun hHeld => ?_)
  clear hK K
  try simp only [sA, sB, sC]
  refine tk 4 hw1o4 ?_ rfl (by kernel_rfl) (fun c a w h => hp c a _ _ w h) (by rfl) ?_ hHeld ?_
  rotate_left 1
  · (intro W hSW; unfold hw1P at hSW; unfold hw1o4; first | (go_simp; done) | (go_simp; with_reducible rfl))
  try simp only [Act.put, sA, sB, sC]
  refine tk 5 hw1o5 ?_ rfl (by kernel_rfl) (fun c a w h => hp c a _ _ w h) (by rfl) ?_ hHeld ?_
  rotate_left 1
  · (intro W hSW; unfold hw1P at hSW; unfold hw1o5; first | (go_simp; done) | (go_simp; with_reducible rfl))
  try simp only [Act.put, sA, sB, sC]
  refine tk 6 hw1o6 ?_ rfl (by kernel_rfl) (fun c a w h => hp c a _ _ w h) (by rfl) ?_ hHeld ?_
  rotate_left 1
  · (intro W hSW; unfold hw1P at hSW; unfold hw1o6; first | (go_simp; done) | (go_simp; with_reducible rfl))
  try simp only [Act.put, sA, sB, sC]
  exact hw12 hp (by kernel_rfl) HB HG l_n gJ mJ z l_z y l_y HQ

theorem hw17 (hp : ∀ c a d v w, Q (.panic c) (Act.put a d v) w → Q (.panic c) a w) {a0 : Option Addr} {c0 : Nat} {p6 : Nat} (hl : L = #[true, true, true, false, false, false, false, true, false, false, false]) (HB : Hid (XB V bK 2 aK mK cK K ∧ (∀ (U : World) (a : Option Addr) (c : Nat), V.grownBy U none → GatesW U a c hN → Calls Try.prog 60 #[.agg #[.slice a 1 c], .int .i64 (n : Int), .agg #[.int .i64 2, .slice aK mK cK]] U fun e w' => ∃ a c b q d, e = .returned (.tuple #[.agg #[.slice a 1 c], .agg #[.int .i64 2, .slice b q d]]) ∧ M.length = q ∧ GatesW w' a c hN ∧ CellsW w' b d M ∧ U.grownBy w' none))) (HG : V.grownBy W none) (k0 : GatesW W a0 c0 hN) (z : BoxZ W p6) (l_z : V.heap.size ≤ p6) (HQ : Hid (hw1F Q V bK mK cK n aK K M)) :
    wpAnyH Try.prog .any hw1Ops Q (hw1P V bK mK cK n aK K M) 7 L (hw1f t bK mK cK n aK K M (.pointer (some ⟨p6, 0, none⟩)) (t 19) (t 110) (.agg #[.slice a0 1 c0]) (.int .i64 (n : Int)) (.agg #[.int .i64 2, .slice aK mK cK]) (t 114) (t 115) (t 116)) W := by
  subst hl
  unfold hw1f
  refine wpAnyH_ready (rs := [3, 8]) (by kernel_rfl) (by simp) ?_
  refine (AllReadyH.cons (o := hw1o3) rfl (fun K hK => ?_) (AllReadyH.cons (o := hw1o8) rfl (fun K hK => ?_) AllReadyH.nil))
  · rw [if_pos (by rfl)]
    unfold hw1o3
    go_simp
    go_at_call 60
    refine (HB.out.2 W a0 c0 HG k0).mono ?_
    rintro e U ⟨aJ, cJ, bJ, nJ, dJ, rfl, l_n, gJ, mJ, g⟩
    replace z := z.grown g
    replace HG := World.grownBy.trans HG g
    clear g
    go_wp2_with fail
    refine hK.out _ _ (hw1S HB.out HG) (fun hHeld => ?_)
    clear hK K
    try simp only [sA, sB, sC]
    refine tk 4 hw1o4 ?_ rfl (by kernel_rfl) (fun c a w h => hp c a _ _ w h) (by rfl) ?_ hHeld ?_
    rotate_left 1
    · (intro W hSW; unfold hw1P at hSW; unfold hw1o4; first | (go_simp; done) | (go_simp; with_reducible rfl))
    try simp only [Act.put, sA, sB, sC]
    refine tk 5 hw1o5 ?_ rfl (by kernel_rfl) (fun c a w h => hp c a _ _ w h) (by rfl) ?_ hHeld ?_
    rotate_left 1
    · (intro W hSW; unfold hw1P at hSW; unfold hw1o5; first | (go_simp; done) | (go_simp; with_reducible rfl))
    try simp only [Act.put, sA, sB, sC]
    refine tk 6 hw1o6 ?_ rfl (by kernel_rfl) (fun c a w h => hp c a _ _ w h) (by rfl) ?_ hHeld ?_
    rotate_left 1
    · (intro W hSW; unfold hw1P at hSW; unfold hw1o6; first | (go_simp; done) | (go_simp; with_reducible rfl))
    try simp only [Act.put, sA, sB, sC]
    exact hw13 hp (by kernel_rfl) HB HG l_n gJ mJ z l_z HQ
  · rw [if_pos (by rfl)]
    unfold hw1o8
    go_simp
    have hg := World.grownBy_alloc W (.cells #[.int .i64 0, .slice none 0 0] 26) none
    have y := XZ.new W
    have l_y := World.grownBy.size HG
    replace k0 := k0.grown hg
    replace z := z.grown hg
    replace HG := World.grownBy.trans HG hg
    obtain ⟨U, hU⟩ : ∃ U, W.alloc (.cells #[.int .i64 0, .slice none 0 0] 26) = U := ⟨_, rfl⟩
    rw [hU] at HG k0 z y ⊢
    clear hU hg
    refine hK.out _ _ (hw1S HB.out HG) (fun hHeld => ?_)
    clear hK K
    try simp only [sA, sB, sC]
    exact hw16 hp (by kernel_rfl) HB HG k0 z l_z y l_y HQ

theorem hw18 (hp : ∀ c a d v w, Q (.panic c) (Act.put a d v) w → Q (.panic c) a w) {a0 : Option Addr} {c0 : Nat} {p7 : Nat} (hl : L = #[true, true, true, false, false, false, false, false, true, false, false]) (HB : Hid (XB V bK 2 aK mK cK K ∧ (∀ (U : World) (a : Option Addr) (c : Nat), V.grownBy U none → GatesW U a c hN → Calls Try.prog 60 #[.agg #[.slice a 1 c], .int .i64 (n : Int), .agg #[.int .i64 2, .slice aK mK cK]] U fun e w' => ∃ a c b q d, e = .returned (.tuple #[.agg #[.slice a 1 c], .agg #[.int .i64 2, .slice b q d]]) ∧ M.length = q ∧ GatesW w' a c hN ∧ CellsW w' b d M ∧ U.grownBy w' none))) (HG : V.grownBy W none) (k0 : GatesW W a0 c0 hN) (y : XZ W p7) (l_y : V.heap.size ≤ p7) (HQ : Hid (hw1F Q V bK mK cK n aK K M)) :
    wpAnyH Try.prog .any hw1Ops Q (hw1P V bK mK cK n aK K M) 7 L (hw1f t bK mK cK n aK K M (t 18) (.pointer (some ⟨p7, 0, none⟩)) (t 110) (.agg #[.slice a0 1 c0]) (.int .i64 (n : Int)) (.agg #[.int .i64 2, .slice aK mK cK]) (t 114) (t 115) (t 116)) W := by
  subst hl
  unfold hw1f
  refine wpAnyH_ready (rs := [3, 7]) (by kernel_rfl) (by simp) ?_
  refine (AllReadyH.cons (o := hw1o3) rfl (fun K hK => ?_) (AllReadyH.cons (o := hw1o7) rfl (fun K hK => ?_) AllReadyH.nil))
  · rw [if_pos (by rfl)]
    unfold hw1o3
    go_simp
    go_at_call 60
    refine (HB.out.2 W a0 c0 HG k0).mono ?_
    rintro e U ⟨aJ, cJ, bJ, nJ, dJ, rfl, l_n, gJ, mJ, g⟩
    replace y := y.grown g
    replace HG := World.grownBy.trans HG g
    clear g
    go_wp2_with fail
    refine hK.out _ _ (hw1S HB.out HG) (fun hHeld => ?_)
    clear hK K
    try simp only [sA, sB, sC]
    refine tk 4 hw1o4 ?_ rfl (by kernel_rfl) (fun c a w h => hp c a _ _ w h) (by rfl) ?_ hHeld ?_
    rotate_left 1
    · (intro W hSW; unfold hw1P at hSW; unfold hw1o4; first | (go_simp; done) | (go_simp; with_reducible rfl))
    try simp only [Act.put, sA, sB, sC]
    refine tk 5 hw1o5 ?_ rfl (by kernel_rfl) (fun c a w h => hp c a _ _ w h) (by rfl) ?_ hHeld ?_
    rotate_left 1
    · (intro W hSW; unfold hw1P at hSW; unfold hw1o5; first | (go_simp; done) | (go_simp; with_reducible rfl))
    try simp only [Act.put, sA, sB, sC]
    refine tk 6 hw1o6 ?_ rfl (by kernel_rfl) (fun c a w h => hp c a _ _ w h) (by rfl) ?_ hHeld ?_
    rotate_left 1
    · (intro W hSW; unfold hw1P at hSW; unfold hw1o6; first | (go_simp; done) | (go_simp; with_reducible rfl))
    try simp only [Act.put, sA, sB, sC]
    exact hw14 hp (by kernel_rfl) HB HG l_n gJ mJ y l_y HQ
  · rw [if_pos (by rfl)]
    unfold hw1o7
    go_simp
    have hg := World.grownBy_alloc W (.cells #[.slice none 0 0] 30) none
    have z := BoxZ.new W
    have l_z := World.grownBy.size HG
    replace k0 := k0.grown hg
    replace y := y.grown hg
    replace HG := World.grownBy.trans HG hg
    obtain ⟨U, hU⟩ : ∃ U, W.alloc (.cells #[.slice none 0 0] 30) = U := ⟨_, rfl⟩
    rw [hU] at HG k0 y z ⊢
    clear hU hg
    refine hK.out _ _ (hw1S HB.out HG) (fun hHeld => ?_)
    clear hK K
    try simp only [sA, sB, sC]
    exact hw16 hp (by kernel_rfl) HB HG k0 z l_z y l_y HQ

theorem hw19 (hp : ∀ c a d v w, Q (.panic c) (Act.put a d v) w → Q (.panic c) a w) {a0 : Option Addr} {c0 : Nat} (hl : L = #[true, true, true, false, false, false, false, false, false, false, false]) (HB : Hid (XB V bK 2 aK mK cK K ∧ (∀ (U : World) (a : Option Addr) (c : Nat), V.grownBy U none → GatesW U a c hN → Calls Try.prog 60 #[.agg #[.slice a 1 c], .int .i64 (n : Int), .agg #[.int .i64 2, .slice aK mK cK]] U fun e w' => ∃ a c b q d, e = .returned (.tuple #[.agg #[.slice a 1 c], .agg #[.int .i64 2, .slice b q d]]) ∧ M.length = q ∧ GatesW w' a c hN ∧ CellsW w' b d M ∧ U.grownBy w' none))) (HG : V.grownBy W none) (k0 : GatesW W a0 c0 hN) (HQ : Hid (hw1F Q V bK mK cK n aK K M)) :
    wpAnyH Try.prog .any hw1Ops Q (hw1P V bK mK cK n aK K M) 8 L (hw1f t bK mK cK n aK K M (t 18) (t 19) (t 110) (.agg #[.slice a0 1 c0]) (.int .i64 (n : Int)) (.agg #[.int .i64 2, .slice aK mK cK]) (t 114) (t 115) (t 116)) W := by
  subst hl
  unfold hw1f
  refine wpAnyH_ready (rs := [3, 7, 8]) (by kernel_rfl) (by simp) ?_
  refine (AllReadyH.cons (o := hw1o3) rfl (fun K hK => ?_) (AllReadyH.cons (o := hw1o7) rfl (fun K hK => ?_) (AllReadyH.cons (o := hw1o8) rfl (fun K hK => ?_) AllReadyH.nil)))
  · rw [if_pos (by rfl)]
    unfold hw1o3
    go_simp
    go_at_call 60
    refine (HB.out.2 W a0 c0 HG k0).mono ?_
    rintro e U ⟨aJ, cJ, bJ, nJ, dJ, rfl, l_n, gJ, mJ, g⟩
    replace HG := World.grownBy.trans HG g
    clear g
    go_wp2_with fail
    refine hK.out _ _ (hw1S HB.out HG) (fun hHeld => ?_)
    clear hK K
    try simp only [sA, sB, sC]
    refine tk 4 hw1o4 ?_ rfl (by kernel_rfl) (fun c a w h => hp c a _ _ w h) (by rfl) ?_ hHeld ?_
    rotate_left 1
    · (intro W hSW; unfold hw1P at hSW; unfold hw1o4; first | (go_simp; done) | (go_simp; with_reducible rfl))
    try simp only [Act.put, sA, sB, sC]
    refine tk 5 hw1o5 ?_ rfl (by kernel_rfl) (fun c a w h => hp c a _ _ w h) (by rfl) ?_ hHeld ?_
    rotate_left 1
    · (intro W hSW; unfold hw1P at hSW; unfold hw1o5; first | (go_simp; done) | (go_simp; with_reducible rfl))
    try simp only [Act.put, sA, sB, sC]
    refine tk 6 hw1o6 ?_ rfl (by kernel_rfl) (fun c a w h => hp c a _ _ w h) (by rfl) ?_ hHeld ?_
    rotate_left 1
    · (intro W hSW; unfold hw1P at hSW; unfold hw1o6; first | (go_simp; done) | (go_simp; with_reducible rfl))
    try simp only [Act.put, sA, sB, sC]
    exact hw15 hp (by kernel_rfl) HB HG l_n gJ mJ HQ
  · rw [if_pos (by rfl)]
    unfold hw1o7
    go_simp
    have hg := World.grownBy_alloc W (.cells #[.slice none 0 0] 30) none
    have z := BoxZ.new W
    have l_z := World.grownBy.size HG
    replace k0 := k0.grown hg
    replace HG := World.grownBy.trans HG hg
    obtain ⟨U, hU⟩ : ∃ U, W.alloc (.cells #[.slice none 0 0] 30) = U := ⟨_, rfl⟩
    rw [hU] at HG k0 z ⊢
    clear hU hg
    refine hK.out _ _ (hw1S HB.out HG) (fun hHeld => ?_)
    clear hK K
    try simp only [sA, sB, sC]
    exact hw17 hp (by kernel_rfl) HB HG k0 z l_z HQ
  · rw [if_pos (by rfl)]
    unfold hw1o8
    go_simp
    have hg := World.grownBy_alloc W (.cells #[.int .i64 0, .slice none 0 0] 26) none
    have y := XZ.new W
    have l_y := World.grownBy.size HG
    replace k0 := k0.grown hg
    replace HG := World.grownBy.trans HG hg
    obtain ⟨U, hU⟩ : ∃ U, W.alloc (.cells #[.int .i64 0, .slice none 0 0] 26) = U := ⟨_, rfl⟩
    rw [hU] at HG k0 y ⊢
    clear hU hg
    refine hK.out _ _ (hw1S HB.out HG) (fun hHeld => ?_)
    clear hK K
    try simp only [sA, sB, sC]
    exact hw18 hp (by kernel_rfl) HB HG k0 y l_y HQ

theorem hw110 (hp : ∀ c a d v w, Q (.panic c) (Act.put a d v) w → Q (.panic c) a w) {p6 : Nat} {p7 : Nat} (hl : L = #[false, true, true, false, false, false, false, true, true, false, false]) (HB : Hid (XB V bK 2 aK mK cK K ∧ (∀ (U : World) (a : Option Addr) (c : Nat), V.grownBy U none → GatesW U a c hN → Calls Try.prog 60 #[.agg #[.slice a 1 c], .int .i64 (n : Int), .agg #[.int .i64 2, .slice aK mK cK]] U fun e w' => ∃ a c b q d, e = .returned (.tuple #[.agg #[.slice a 1 c], .agg #[.int .i64 2, .slice b q d]]) ∧ M.length = q ∧ GatesW w' a c hN ∧ CellsW w' b d M ∧ U.grownBy w' none))) (HG : V.grownBy W none) (z : BoxZ W p6) (l_z : V.heap.size ≤ p6) (y : XZ W p7) (l_y : V.heap.size ≤ p7) (HQ : Hid (hw1F Q V bK mK cK n aK K M)) :
    wpAnyH Try.prog .any hw1Ops Q (hw1P V bK mK cK n aK K M) 7 L (hw1f t bK mK cK n aK K M (.pointer (some ⟨p6, 0, none⟩)) (.pointer (some ⟨p7, 0, none⟩)) (t 110) (t 111) (.int .i64 (n : Int)) (.agg #[.int .i64 2, .slice aK mK cK]) (t 114) (t 115) (t 116)) W := by
  subst hl
  unfold hw1f
  refine wpAnyH_ready (rs := [0]) (by kernel_rfl) (by simp) ?_
  refine (AllReadyH.cons (o := hw1o0) rfl (fun K hK => ?_) AllReadyH.nil)
  rw [if_pos (by rfl)]
  unfold hw1o0
  go_simp
  go_at_call 66
  refine (h15_new_at W).mono ?_
  rintro e U ⟨a0, c0, rfl, k0, g⟩
  replace z := z.grown g
  replace y := y.grown g
  replace HG := World.grownBy.trans HG g
  clear g
  go_wp2_with fail
  refine hK.out _ _ (hw1S HB.out HG) (fun hHeld => ?_)
  clear hK K
  try simp only [sA, sB]
  exact hw16 hp (by kernel_rfl) HB HG k0 z l_z y l_y HQ

theorem hw111 (hp : ∀ c a d v w, Q (.panic c) (Act.put a d v) w → Q (.panic c) a w) {p6 : Nat} (hl : L = #[false, true, true, false, false, false, false, true, false, false, false]) (HB : Hid (XB V bK 2 aK mK cK K ∧ (∀ (U : World) (a : Option Addr) (c : Nat), V.grownBy U none → GatesW U a c hN → Calls Try.prog 60 #[.agg #[.slice a 1 c], .int .i64 (n : Int), .agg #[.int .i64 2, .slice aK mK cK]] U fun e w' => ∃ a c b q d, e = .returned (.tuple #[.agg #[.slice a 1 c], .agg #[.int .i64 2, .slice b q d]]) ∧ M.length = q ∧ GatesW w' a c hN ∧ CellsW w' b d M ∧ U.grownBy w' none))) (HG : V.grownBy W none) (z : BoxZ W p6) (l_z : V.heap.size ≤ p6) (HQ : Hid (hw1F Q V bK mK cK n aK K M)) :
    wpAnyH Try.prog .any hw1Ops Q (hw1P V bK mK cK n aK K M) 8 L (hw1f t bK mK cK n aK K M (.pointer (some ⟨p6, 0, none⟩)) (t 19) (t 110) (t 111) (.int .i64 (n : Int)) (.agg #[.int .i64 2, .slice aK mK cK]) (t 114) (t 115) (t 116)) W := by
  subst hl
  unfold hw1f
  refine wpAnyH_ready (rs := [0, 8]) (by kernel_rfl) (by simp) ?_
  refine (AllReadyH.cons (o := hw1o0) rfl (fun K hK => ?_) (AllReadyH.cons (o := hw1o8) rfl (fun K hK => ?_) AllReadyH.nil))
  · rw [if_pos (by rfl)]
    unfold hw1o0
    go_simp
    go_at_call 66
    refine (h15_new_at W).mono ?_
    rintro e U ⟨a0, c0, rfl, k0, g⟩
    replace z := z.grown g
    replace HG := World.grownBy.trans HG g
    clear g
    go_wp2_with fail
    refine hK.out _ _ (hw1S HB.out HG) (fun hHeld => ?_)
    clear hK K
    try simp only [sA, sB]
    exact hw17 hp (by kernel_rfl) HB HG k0 z l_z HQ
  · rw [if_pos (by rfl)]
    unfold hw1o8
    go_simp
    have hg := World.grownBy_alloc W (.cells #[.int .i64 0, .slice none 0 0] 26) none
    have y := XZ.new W
    have l_y := World.grownBy.size HG
    replace z := z.grown hg
    replace HG := World.grownBy.trans HG hg
    obtain ⟨U, hU⟩ : ∃ U, W.alloc (.cells #[.int .i64 0, .slice none 0 0] 26) = U := ⟨_, rfl⟩
    rw [hU] at HG z y ⊢
    clear hU hg
    refine hK.out _ _ (hw1S HB.out HG) (fun hHeld => ?_)
    clear hK K
    try simp only [sA, sB, sC]
    exact hw110 hp (by kernel_rfl) HB HG z l_z y l_y HQ

theorem hw112 (hp : ∀ c a d v w, Q (.panic c) (Act.put a d v) w → Q (.panic c) a w) {p7 : Nat} (hl : L = #[false, true, true, false, false, false, false, false, true, false, false]) (HB : Hid (XB V bK 2 aK mK cK K ∧ (∀ (U : World) (a : Option Addr) (c : Nat), V.grownBy U none → GatesW U a c hN → Calls Try.prog 60 #[.agg #[.slice a 1 c], .int .i64 (n : Int), .agg #[.int .i64 2, .slice aK mK cK]] U fun e w' => ∃ a c b q d, e = .returned (.tuple #[.agg #[.slice a 1 c], .agg #[.int .i64 2, .slice b q d]]) ∧ M.length = q ∧ GatesW w' a c hN ∧ CellsW w' b d M ∧ U.grownBy w' none))) (HG : V.grownBy W none) (y : XZ W p7) (l_y : V.heap.size ≤ p7) (HQ : Hid (hw1F Q V bK mK cK n aK K M)) :
    wpAnyH Try.prog .any hw1Ops Q (hw1P V bK mK cK n aK K M) 8 L (hw1f t bK mK cK n aK K M (t 18) (.pointer (some ⟨p7, 0, none⟩)) (t 110) (t 111) (.int .i64 (n : Int)) (.agg #[.int .i64 2, .slice aK mK cK]) (t 114) (t 115) (t 116)) W := by
  subst hl
  unfold hw1f
  refine wpAnyH_ready (rs := [0, 7]) (by kernel_rfl) (by simp) ?_
  refine (AllReadyH.cons (o := hw1o0) rfl (fun K hK => ?_) (AllReadyH.cons (o := hw1o7) rfl (fun K hK => ?_) AllReadyH.nil))
  · rw [if_pos (by rfl)]
    unfold hw1o0
    go_simp
    go_at_call 66
    refine (h15_new_at W).mono ?_
    rintro e U ⟨a0, c0, rfl, k0, g⟩
    replace y := y.grown g
    replace HG := World.grownBy.trans HG g
    clear g
    go_wp2_with fail
    refine hK.out _ _ (hw1S HB.out HG) (fun hHeld => ?_)
    clear hK K
    try simp only [sA, sB]
    exact hw18 hp (by kernel_rfl) HB HG k0 y l_y HQ
  · rw [if_pos (by rfl)]
    unfold hw1o7
    go_simp
    have hg := World.grownBy_alloc W (.cells #[.slice none 0 0] 30) none
    have z := BoxZ.new W
    have l_z := World.grownBy.size HG
    replace y := y.grown hg
    replace HG := World.grownBy.trans HG hg
    obtain ⟨U, hU⟩ : ∃ U, W.alloc (.cells #[.slice none 0 0] 30) = U := ⟨_, rfl⟩
    rw [hU] at HG y z ⊢
    clear hU hg
    refine hK.out _ _ (hw1S HB.out HG) (fun hHeld => ?_)
    clear hK K
    try simp only [sA, sB, sC]
    exact hw110 hp (by kernel_rfl) HB HG z l_z y l_y HQ

theorem hw113 (hp : ∀ c a d v w, Q (.panic c) (Act.put a d v) w → Q (.panic c) a w)  (hl : L = #[false, true, true, false, false, false, false, false, false, false, false]) (HB : Hid (XB V bK 2 aK mK cK K ∧ (∀ (U : World) (a : Option Addr) (c : Nat), V.grownBy U none → GatesW U a c hN → Calls Try.prog 60 #[.agg #[.slice a 1 c], .int .i64 (n : Int), .agg #[.int .i64 2, .slice aK mK cK]] U fun e w' => ∃ a c b q d, e = .returned (.tuple #[.agg #[.slice a 1 c], .agg #[.int .i64 2, .slice b q d]]) ∧ M.length = q ∧ GatesW w' a c hN ∧ CellsW w' b d M ∧ U.grownBy w' none))) (HG : V.grownBy W none)  (HQ : Hid (hw1F Q V bK mK cK n aK K M)) :
    wpAnyH Try.prog .any hw1Ops Q (hw1P V bK mK cK n aK K M) 9 L (hw1f t bK mK cK n aK K M (t 18) (t 19) (t 110) (t 111) (.int .i64 (n : Int)) (.agg #[.int .i64 2, .slice aK mK cK]) (t 114) (t 115) (t 116)) W := by
  subst hl
  unfold hw1f
  refine wpAnyH_ready (rs := [0, 7, 8]) (by kernel_rfl) (by simp) ?_
  refine (AllReadyH.cons (o := hw1o0) rfl (fun K hK => ?_) (AllReadyH.cons (o := hw1o7) rfl (fun K hK => ?_) (AllReadyH.cons (o := hw1o8) rfl (fun K hK => ?_) AllReadyH.nil)))
  · rw [if_pos (by rfl)]
    unfold hw1o0
    go_simp
    go_at_call 66
    refine (h15_new_at W).mono ?_
    rintro e U ⟨a0, c0, rfl, k0, g⟩
    replace HG := World.grownBy.trans HG g
    clear g
    go_wp2_with fail
    refine hK.out _ _ (hw1S HB.out HG) (fun hHeld => ?_)
    clear hK K
    try simp only [sA, sB]
    exact hw19 hp (by kernel_rfl) HB HG k0 HQ
  · rw [if_pos (by rfl)]
    unfold hw1o7
    go_simp
    have hg := World.grownBy_alloc W (.cells #[.slice none 0 0] 30) none
    have z := BoxZ.new W
    have l_z := World.grownBy.size HG
    replace HG := World.grownBy.trans HG hg
    obtain ⟨U, hU⟩ : ∃ U, W.alloc (.cells #[.slice none 0 0] 30) = U := ⟨_, rfl⟩
    rw [hU] at HG  z ⊢
    clear hU hg
    refine hK.out _ _ (hw1S HB.out HG) (fun hHeld => ?_)
    clear hK K
    try simp only [sA, sB, sC]
    exact hw111 hp (by kernel_rfl) HB HG z l_z HQ
  · rw [if_pos (by rfl)]
    unfold hw1o8
    go_simp
    have hg := World.grownBy_alloc W (.cells #[.int .i64 0, .slice none 0 0] 26) none
    have y := XZ.new W
    have l_y := World.grownBy.size HG
    replace HG := World.grownBy.trans HG hg
    obtain ⟨U, hU⟩ : ∃ U, W.alloc (.cells #[.int .i64 0, .slice none 0 0] 26) = U := ⟨_, rfl⟩
    rw [hU] at HG  y ⊢
    clear hU hg
    refine hK.out _ _ (hw1S HB.out HG) (fun hHeld => ?_)
    clear hK K
    try simp only [sA, sB, sC]
    exact hw112 hp (by kernel_rfl) HB HG y l_y HQ

theorem hw1_all {t0 t1 t2 t3 t4 t5 t6 t8 t10 t11 t12 t13 t14 t15 t16 t18 t19 t20 t21 t22 t23 t24 t25 t26 t27 t28 t29 t30 t31 t32 t33 t34 t35 t36 t37 t38 t39 t40 t41 t42 t43 t44 t45 t46 t47 t48 t49 t50 t51 t52 t53 t54 t55 t56 t57 t58 t59 t60 t61 t62 t63 t64 t65 t66 t67 t68 t69 t70 t71 t72 t73 t74 t75 t76 t77 t78 t79 t80 t81 t82 t83 t84 t85 t86 t87 t88 t89 t90 t91 t92 t93 t94 t95 t96 t97 t98 t99 t100 t101 t102 t103 t104 t105 t106 t107 t108 t109 t110 t111 t112 t113 t114 t115 t116 t117 t118 t119 t120 t121 t122 t123 t124 t125 t126 t127 t128 t129 t130 t131 t132 t133 t134 t135 t136 t137 t138 t139 t140 t141 t142 t143 t144 : Value} (hp : ∀ c a d v w, Q (.panic c) (Act.put a d v) w → Q (.panic c) a w) (HB : Hid (XB V bK 2 aK mK cK K ∧ (∀ (U : World) (a : Option Addr) (c : Nat), V.grownBy U none → GatesW U a c hN → Calls Try.prog 60 #[.agg #[.slice a 1 c], .int .i64 (n : Int), .agg #[.int .i64 2, .slice aK mK cK]] U fun e w' => ∃ a c b q d, e = .returned (.tuple #[.agg #[.slice a 1 c], .agg #[.int .i64 2, .slice b q d]]) ∧ M.length = q ∧ GatesW w' a c hN ∧ CellsW w' b d M ∧ U.grownBy w' none))) (HQ : Hid (hw1F Q V bK mK cK n aK K M)) :
    (Code.region 11 hw1Ops true).wp Try.prog Q ⟨#[t0, t1, t2, t3, t4, t5, t6, .bool true, t8, .int .i64 (n : Int), t10, t11, t12, t13, t14, t15, t16, .pointer (some ⟨bK, 0, none⟩), t18, t19, t20, t21, t22, t23, t24, t25, t26, t27, t28, t29, t30, t31, t32, t33, t34, t35, t36, t37, t38, t39, t40, t41, t42, t43, t44, t45, t46, t47, t48, t49, t50, t51, t52, t53, t54, t55, t56, t57, t58, t59, t60, t61, t62, t63, t64, t65, t66, t67, t68, t69, t70, t71, t72, t73, t74, t75, t76, t77, t78, t79, t80, t81, t82, t83, t84, t85, t86, t87, t88, t89, t90, t91, t92, t93, t94, t95, t96, t97, t98, t99, t100, t101, t102, t103, t104, t105, t106, t107, t108, t109, t110, t111, t112, t113, t114, t115, t116, t117, t118, t119, t120, t121, t122, t123, t124, t125, t126, t127, t128, t129, t130, t131, t132, t133, t134, t135, t136, t137, t138, t139, t140, t141, t142, t143, t144], []⟩ V := by
  have HG := ((⟨rfl, rfl, rfl, Nat.le_refl _, fun _ _ _ => rfl⟩ : V.grownBy V.drew none))
  refine wp_region_held_drew (S := (hw1P V bK mK cK n aK K M)) (by kernel_rfl) (hw1S HB.out HG) (fun hHeld => ?_)
  refine tk 1 hw1o1 ?_ rfl (by kernel_rfl) (fun c a w h => hp c a _ _ w h) (by rfl) ?_ hHeld ?_
  rotate_left 1
  · (intro W hSW; unfold hw1P at hSW; unfold hw1o1; first | (go_simp; done) | (go_simp; with_reducible rfl))
  try simp only [Act.put, sA, sB, sC]
  refine tk 2 hw1o2 ?_ rfl (by kernel_rfl) (fun c a w h => hp c a _ _ w h) (by rfl) ?_ hHeld ?_
  rotate_left 1
  · (intro W hSW; unfold hw1P at hSW; unfold hw1o2; first | (go_simp; done) | (go_simp; with_reducible rfl))
  try simp only [Act.put, sA, sB, sC]
  exact hw113 (t := fun k => List.getD [t0, t1, t2, t3, t4, t5, t6, undef, t8, undef, t10, t11, t12, t13, t14, t15, t16, undef, t18, t19, t20, t21, t22, t23, t24, t25, t26, t27, t28, t29, t30, t31, t32, t33, t34, t35, t36, t37, t38, t39, t40, t41, t42, t43, t44, t45, t46, t47, t48, t49, t50, t51, t52, t53, t54, t55, t56, t57, t58, t59, t60, t61, t62, t63, t64, t65, t66, t67, t68, t69, t70, t71, t72, t73, t74, t75, t76, t77, t78, t79, t80, t81, t82, t83, t84, t85, t86, t87, t88, t89, t90, t91, t92, t93, t94, t95, t96, t97, t98, t99, t100, t101, t102, t103, t104, t105, t106, t107, t108, t109, t110, t111, t112, t113, t114, t115, t116, t117, t118, t119, t120, t121, t122, t123, t124, t125, t126, t127, t128, t129, t130, t131, t132, t133, t134, t135, t136, t137, t138, t139, t140, t141, t142, t143, t144] k undef) hp (by kernel_rfl) HB HG HQ
end
abbrev hw2o0 : Oper := { dst := some 118, op := Op.call { callee := Callee.value (Operand.func 66), args := #[], argTypes := #[] }, type := 30, pos := "law.go:138", after := #[], guard := none }
abbrev hw2o1 : Oper := { dst := some 119, op := Op.move (Operand.tmp 9), type := 3, pos := "law.go:138", after := #[], guard := none }
abbrev hw2o2 : Oper := { dst := some 120, op := Op.load 26 (Operand.tmp 17), type := 26, pos := "law.go:138", after := #[], guard := none }
abbrev hw2o3 : Oper := { dst := some 121, op := Op.call { callee := Callee.value (Operand.func 62), args := #[Operand.tmp 118, Operand.tmp 119, Operand.tmp 120], argTypes := #[30, 3, 26] }, type := 43, pos := "law.go:138", after := #[{ on := 0, ground := Ground.data }, { on := 1, ground := Ground.data }, { on := 2, ground := Ground.data }, { on := 0, ground := Ground.chain }], guard := none }
abbrev hw2o4 : Oper := { dst := some 117, op := Op.move (Operand.tmp 121), type := 43, pos := "law.go:138", after := #[{ on := 3, ground := Ground.data }], guard := none }
abbrev hw2o5 : Oper := { dst := some 122, op := Op.extract (Operand.tmp 117) 0, type := 30, pos := "law.go:138", after := #[{ on := 4, ground := Ground.data }], guard := none }
abbrev hw2o6 : Oper := { dst := some 123, op := Op.extract (Operand.tmp 117) 1, type := 3, pos := "law.go:138", after := #[{ on := 4, ground := Ground.data }, { on := 8, ground := Ground.gcOnly Departure.lateStores }], guard := none }
abbrev hw2o7 : Oper := { dst := some 20, op := Op.alloc 30, type := 0, pos := "law.go:138", after := #[], guard := none }
abbrev hw2o8 : Oper := { dst := none, op := Op.store 30 (Operand.tmp 20) (Operand.tmp 122), type := 0, pos := "law.go:138", after := #[{ on := 7, ground := Ground.data }, { on := 5, ground := Ground.data }, { on := 3, ground := Ground.chain }, { on := 0, ground := Ground.phase }, { on := 1, ground := Ground.phase }, { on := 2, ground := Ground.phase }, { on := 3, ground := Ground.phase }, { on := 4, ground := Ground.phase }, { on := 5, ground := Ground.phase }, { on := 6, ground := Ground.textOnly Departure.lateStores }, { on := 7, ground := Ground.phase }], guard := none }
abbrev hw2o9 : Oper := { dst := some 21, op := Op.assign (Operand.tmp 123), type := 3, pos := "law.go:138", after := #[{ on := 6, ground := Ground.data }, { on := 8, ground := Ground.chain }, { on := 0, ground := Ground.phase }, { on := 1, ground := Ground.phase }, { on := 2, ground := Ground.phase }, { on := 3, ground := Ground.phase }, { on := 4, ground := Ground.phase }, { on := 5, ground := Ground.phase }, { on := 6, ground := Ground.phase }, { on := 7, ground := Ground.phase }, { on := 8, ground := Ground.phase }], guard := none }
def hw2Ops : Array Oper := #[hw2o0, hw2o1, hw2o2, hw2o3, hw2o4, hw2o5, hw2o6, hw2o7, hw2o8, hw2o9]
def hw2P (V : World) (bK mK cK _n : Nat) (aK : Option Addr) (_R : Int) (_K : List Cl) : World → Prop := (fun Wh : World => V.grownBy Wh none ∧ Wh.cell? ⟨bK, 0, none⟩ = some (.int .i64 2) ∧ Wh.cell? ⟨bK, 1, none⟩ = some (.slice aK mK cK))
theorem hw2S {V W : World} {bK mK cK n : Nat} {aK : Option Addr} {R : Int} {K : List Cl} (h : XB V bK 2 aK mK cK K ∧ (∀ (U : World) (a : Option Addr) (c : Nat), V.grownBy U none → GatesW U a c hN → Calls Try.prog 62 #[.agg #[.slice a 1 c], .int .i64 (n : Int), .agg #[.int .i64 2, .slice aK mK cK]] U fun e w' => ∃ a c, e = .returned (.tuple #[.agg #[.slice a 1 c], .int .i64 R]) ∧ GatesW w' a c hN ∧ U.grownBy w' none)) (HG : V.grownBy W none) : (hw2P V bK mK cK n aK R K) W := ⟨HG, (h.1.grown HG).1, (h.1.grown HG).2.1⟩
def hw2F (Q : Exit → Act → World → Prop) (V : World) (b18 b19 bK _mK _cK n : Nat) (_aK : Option Addr) (R : Int) (_K : List Cl) : Prop := ∀ (aJ : Option Addr) (cJ : Nat) (p6 : Nat) (u0 u1 u2 u3 u4 u5 u6 u8 u10 u11 u12 u13 u14 u15 u16 u22 u23 u24 u25 u26 u27 u28 u29 u30 u31 u32 u33 u34 u35 u36 u37 u38 u39 u40 u41 u42 u43 u44 u45 u46 u47 u48 u49 u50 u51 u52 u53 u54 u55 u56 u57 u58 u59 u60 u61 u62 u63 u64 u65 u66 u67 u68 u69 u70 u71 u72 u73 u74 u75 u76 u77 u78 u79 u80 u81 u82 u83 u84 u85 u86 u87 u88 u89 u90 u91 u92 u93 u94 u95 u96 u97 u98 u99 u100 u101 u102 u103 u104 u105 u106 u107 u108 u109 u110 u111 u112 u113 u114 u115 u116 u117 u118 u119 u120 u121 u122 u123 u124 u125 u126 u127 u128 u129 u130 u131 u132 u133 u134 u135 u136 u137 u138 u139 u140 u141 u142 u143 u144 : Value) (W : World), V.grownBy W none → V.heap.size ≤ p6 → CB W p6 aJ cJ hN → Q .normal ⟨#[u0, u1, u2, u3, u4, u5, u6, .bool true, u8, .int .i64 (n : Int), u10, u11, u12, u13, u14, u15, u16, .pointer (some ⟨bK, 0, none⟩), .pointer (some ⟨b18, 0, none⟩), .pointer (some ⟨b19, 0, none⟩), .pointer (some ⟨p6, 0, none⟩), .int .i64 R, u22, u23, u24, u25, u26, u27, u28, u29, u30, u31, u32, u33, u34, u35, u36, u37, u38, u39, u40, u41, u42, u43, u44, u45, u46, u47, u48, u49, u50, u51, u52, u53, u54, u55, u56, u57, u58, u59, u60, u61, u62, u63, u64, u65, u66, u67, u68, u69, u70, u71, u72, u73, u74, u75, u76, u77, u78, u79, u80, u81, u82, u83, u84, u85, u86, u87, u88, u89, u90, u91, u92, u93, u94, u95, u96, u97, u98, u99, u100, u101, u102, u103, u104, u105, u106, u107, u108, u109, u110, u111, u112, u113, u114, u115, u116, u117, u118, u119, u120, u121, u122, u123, u124, u125, u126, u127, u128, u129, u130, u131, u132, u133, u134, u135, u136, u137, u138, u139, u140, u141, u142, u143, u144], []⟩ W
def hw2f (t : Nat → Value) (b18 b19 bK _mK _cK n : Nat) (_aK : Option Addr) (_R : Int) (_K : List Cl) (v20 v21 v117 v118 v119 v120 v121 v122 v123 : Value) : Act := ⟨#[t 0, t 1, t 2, t 3, t 4, t 5, t 6, .bool true, t 8, .int .i64 (n : Int), t 10, t 11, t 12, t 13, t 14, t 15, t 16, .pointer (some ⟨bK, 0, none⟩), .pointer (some ⟨b18, 0, none⟩), .pointer (some ⟨b19, 0, none⟩), v20, v21, t 22, t 23, t 24, t 25, t 26, t 27, t 28, t 29, t 30, t 31, t 32, t 33, t 34, t 35, t 36, t 37, t 38, t 39, t 40, t 41, t 42, t 43, t 44, t 45, t 46, t 47, t 48, t 49, t 50, t 51, t 52, t 53, t 54, t 55, t 56, t 57, t 58, t 59, t 60, t 61, t 62, t 63, t 64, t 65, t 66, t 67, t 68, t 69, t 70, t 71, t 72, t 73, t 74, t 75, t 76, t 77, t 78, t 79, t 80, t 81, t 82, t 83, t 84, t 85, t 86, t 87, t 88, t 89, t 90, t 91, t 92, t 93, t 94, t 95, t 96, t 97, t 98, t 99, t 100, t 101, t 102, t 103, t 104, t 105, t 106, t 107, t 108, t 109, t 110, t 111, t 112, t 113, t 114, t 115, t 116, v117, v118, v119, v120, v121, v122, v123, t 124, t 125, t 126, t 127, t 128, t 129, t 130, t 131, t 132, t 133, t 134, t 135, t 136, t 137, t 138, t 139, t 140, t 141, t 142, t 143, t 144], []⟩
section
variable {Q : Exit → Act → World → Prop} {V W : World} {b18 b19 bK mK cK n : Nat} {aK : Option Addr} {R : Int} {K : List Cl} {L : Array Bool} {t : Nat → Value}
theorem hw20 (_hp : ∀ c a d v w, Q (.panic c) (Act.put a d v) w → Q (.panic c) a w) {a0 : Option Addr} {c0 : Nat} {aJ : Option Addr} {cJ : Nat} {p6 : Nat} (hl : L = #[true, true, true, true, true, true, true, true, true, true]) (_HB : Hid (XB V bK 2 aK mK cK K ∧ (∀ (U : World) (a : Option Addr) (c : Nat), V.grownBy U none → GatesW U a c hN → Calls Try.prog 62 #[.agg #[.slice a 1 c], .int .i64 (n : Int), .agg #[.int .i64 2, .slice aK mK cK]] U fun e w' => ∃ a c, e = .returned (.tuple #[.agg #[.slice a 1 c], .int .i64 R]) ∧ GatesW w' a c hN ∧ U.grownBy w' none))) (HG : V.grownBy W none) (l_z : V.heap.size ≤ p6) (cb : CB W p6 aJ cJ hN) (HQ : Hid (hw2F Q V b18 b19 bK mK cK n aK R K)) :
    wpAnyH Try.prog .any hw2Ops Q (hw2P V bK mK cK n aK R K) 0 L (hw2f t b18 b19 bK mK cK n aK R K (.pointer (some ⟨p6, 0, none⟩)) (.int .i64 R) (.tuple #[.agg #[.slice aJ 1 cJ], .int .i64 R]) (.agg #[.slice a0 1 c0]) (.int .i64 (n : Int)) (.agg #[.int .i64 2, .slice aK mK cK]) (.tuple #[.agg #[.slice aJ 1 cJ], .int .i64 R]) (.agg #[.slice aJ 1 cJ]) (.int .i64 R)) W := by
  subst hl
  unfold hw2f
  refine wpAnyH_done (by kernel_rfl) ?_ _
  exact HQ.out _ _ _ _ _ _ _ _ _ _ _ _ _ _ _ _ _ _ _ _ _ _ _ _ _ _ _ _ _ _ _ _ _ _ _ _ _ _ _ _ _ _ _ _ _ _ _ _ _ _ _ _ _ _ _ _ _ _ _ _ _ _ _ _ _ _ _ _ _ _ _ _ _ _ _ _ _ _ _ _ _ _ _ _ _ _ _ _ _ _ _ _ _ _ _ _ _ _ _ _ _ _ _ _ _ _ _ _ _ _ _ _ _ _ _ _ _ _ _ _ _ _ _ _ _ _ _ _ _ _ _ _ _ _ _ _ _ _ _ _ _ _ HG l_z cb

theorem hw21 (hp : ∀ c a d v w, Q (.panic c) (Act.put a d v) w → Q (.panic c) a w) {a0 : Option Addr} {c0 : Nat} {aJ : Option Addr} {cJ : Nat} {p6 : Nat} (hl : L = #[true, true, true, true, true, true, true, true, false, false]) (HB : Hid (XB V bK 2 aK mK cK K ∧ (∀ (U : World) (a : Option Addr) (c : Nat), V.grownBy U none → GatesW U a c hN → Calls Try.prog 62 #[.agg #[.slice a 1 c], .int .i64 (n : Int), .agg #[.int .i64 2, .slice aK mK cK]] U fun e w' => ∃ a c, e = .returned (.tuple #[.agg #[.slice a 1 c], .int .i64 R]) ∧ GatesW w' a c hN ∧ U.grownBy w' none))) (HG : V.grownBy W none) (gJ : GatesW W aJ cJ hN) (z : BoxZ W p6) (l_z : V.heap.size ≤ p6) (HQ : Hid (hw2F Q V b18 b19 bK mK cK n aK R K)) :
    wpAnyH Try.prog .any hw2Ops Q (hw2P V bK mK cK n aK R K) 2 L (hw2f t b18 b19 bK mK cK n aK R K (.pointer (some ⟨p6, 0, none⟩)) (t 21) (.tuple #[.agg #[.slice aJ 1 cJ], .int .i64 R]) (.agg #[.slice a0 1 c0]) (.int .i64 (n : Int)) (.agg #[.int .i64 2, .slice aK mK cK]) (.tuple #[.agg #[.slice aJ 1 cJ], .int .i64 R]) (.agg #[.slice aJ 1 cJ]) (.int .i64 R)) W := by
  subst hl
  unfold hw2f
  refine wpAnyH_ready (rs := [8]) (by kernel_rfl) (by simp) ?_
  refine (AllReadyH.cons (o := hw2o8) rfl (fun K hK => ?_) AllReadyH.nil)
  rw [if_pos (by rfl)]
  unfold hw2o8
  have z0 := z.1
  have zf := z.2
  go_simp
  have cb := (show CB (W.setCell ⟨p6, 0, none⟩ (.slice aJ 1 cJ)) p6 aJ cJ hN from CB.put gJ z.1 z.2)
  replace HG := grown_own HG (grown_set W p6 0 (.slice aJ 1 cJ)) (fun k e => by cases e; exact l_z)
  clear gJ z
  obtain ⟨U, hU⟩ : ∃ U, W.setCell ⟨p6, 0, none⟩ (.slice aJ 1 cJ) = U := ⟨_, rfl⟩
  rw [hU] at HG cb ⊢
  clear hU
  refine hK.out _ _ (hw2S HB.out HG) (fun hHeld => ?_)
  clear hK K
  try simp only [sA, sB, sC]
  refine tk 9 hw2o9 ?_ rfl (by kernel_rfl) (fun c a w h => hp c a _ _ w h) (by rfl) ?_ hHeld ?_
  rotate_left 1
  · (intro W hSW; unfold hw2P at hSW; unfold hw2o9; first | (go_simp; done) | (go_simp; with_reducible rfl))
  try simp only [Act.put, sA, sB, sC]
  exact hw20 hp (by kernel_rfl) HB HG l_z cb HQ

theorem hw22 (hp : ∀ c a d v w, Q (.panic c) (Act.put a d v) w → Q (.panic c) a w) {a0 : Option Addr} {c0 : Nat} {aJ : Option Addr} {cJ : Nat} (hl : L = #[true, true, true, true, true, true, true, false, false, false]) (HB : Hid (XB V bK 2 aK mK cK K ∧ (∀ (U : World) (a : Option Addr) (c : Nat), V.grownBy U none → GatesW U a c hN → Calls Try.prog 62 #[.agg #[.slice a 1 c], .int .i64 (n : Int), .agg #[.int .i64 2, .slice aK mK cK]] U fun e w' => ∃ a c, e = .returned (.tuple #[.agg #[.slice a 1 c], .int .i64 R]) ∧ GatesW w' a c hN ∧ U.grownBy w' none))) (HG : V.grownBy W none) (gJ : GatesW W aJ cJ hN) (HQ : Hid (hw2F Q V b18 b19 bK mK cK n aK R K)) :
    wpAnyH Try.prog .any hw2Ops Q (hw2P V bK mK cK n aK R K) 3 L (hw2f t b18 b19 bK mK cK n aK R K (t 20) (t 21) (.tuple #[.agg #[.slice aJ 1 cJ], .int .i64 R]) (.agg #[.slice a0 1 c0]) (.int .i64 (n : Int)) (.agg #[.int .i64 2, .slice aK mK cK]) (.tuple #[.agg #[.slice aJ 1 cJ], .int .i64 R]) (.agg #[.slice aJ 1 cJ]) (.int .i64 R)) W := by
  subst hl
  unfold hw2f
  refine wpAnyH_ready (rs := [7]) (by kernel_rfl) (by simp) ?_
  refine (AllReadyH.cons (o := hw2o7) rfl (fun K hK => ?_) AllReadyH.nil)
  rw [if_pos (by rfl)]
  unfold hw2o7
  go_simp
  have hg := World.grownBy_alloc W (.cells #[.slice none 0 0] 30) none
  have z := BoxZ.new W
  have l_z := World.grownBy.size HG
  replace gJ := gJ.grown hg
  replace HG := World.grownBy.trans HG hg
  obtain ⟨U, hU⟩ : ∃ U, W.alloc (.cells #[.slice none 0 0] 30) = U := ⟨_, rfl⟩
  rw [hU] at HG gJ z ⊢
  clear hU hg
  refine hK.out _ _ (hw2S HB.out HG) (fun hHeld => ?_)
  clear hK K
  try simp only [sA, sB, sC]
  exact hw21 hp (by kernel_rfl) HB HG gJ z l_z HQ

theorem hw23 (hp : ∀ c a d v w, Q (.panic c) (Act.put a d v) w → Q (.panic c) a w) {a0 : Option Addr} {c0 : Nat} {p6 : Nat} (hl : L = #[true, true, true, false, false, false, false, true, false, false]) (HB : Hid (XB V bK 2 aK mK cK K ∧ (∀ (U : World) (a : Option Addr) (c : Nat), V.grownBy U none → GatesW U a c hN → Calls Try.prog 62 #[.agg #[.slice a 1 c], .int .i64 (n : Int), .agg #[.int .i64 2, .slice aK mK cK]] U fun e w' => ∃ a c, e = .returned (.tuple #[.agg #[.slice a 1 c], .int .i64 R]) ∧ GatesW w' a c hN ∧ U.grownBy w' none))) (HG : V.grownBy W none) (k0 : GatesW W a0 c0 hN) (z : BoxZ W p6) (l_z : V.heap.size ≤ p6) (HQ : Hid (hw2F Q V b18 b19 bK mK cK n aK R K)) :
    wpAnyH Try.prog .any hw2Ops Q (hw2P V bK mK cK n aK R K) 6 L (hw2f t b18 b19 bK mK cK n aK R K (.pointer (some ⟨p6, 0, none⟩)) (t 21) (t 117) (.agg #[.slice a0 1 c0]) (.int .i64 (n : Int)) (.agg #[.int .i64 2, .slice aK mK cK]) (t 121) (t 122) (t 123)) W := by
  subst hl
  unfold hw2f
  refine wpAnyH_ready (rs := [3]) (by kernel_rfl) (by simp) ?_
  refine (AllReadyH.cons (o := hw2o3) rfl (fun K hK => ?_) AllReadyH.nil)
  rw [if_pos (by rfl)]
  unfold hw2o3
  go_simp
  go_at_call 62
  refine (HB.out.2 W a0 c0 HG k0).mono ?_
  rintro e U ⟨aJ, cJ, rfl, gJ, g⟩
  replace z := z.grown g
  replace HG := World.grownBy.trans HG g
  clear g
  go_wp2_with fail
  refine hK.out _ _ (hw2S HB.out HG) (fun hHeld => ?_)
  clear hK K
  try simp only [sA, sB, sC]
  refine tk 4 hw2o4 ?_ rfl (by kernel_rfl) (fun c a w h => hp c a _ _ w h) (by rfl) ?_ hHeld ?_
  rotate_left 1
  · (intro W hSW; unfold hw2P at hSW; unfold hw2o4; first | (go_simp; done) | (go_simp; with_reducible rfl))
  try simp only [Act.put, sA, sB, sC]
  refine tk 5 hw2o5 ?_ rfl (by kernel_rfl) (fun c a w h => hp c a _ _ w h) (by rfl) ?_ hHeld ?_
  rotate_left 1
  · (intro W hSW; unfold hw2P at hSW; unfold hw2o5; first | (go_simp; done) | (go_simp; with_reducible rfl))
  try simp only [Act.put, sA, sB, sC]
  refine tk 6 hw2o6 ?_ rfl (by kernel_rfl) (fun c a w h => hp c a _ _ w h) (by rfl) ?_ hHeld ?_
  rotate_left 1
  · (intro W hSW; unfold hw2P at hSW; unfold hw2o6; first | (go_simp; done) | (go_simp; with_reducible rfl))
  try simp only [Act.put, sA, sB, sC]
  exact hw21 hp (by kernel_rfl) HB HG gJ z l_z HQ

theorem hw24 (hp : ∀ c a d v w, Q (.panic c) (Act.put a d v) w → Q (.panic c) a w) {a0 : Option Addr} {c0 : Nat} (hl : L = #[true, true, true, false, false, false, false, false, false, false]) (HB : Hid (XB V bK 2 aK mK cK K ∧ (∀ (U : World) (a : Option Addr) (c : Nat), V.grownBy U none → GatesW U a c hN → Calls Try.prog 62 #[.agg #[.slice a 1 c], .int .i64 (n : Int), .agg #[.int .i64 2, .slice aK mK cK]] U fun e w' => ∃ a c, e = .returned (.tuple #[.agg #[.slice a 1 c], .int .i64 R]) ∧ GatesW w' a c hN ∧ U.grownBy w' none))) (HG : V.grownBy W none) (k0 : GatesW W a0 c0 hN) (HQ : Hid (hw2F Q V b18 b19 bK mK cK n aK R K)) :
    wpAnyH Try.prog .any hw2Ops Q (hw2P V bK mK cK n aK R K) 7 L (hw2f t b18 b19 bK mK cK n aK R K (t 20) (t 21) (t 117) (.agg #[.slice a0 1 c0]) (.int .i64 (n : Int)) (.agg #[.int .i64 2, .slice aK mK cK]) (t 121) (t 122) (t 123)) W := by
  subst hl
  unfold hw2f
  refine wpAnyH_ready (rs := [3, 7]) (by kernel_rfl) (by simp) ?_
  refine (AllReadyH.cons (o := hw2o3) rfl (fun K hK => ?_) (AllReadyH.cons (o := hw2o7) rfl (fun K hK => ?_) AllReadyH.nil))
  · rw [if_pos (by rfl)]
    unfold hw2o3
    go_simp
    go_at_call 62
    refine (HB.out.2 W a0 c0 HG k0).mono ?_
    rintro e U ⟨aJ, cJ, rfl, gJ, g⟩
    replace HG := World.grownBy.trans HG g
    clear g
    go_wp2_with fail
    refine hK.out _ _ (hw2S HB.out HG) (fun hHeld => ?_)
    clear hK K
    try simp only [sA, sB, sC]
    refine tk 4 hw2o4 ?_ rfl (by kernel_rfl) (fun c a w h => hp c a _ _ w h) (by rfl) ?_ hHeld ?_
    rotate_left 1
    · (intro W hSW; unfold hw2P at hSW; unfold hw2o4; first | (go_simp; done) | (go_simp; with_reducible rfl))
    try simp only [Act.put, sA, sB, sC]
    refine tk 5 hw2o5 ?_ rfl (by kernel_rfl) (fun c a w h => hp c a _ _ w h) (by rfl) ?_ hHeld ?_
    rotate_left 1
    · (intro W hSW; unfold hw2P at hSW; unfold hw2o5; first | (go_simp; done) | (go_simp; with_reducible rfl))
    try simp only [Act.put, sA, sB, sC]
    refine tk 6 hw2o6 ?_ rfl (by kernel_rfl) (fun c a w h => hp c a _ _ w h) (by rfl) ?_ hHeld ?_
    rotate_left 1
    · (intro W hSW; unfold hw2P at hSW; unfold hw2o6; first | (go_simp; done) | (go_simp; with_reducible rfl))
    try simp only [Act.put, sA, sB, sC]
    exact hw22 hp (by kernel_rfl) HB HG gJ HQ
  · rw [if_pos (by rfl)]
    unfold hw2o7
    go_simp
    have hg := World.grownBy_alloc W (.cells #[.slice none 0 0] 30) none
    have z := BoxZ.new W
    have l_z := World.grownBy.size HG
    replace k0 := k0.grown hg
    replace HG := World.grownBy.trans HG hg
    obtain ⟨U, hU⟩ : ∃ U, W.alloc (.cells #[.slice none 0 0] 30) = U := ⟨_, rfl⟩
    rw [hU] at HG k0 z ⊢
    clear hU hg
    refine hK.out _ _ (hw2S HB.out HG) (fun hHeld => ?_)
    clear hK K
    try simp only [sA, sB, sC]
    exact hw23 hp (by kernel_rfl) HB HG k0 z l_z HQ

theorem hw25 (hp : ∀ c a d v w, Q (.panic c) (Act.put a d v) w → Q (.panic c) a w) {p6 : Nat} (hl : L = #[false, true, true, false, false, false, false, true, false, false]) (HB : Hid (XB V bK 2 aK mK cK K ∧ (∀ (U : World) (a : Option Addr) (c : Nat), V.grownBy U none → GatesW U a c hN → Calls Try.prog 62 #[.agg #[.slice a 1 c], .int .i64 (n : Int), .agg #[.int .i64 2, .slice aK mK cK]] U fun e w' => ∃ a c, e = .returned (.tuple #[.agg #[.slice a 1 c], .int .i64 R]) ∧ GatesW w' a c hN ∧ U.grownBy w' none))) (HG : V.grownBy W none) (z : BoxZ W p6) (l_z : V.heap.size ≤ p6) (HQ : Hid (hw2F Q V b18 b19 bK mK cK n aK R K)) :
    wpAnyH Try.prog .any hw2Ops Q (hw2P V bK mK cK n aK R K) 7 L (hw2f t b18 b19 bK mK cK n aK R K (.pointer (some ⟨p6, 0, none⟩)) (t 21) (t 117) (t 118) (.int .i64 (n : Int)) (.agg #[.int .i64 2, .slice aK mK cK]) (t 121) (t 122) (t 123)) W := by
  subst hl
  unfold hw2f
  refine wpAnyH_ready (rs := [0]) (by kernel_rfl) (by simp) ?_
  refine (AllReadyH.cons (o := hw2o0) rfl (fun K hK => ?_) AllReadyH.nil)
  rw [if_pos (by rfl)]
  unfold hw2o0
  go_simp
  go_at_call 66
  refine (h15_new_at W).mono ?_
  rintro e U ⟨a0, c0, rfl, k0, g⟩
  replace z := z.grown g
  replace HG := World.grownBy.trans HG g
  clear g
  go_wp2_with fail
  refine hK.out _ _ (hw2S HB.out HG) (fun hHeld => ?_)
  clear hK K
  try simp only [sA, sB]
  exact hw23 hp (by kernel_rfl) HB HG k0 z l_z HQ

theorem hw26 (hp : ∀ c a d v w, Q (.panic c) (Act.put a d v) w → Q (.panic c) a w)  (hl : L = #[false, true, true, false, false, false, false, false, false, false]) (HB : Hid (XB V bK 2 aK mK cK K ∧ (∀ (U : World) (a : Option Addr) (c : Nat), V.grownBy U none → GatesW U a c hN → Calls Try.prog 62 #[.agg #[.slice a 1 c], .int .i64 (n : Int), .agg #[.int .i64 2, .slice aK mK cK]] U fun e w' => ∃ a c, e = .returned (.tuple #[.agg #[.slice a 1 c], .int .i64 R]) ∧ GatesW w' a c hN ∧ U.grownBy w' none))) (HG : V.grownBy W none)  (HQ : Hid (hw2F Q V b18 b19 bK mK cK n aK R K)) :
    wpAnyH Try.prog .any hw2Ops Q (hw2P V bK mK cK n aK R K) 8 L (hw2f t b18 b19 bK mK cK n aK R K (t 20) (t 21) (t 117) (t 118) (.int .i64 (n : Int)) (.agg #[.int .i64 2, .slice aK mK cK]) (t 121) (t 122) (t 123)) W := by
  subst hl
  unfold hw2f
  refine wpAnyH_ready (rs := [0, 7]) (by kernel_rfl) (by simp) ?_
  refine (AllReadyH.cons (o := hw2o0) rfl (fun K hK => ?_) (AllReadyH.cons (o := hw2o7) rfl (fun K hK => ?_) AllReadyH.nil))
  · rw [if_pos (by rfl)]
    unfold hw2o0
    go_simp
    go_at_call 66
    refine (h15_new_at W).mono ?_
    rintro e U ⟨a0, c0, rfl, k0, g⟩
    replace HG := World.grownBy.trans HG g
    clear g
    go_wp2_with fail
    refine hK.out _ _ (hw2S HB.out HG) (fun hHeld => ?_)
    clear hK K
    try simp only [sA, sB]
    exact hw24 hp (by kernel_rfl) HB HG k0 HQ
  · rw [if_pos (by rfl)]
    unfold hw2o7
    go_simp
    have hg := World.grownBy_alloc W (.cells #[.slice none 0 0] 30) none
    have z := BoxZ.new W
    have l_z := World.grownBy.size HG
    replace HG := World.grownBy.trans HG hg
    obtain ⟨U, hU⟩ : ∃ U, W.alloc (.cells #[.slice none 0 0] 30) = U := ⟨_, rfl⟩
    rw [hU] at HG  z ⊢
    clear hU hg
    refine hK.out _ _ (hw2S HB.out HG) (fun hHeld => ?_)
    clear hK K
    try simp only [sA, sB, sC]
    exact hw25 hp (by kernel_rfl) HB HG z l_z HQ

theorem hw2_all {t0 t1 t2 t3 t4 t5 t6 t8 t10 t11 t12 t13 t14 t15 t16 t20 t21 t22 t23 t24 t25 t26 t27 t28 t29 t30 t31 t32 t33 t34 t35 t36 t37 t38 t39 t40 t41 t42 t43 t44 t45 t46 t47 t48 t49 t50 t51 t52 t53 t54 t55 t56 t57 t58 t59 t60 t61 t62 t63 t64 t65 t66 t67 t68 t69 t70 t71 t72 t73 t74 t75 t76 t77 t78 t79 t80 t81 t82 t83 t84 t85 t86 t87 t88 t89 t90 t91 t92 t93 t94 t95 t96 t97 t98 t99 t100 t101 t102 t103 t104 t105 t106 t107 t108 t109 t110 t111 t112 t113 t114 t115 t116 t117 t118 t119 t120 t121 t122 t123 t124 t125 t126 t127 t128 t129 t130 t131 t132 t133 t134 t135 t136 t137 t138 t139 t140 t141 t142 t143 t144 : Value} (hp : ∀ c a d v w, Q (.panic c) (Act.put a d v) w → Q (.panic c) a w) (HB : Hid (XB V bK 2 aK mK cK K ∧ (∀ (U : World) (a : Option Addr) (c : Nat), V.grownBy U none → GatesW U a c hN → Calls Try.prog 62 #[.agg #[.slice a 1 c], .int .i64 (n : Int), .agg #[.int .i64 2, .slice aK mK cK]] U fun e w' => ∃ a c, e = .returned (.tuple #[.agg #[.slice a 1 c], .int .i64 R]) ∧ GatesW w' a c hN ∧ U.grownBy w' none))) (HQ : Hid (hw2F Q V b18 b19 bK mK cK n aK R K)) :
    (Code.region 12 hw2Ops true).wp Try.prog Q ⟨#[t0, t1, t2, t3, t4, t5, t6, .bool true, t8, .int .i64 (n : Int), t10, t11, t12, t13, t14, t15, t16, .pointer (some ⟨bK, 0, none⟩), .pointer (some ⟨b18, 0, none⟩), .pointer (some ⟨b19, 0, none⟩), t20, t21, t22, t23, t24, t25, t26, t27, t28, t29, t30, t31, t32, t33, t34, t35, t36, t37, t38, t39, t40, t41, t42, t43, t44, t45, t46, t47, t48, t49, t50, t51, t52, t53, t54, t55, t56, t57, t58, t59, t60, t61, t62, t63, t64, t65, t66, t67, t68, t69, t70, t71, t72, t73, t74, t75, t76, t77, t78, t79, t80, t81, t82, t83, t84, t85, t86, t87, t88, t89, t90, t91, t92, t93, t94, t95, t96, t97, t98, t99, t100, t101, t102, t103, t104, t105, t106, t107, t108, t109, t110, t111, t112, t113, t114, t115, t116, t117, t118, t119, t120, t121, t122, t123, t124, t125, t126, t127, t128, t129, t130, t131, t132, t133, t134, t135, t136, t137, t138, t139, t140, t141, t142, t143, t144], []⟩ V := by
  have HG := ((⟨rfl, rfl, rfl, Nat.le_refl _, fun _ _ _ => rfl⟩ : V.grownBy V.drew none))
  refine wp_region_held_drew (S := (hw2P V bK mK cK n aK R K)) (by kernel_rfl) (hw2S HB.out HG) (fun hHeld => ?_)
  refine tk 1 hw2o1 ?_ rfl (by kernel_rfl) (fun c a w h => hp c a _ _ w h) (by rfl) ?_ hHeld ?_
  rotate_left 1
  · (intro W hSW; unfold hw2P at hSW; unfold hw2o1; first | (go_simp; done) | (go_simp; with_reducible rfl))
  try simp only [Act.put, sA, sB, sC]
  refine tk 2 hw2o2 ?_ rfl (by kernel_rfl) (fun c a w h => hp c a _ _ w h) (by rfl) ?_ hHeld ?_
  rotate_left 1
  · (intro W hSW; unfold hw2P at hSW; unfold hw2o2; first | (go_simp; done) | (go_simp; with_reducible rfl))
  try simp only [Act.put, sA, sB, sC]
  exact hw26 (t := fun k => List.getD [t0, t1, t2, t3, t4, t5, t6, undef, t8, undef, t10, t11, t12, t13, t14, t15, t16, undef, undef, undef, t20, t21, t22, t23, t24, t25, t26, t27, t28, t29, t30, t31, t32, t33, t34, t35, t36, t37, t38, t39, t40, t41, t42, t43, t44, t45, t46, t47, t48, t49, t50, t51, t52, t53, t54, t55, t56, t57, t58, t59, t60, t61, t62, t63, t64, t65, t66, t67, t68, t69, t70, t71, t72, t73, t74, t75, t76, t77, t78, t79, t80, t81, t82, t83, t84, t85, t86, t87, t88, t89, t90, t91, t92, t93, t94, t95, t96, t97, t98, t99, t100, t101, t102, t103, t104, t105, t106, t107, t108, t109, t110, t111, t112, t113, t114, t115, t116, t117, t118, t119, t120, t121, t122, t123, t124, t125, t126, t127, t128, t129, t130, t131, t132, t133, t134, t135, t136, t137, t138, t139, t140, t141, t142, t143, t144] k undef) hp (by kernel_rfl) HB HG HQ
end
end Go.Proofs.Ythdhmflodiincaa

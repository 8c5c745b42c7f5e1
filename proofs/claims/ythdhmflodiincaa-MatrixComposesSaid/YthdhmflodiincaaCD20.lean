/- Texts of the proof: RX. -/
import Derived.Test.YthdhmflodiincaaCD19
import Derived.Test.YthdhmflodiincaaCD00
import Derived.Deep.DeepCutAuto
set_option maxRecDepth 100000
set_option maxHeartbeats 8000000
namespace Go.Proofs.Ythdhmflodiincaa
open Go.RowKit Go.Maps

theorem const1_at {w : World} {a : Option Addr} {c : Nat} (ar x : Int) (h : IntsW w a c [x]) : Calls Try.prog 38 #[.agg #[.int .i64 ar, .slice a 1 c]] w fun e w' => ∃ b d, e = .returned (.agg #[.int .i64 ar, .slice b 1 d]) ∧ CellsW w' b d [(x, 0)] ∧ w.grownBy w' none := const_calls [x] ar a c w h (by simp)
theorem const2_at {w : World} {a : Option Addr} {c : Nat} (ar x y : Int) (h : IntsW w a c [x, y]) : Calls Try.prog 38 #[.agg #[.int .i64 ar, .slice a 2 c]] w fun e w' => ∃ b d, e = .returned (.agg #[.int .i64 ar, .slice b 2 d]) ∧ CellsW w' b d [(x, 0), (y, 0)] ∧ w.grownBy w' none := const_calls [x, y] ar a c w h (by simp)
abbrev hd8o0 : Oper := { dst := some 62, op := Op.load 30 (Operand.tmp 1), type := 30, pos := "law.go:21", after := #[], guard := none }
abbrev hd8o1 : Oper := { dst := some 63, op := Op.buildSlice 31 1 #[(0, Operand.const (Value.int IntKind.i64 1))], type := 31, pos := "law.go:21", after := #[], guard := none }
abbrev hd8o2 : Oper := { dst := some 64, op := Op.build 47 #[(0, Operand.const (Value.int IntKind.i64 2)), (1, Operand.tmp 63)], type := 47, pos := "law.go:21", after := #[{ on := 1, ground := Ground.data }], guard := none }
abbrev hd8o3 : Oper := { dst := some 65, op := Op.call { callee := Callee.value (Operand.func 38), args := #[Operand.tmp 64], argTypes := #[47] }, type := 26, pos := "law.go:21", after := #[{ on := 2, ground := Ground.data }], guard := none }
abbrev hd8o4 : Oper := { dst := some 66, op := Op.buildSlice 31 1 #[(0, Operand.const (Value.int IntKind.i64 2))], type := 31, pos := "law.go:21", after := #[], guard := none }
abbrev hd8o5 : Oper := { dst := some 67, op := Op.build 47 #[(0, Operand.const (Value.int IntKind.i64 2)), (1, Operand.tmp 66)], type := 47, pos := "law.go:21", after := #[{ on := 4, ground := Ground.data }], guard := none }
abbrev hd8o6 : Oper := { dst := some 68, op := Op.call { callee := Callee.value (Operand.func 38), args := #[Operand.tmp 67], argTypes := #[47] }, type := 26, pos := "law.go:21", after := #[{ on := 5, ground := Ground.data }, { on := 3, ground := Ground.chain }], guard := none }
abbrev hd8o7 : Oper := { dst := some 69, op := Op.call { callee := Callee.value (Operand.func 40), args := #[Operand.tmp 62, Operand.const (Value.int IntKind.i64 2), Operand.tmp 65, Operand.tmp 68], argTypes := #[30, 3, 26, 26] }, type := 38, pos := "law.go:21", after := #[{ on := 0, ground := Ground.data }, { on := 3, ground := Ground.data }, { on := 6, ground := Ground.data }, { on := 6, ground := Ground.chain }], guard := none }
abbrev hd8o8 : Oper := { dst := some 61, op := Op.move (Operand.tmp 69), type := 38, pos := "law.go:21", after := #[{ on := 7, ground := Ground.data }], guard := none }
abbrev hd8o9 : Oper := { dst := some 70, op := Op.extract (Operand.tmp 61) 0, type := 30, pos := "law.go:21", after := #[{ on := 8, ground := Ground.data }], guard := none }
abbrev hd8o10 : Oper := { dst := some 71, op := Op.extract (Operand.tmp 61) 1, type := 26, pos := "law.go:21", after := #[{ on := 8, ground := Ground.data }, { on := 13, ground := Ground.gcOnly Departure.lateStores }], guard := none }
abbrev hd8o11 : Oper := { dst := some 13, op := Op.alloc 30, type := 0, pos := "law.go:21", after := #[], guard := none }
abbrev hd8o12 : Oper := { dst := some 14, op := Op.alloc 26, type := 0, pos := "law.go:21", after := #[], guard := none }
abbrev hd8o13 : Oper := { dst := none, op := Op.store 30 (Operand.tmp 13) (Operand.tmp 70), type := 0, pos := "law.go:21", after := #[{ on := 11, ground := Ground.data }, { on := 9, ground := Ground.data }, { on := 7, ground := Ground.chain }, { on := 0, ground := Ground.phase }, { on := 1, ground := Ground.phase }, { on := 2, ground := Ground.phase }, { on := 3, ground := Ground.phase }, { on := 4, ground := Ground.phase }, { on := 5, ground := Ground.phase }, { on := 6, ground := Ground.phase }, { on := 7, ground := Ground.phase }, { on := 8, ground := Ground.phase }, { on := 9, ground := Ground.phase }, { on := 10, ground := Ground.textOnly Departure.lateStores }, { on := 11, ground := Ground.phase }, { on := 12, ground := Ground.phase }], guard := none }
abbrev hd8o14 : Oper := { dst := none, op := Op.store 26 (Operand.tmp 14) (Operand.tmp 71), type := 0, pos := "law.go:21", after := #[{ on := 12, ground := Ground.data }, { on := 10, ground := Ground.data }, { on := 13, ground := Ground.chain }, { on := 0, ground := Ground.phase }, { on := 1, ground := Ground.phase }, { on := 2, ground := Ground.phase }, { on := 3, ground := Ground.phase }, { on := 4, ground := Ground.phase }, { on := 5, ground := Ground.phase }, { on := 6, ground := Ground.phase }, { on := 7, ground := Ground.phase }, { on := 8, ground := Ground.phase }, { on := 9, ground := Ground.phase }, { on := 10, ground := Ground.phase }, { on := 11, ground := Ground.phase }, { on := 12, ground := Ground.phase }, { on := 13, ground := Ground.phase }], guard := none }
def hd8Ops : Array Oper := #[hd8o0, hd8o1, hd8o2, hd8o3, hd8o4, hd8o5, hd8o6, hd8o7, hd8o8, hd8o9, hd8o10, hd8o11, hd8o12, hd8o13, hd8o14]
def hd8P (V : World) (bc : Nat) (ac : Option Addr) (cc : Nat) : World → Prop := (fun Wh : World => V.grownBy Wh none ∧ Wh.cell? ⟨bc, 0, none⟩ = some (.slice ac hC.length cc))
theorem hd8S {V W : World} {bc : Nat} {ac : Option Addr} {cc : Nat} (h : CB V bc ac cc hC) (HG : V.grownBy W none) : (hd8P V bc ac cc) W := ⟨HG, (h.grown HG).1⟩
def hd8F (Q : Exit → Act → World → Prop) (V : World) (bc ba bb bd bu be bi bf bg : Nat) : Prop := ∀ (aJ : Option Addr) (cJ : Nat) (bJ : Option Addr) (dJ : Nat) (p11 : Nat) (p12 : Nat) (u0 u15 u16 u17 u18 u19 u20 u21 u22 u23 u24 u25 u26 u27 u28 u29 u30 u31 u32 u33 u34 u35 u36 u37 u38 u39 u40 u41 u42 u43 u44 u45 u46 u47 u48 u49 u50 u51 u52 u53 u54 u55 u56 u57 u58 u59 u60 u61 u62 u63 u64 u65 u66 u67 u68 u69 u70 u71 u72 u73 u74 u75 u76 u77 u78 u79 u80 u81 u82 u83 u84 u85 u86 u87 u88 u89 u90 u91 u92 u93 u94 u95 u96 u97 u98 u99 u100 u101 u102 u103 u104 u105 u106 u107 u108 u109 u110 u111 u112 u113 u114 u115 u116 u117 u118 u119 u120 u121 u122 u123 u124 u125 u126 u127 u128 u129 u130 u131 u132 u133 u134 u135 u136 u137 u138 u139 u140 u141 u142 u143 u144 u145 u146 u147 u148 u149 u150 u151 u152 u153 u154 u155 u156 u157 u158 u159 u160 u161 u162 u163 u164 u165 u166 u167 u168 u169 u170 u171 u172 u173 u174 u175 : Value) (W : World), V.grownBy W none → V.heap.size ≤ p11 → V.heap.size ≤ p12 → CB W p11 aJ cJ hC → XB W p12 2 bJ 1 dJ [(0, 0)] → Q .normal ⟨#[u0, .pointer (some ⟨bc, 0, none⟩), .int .i64 2, .pointer (some ⟨ba, 0, none⟩), .pointer (some ⟨bb, 0, none⟩), .pointer (some ⟨bd, 0, none⟩), .pointer (some ⟨bu, 0, none⟩), .pointer (some ⟨be, 0, none⟩), .pointer (some ⟨bi, 0, none⟩), .pointer (some ⟨bf, 0, none⟩), .int .i64 0, .pointer (some ⟨bg, 0, none⟩), .int .i64 1, .pointer (some ⟨p11, 0, none⟩), .pointer (some ⟨p12, 0, none⟩), u15, u16, u17, u18, u19, u20, u21, u22, u23, u24, u25, u26, u27, u28, u29, u30, u31, u32, u33, u34, u35, u36, u37, u38, u39, u40, u41, u42, u43, u44, u45, u46, u47, u48, u49, u50, u51, u52, u53, u54, u55, u56, u57, u58, u59, u60, u61, u62, u63, u64, u65, u66, u67, u68, u69, u70, u71, u72, u73, u74, u75, u76, u77, u78, u79, u80, u81, u82, u83, u84, u85, u86, u87, u88, u89, u90, u91, u92, u93, u94, u95, u96, u97, u98, u99, u100, u101, u102, u103, u104, u105, u106, u107, u108, u109, u110, u111, u112, u113, u114, u115, u116, u117, u118, u119, u120, u121, u122, u123, u124, u125, u126, u127, u128, u129, u130, u131, u132, u133, u134, u135, u136, u137, u138, u139, u140, u141, u142, u143, u144, u145, u146, u147, u148, u149, u150, u151, u152, u153, u154, u155, u156, u157, u158, u159, u160, u161, u162, u163, u164, u165, u166, u167, u168, u169, u170, u171, u172, u173, u174, u175], []⟩ W
def hd8f (t : Nat → Value) (bc ba bb bd bu be bi bf bg : Nat) (v13 v14 v61 v62 v63 v64 v65 v66 v67 v68 v69 v70 v71 : Value) : Act := ⟨#[t 0, .pointer (some ⟨bc, 0, none⟩), .int .i64 2, .pointer (some ⟨ba, 0, none⟩), .pointer (some ⟨bb, 0, none⟩), .pointer (some ⟨bd, 0, none⟩), .pointer (some ⟨bu, 0, none⟩), .pointer (some ⟨be, 0, none⟩), .pointer (some ⟨bi, 0, none⟩), .pointer (some ⟨bf, 0, none⟩), .int .i64 0, .pointer (some ⟨bg, 0, none⟩), .int .i64 1, v13, v14, t 15, t 16, t 17, t 18, t 19, t 20, t 21, t 22, t 23, t 24, t 25, t 26, t 27, t 28, t 29, t 30, t 31, t 32, t 33, t 34, t 35, t 36, t 37, t 38, t 39, t 40, t 41, t 42, t 43, t 44, t 45, t 46, t 47, t 48, t 49, t 50, t 51, t 52, t 53, t 54, t 55, t 56, t 57, t 58, t 59, t 60, v61, v62, v63, v64, v65, v66, v67, v68, v69, v70, v71, t 72, t 73, t 74, t 75, t 76, t 77, t 78, t 79, t 80, t 81, t 82, t 83, t 84, t 85, t 86, t 87, t 88, t 89, t 90, t 91, t 92, t 93, t 94, t 95, t 96, t 97, t 98, t 99, t 100, t 101, t 102, t 103, t 104, t 105, t 106, t 107, t 108, t 109, t 110, t 111, t 112, t 113, t 114, t 115, t 116, t 117, t 118, t 119, t 120, t 121, t 122, t 123, t 124, t 125, t 126, t 127, t 128, t 129, t 130, t 131, t 132, t 133, t 134, t 135, t 136, t 137, t 138, t 139, t 140, t 141, t 142, t 143, t 144, t 145, t 146, t 147, t 148, t 149, t 150, t 151, t 152, t 153, t 154, t 155, t 156, t 157, t 158, t 159, t 160, t 161, t 162, t 163, t 164, t 165, t 166, t 167, t 168, t 169, t 170, t 171, t 172, t 173, t 174, t 175], []⟩
section
variable {Q : Exit → Act → World → Prop} {V W : World} {bc ba bb bd bu be bi bf bg : Nat} {ac : Option Addr} {cc : Nat} {L : Array Bool} {t : Nat → Value}
theorem hd80 (_hp : ∀ c a d v w, Q (.panic c) (Act.put a d v) w → Q (.panic c) a w) {p1 : Nat} {a3 : Option Addr} {c3 : Nat} {p4 : Nat} {a6 : Option Addr} {c6 : Nat} {aJ : Option Addr} {cJ : Nat} {bJ : Option Addr} {dJ : Nat} {p11 : Nat} {p12 : Nat} (hl : L = #[true, true, true, true, true, true, true, true, true, true, true, true, true, true, true]) (_HB : Hid (CB V bc ac cc hC)) (HG : V.grownBy W none) (l_z : V.heap.size ≤ p11) (l_y : V.heap.size ≤ p12) (cb : CB W p11 aJ cJ hC) (xb : XB W p12 2 bJ 1 dJ [(0, 0)]) (HQ : Hid (hd8F Q V bc ba bb bd bu be bi bf bg)) :
  wpAnyH Try.prog .any hd8Ops Q (hd8P V bc ac cc) 0 L (hd8f t bc ba bb bd bu be bi bf bg (.pointer (some ⟨p11, 0, none⟩)) (.pointer (some ⟨p12, 0, none⟩)) (.tuple #[.agg #[.slice aJ hC.length cJ], .agg #[.int .i64 2, .slice bJ 1 dJ]]) (.agg #[.slice ac hC.length cc]) (.slice (some ⟨p1, 0, none⟩) 1 1) (.agg #[.int .i64 2, .slice (some ⟨p1, 0, none⟩) 1 1]) (.agg #[.int .i64 2, .slice a3 1 c3]) (.slice (some ⟨p4, 0, none⟩) 1 1) (.agg #[.int .i64 2, .slice (some ⟨p4, 0, none⟩) 1 1]) (.agg #[.int .i64 2, .slice a6 1 c6]) (.tuple #[.agg #[.slice aJ hC.length cJ], .agg #[.int .i64 2, .slice bJ 1 dJ]]) (.agg #[.slice aJ hC.length cJ]) (.agg #[.int .i64 2, .slice bJ 1 dJ])) W := by
 subst hl
 unfold hd8f
 refine wpAnyH_done (by kernel_rfl) ?_ _
 exact HQ.out _ _ _ _ _ _ _ _ _ _ _ _ _ _ _ _ _ _ _ _ _ _ _ _ _ _ _ _ _ _ _ _ _ _ _ _ _ _ _ _ _ _ _ _ _ _ _ _ _ _ _ _ _ _ _ _ _ _ _ _ _ _ _ _ _ _ _ _ _ _ _ _ _ _ _ _ _ _ _ _ _ _ _ _ _ _ _ _ _ _ _ _ _ _ _ _ _ _ _ _ _ _ _ _ _ _ _ _ _ _ _ _ _ _ _ _ _ _ _ _ _ _ _ _ _ _ _ _ _ _ _ _ _ _ _ _ _ _ _ _ _ _ _ _ _ _ _ _ _ _ _ _ _ _ _ _ _ _ _ _ _ _ _ _ _ _ _ _ _ HG l_z l_y cb xb

theorem hd81 (hp : ∀ c a d v w, Q (.panic c) (Act.put a d v) w → Q (.panic c) a w) {p1 : Nat} {a3 : Option Addr} {c3 : Nat} {p4 : Nat} {a6 : Option Addr} {c6 : Nat} {aJ : Option Addr} {cJ : Nat} {bJ : Option Addr} {dJ : Nat} {p11 : Nat} {p12 : Nat} (hl : L = #[true, true, true, true, true, true, true, true, true, true, true, true, true, true, false]) (HB : Hid (CB V bc ac cc hC)) (HG : V.grownBy W none) (mJ : CellsW W bJ dJ [(0, 0)]) (l_z : V.heap.size ≤ p11) (y : XZ W p12) (l_y : V.heap.size ≤ p12) (cb : CB W p11 aJ cJ hC) (HQ : Hid (hd8F Q V bc ba bb bd bu be bi bf bg)) :
  wpAnyH Try.prog .any hd8Ops Q (hd8P V bc ac cc) 1 L (hd8f t bc ba bb bd bu be bi bf bg (.pointer (some ⟨p11, 0, none⟩)) (.pointer (some ⟨p12, 0, none⟩)) (.tuple #[.agg #[.slice aJ hC.length cJ], .agg #[.int .i64 2, .slice bJ 1 dJ]]) (.agg #[.slice ac hC.length cc]) (.slice (some ⟨p1, 0, none⟩) 1 1) (.agg #[.int .i64 2, .slice (some ⟨p1, 0, none⟩) 1 1]) (.agg #[.int .i64 2, .slice a3 1 c3]) (.slice (some ⟨p4, 0, none⟩) 1 1) (.agg #[.int .i64 2, .slice (some ⟨p4, 0, none⟩) 1 1]) (.agg #[.int .i64 2, .slice a6 1 c6]) (.tuple #[.agg #[.slice aJ hC.length cJ], .agg #[.int .i64 2, .slice bJ 1 dJ]]) (.agg #[.slice aJ hC.length cJ]) (.agg #[.int .i64 2, .slice bJ 1 dJ])) W := by
 subst hl
 unfold hd8f
 refine wpAnyH_ready (rs := [14]) (by kernel_rfl) (by simp) ?_
 refine (AllReadyH.cons (o := hd8o14) rfl (fun K hK => ?_) AllReadyH.nil)
 rw [if_pos (by rfl)]
 unfold hd8o14
 have y0 := y.1
 have y1 := y.2.1
 have y2 := y.2.2.1
 have y3 := y.2.2.2
 go_simp
 have xb := (show XB (laidX W p12 (.int .i64 2) (.slice bJ 1 dJ)) p12 2 bJ 1 dJ [(0, 0)] from XZ.put y 2 mJ rfl)
 replace cb := XZ.cb y (.int .i64 2) (.slice bJ 1 dJ) cb
 replace HG := XZ.grows HG l_y (.int .i64 2) (.slice bJ 1 dJ)
 clear y mJ
 unfold laidX at HG cb xb
 obtain ⟨U, hU⟩ : ∃ U, (W.setCell ⟨p12, 0, none⟩ (.int .i64 2)).setCell ⟨p12, 1, none⟩ (.slice bJ 1 dJ) = U := ⟨_, rfl⟩
 rw [hU] at HG cb xb ⊢
 clear hU
 refine hK.out _ _ (hd8S HB.out HG) (fun hH => ?_)
 clear hK K
 try simp only [sA, sB, sC]
 exact hd80 hp (by kernel_rfl) HB HG l_z l_y cb xb HQ

theorem hd82 (hp : ∀ c a d v w, Q (.panic c) (Act.put a d v) w → Q (.panic c) a w) {p1 : Nat} {a3 : Option Addr} {c3 : Nat} {p4 : Nat} {a6 : Option Addr} {c6 : Nat} {aJ : Option Addr} {cJ : Nat} {bJ : Option Addr} {dJ : Nat} {p11 : Nat} {p12 : Nat} (hl : L = #[true, true, true, true, true, true, true, true, true, true, true, true, true, false, false]) (HB : Hid (CB V bc ac cc hC)) (HG : V.grownBy W none) (gJ : GatesW W aJ cJ hC) (mJ : CellsW W bJ dJ [(0, 0)]) (z : BoxZ W p11) (l_z : V.heap.size ≤ p11) (y : XZ W p12) (l_y : V.heap.size ≤ p12) (HQ : Hid (hd8F Q V bc ba bb bd bu be bi bf bg)) :
  wpAnyH Try.prog .any hd8Ops Q (hd8P V bc ac cc) 2 L (hd8f t bc ba bb bd bu be bi bf bg (.pointer (some ⟨p11, 0, none⟩)) (.pointer (some ⟨p12, 0, none⟩)) (.tuple #[.agg #[.slice aJ hC.length cJ], .agg #[.int .i64 2, .slice bJ 1 dJ]]) (.agg #[.slice ac hC.length cc]) (.slice (some ⟨p1, 0, none⟩) 1 1) (.agg #[.int .i64 2, .slice (some ⟨p1, 0, none⟩) 1 1]) (.agg #[.int .i64 2, .slice a3 1 c3]) (.slice (some ⟨p4, 0, none⟩) 1 1) (.agg #[.int .i64 2, .slice (some ⟨p4, 0, none⟩) 1 1]) (.agg #[.int .i64 2, .slice a6 1 c6]) (.tuple #[.agg #[.slice aJ hC.length cJ], .agg #[.int .i64 2, .slice bJ 1 dJ]]) (.agg #[.slice aJ hC.length cJ]) (.agg #[.int .i64 2, .slice bJ 1 dJ])) W := by
 subst hl
 unfold hd8f
 refine wpAnyH_ready (rs := [13]) (by kernel_rfl) (by simp) ?_
 refine (AllReadyH.cons (o := hd8o13) rfl (fun K hK => ?_) AllReadyH.nil)
 rw [if_pos (by rfl)]
 unfold hd8o13
 have z0 := z.1
 have zf := z.2
 go_simp
 have cb := CB.put gJ z.1 z.2
 replace mJ := CellsW.setB z (.slice aJ hC.length cJ) mJ
 replace y := XZ.set y z (.slice aJ hC.length cJ)
 replace HG := grown_own HG (grown_set W p11 0 (.slice aJ hC.length cJ)) (fun k e => by cases e; exact l_z)
 clear gJ z
 obtain ⟨U, hU⟩ : ∃ U, W.setCell ⟨p11, 0, none⟩ (.slice aJ hC.length cJ) = U := ⟨_, rfl⟩
 rw [hU] at HG mJ y cb ⊢
 clear hU
 refine hK.out _ _ (hd8S HB.out HG) (fun hH => ?_)
 clear hK K
 try simp only [sA, sB, sC]
 exact hd81 hp (by kernel_rfl) HB HG mJ l_z y l_y cb HQ

theorem hd83 (hp : ∀ c a d v w, Q (.panic c) (Act.put a d v) w → Q (.panic c) a w) {p1 : Nat} {a3 : Option Addr} {c3 : Nat} {p4 : Nat} {a6 : Option Addr} {c6 : Nat} {aJ : Option Addr} {cJ : Nat} {bJ : Option Addr} {dJ : Nat} {p11 : Nat} (hl : L = #[true, true, true, true, true, true, true, true, true, true, true, true, false, false, false]) (HB : Hid (CB V bc ac cc hC)) (HG : V.grownBy W none) (gJ : GatesW W aJ cJ hC) (mJ : CellsW W bJ dJ [(0, 0)]) (z : BoxZ W p11) (l_z : V.heap.size ≤ p11) (HQ : Hid (hd8F Q V bc ba bb bd bu be bi bf bg)) :
  wpAnyH Try.prog .any hd8Ops Q (hd8P V bc ac cc) 3 L (hd8f t bc ba bb bd bu be bi bf bg (.pointer (some ⟨p11, 0, none⟩)) (t 14) (.tuple #[.agg #[.slice aJ hC.length cJ], .agg #[.int .i64 2, .slice bJ 1 dJ]]) (.agg #[.slice ac hC.length cc]) (.slice (some ⟨p1, 0, none⟩) 1 1) (.agg #[.int .i64 2, .slice (some ⟨p1, 0, none⟩) 1 1]) (.agg #[.int .i64 2, .slice a3 1 c3]) (.slice (some ⟨p4, 0, none⟩) 1 1) (.agg #[.int .i64 2, .slice (some ⟨p4, 0, none⟩) 1 1]) (.agg #[.int .i64 2, .slice a6 1 c6]) (.tuple #[.agg #[.slice aJ hC.length cJ], .agg #[.int .i64 2, .slice bJ 1 dJ]]) (.agg #[.slice aJ hC.length cJ]) (.agg #[.int .i64 2, .slice bJ 1 dJ])) W := by
 subst hl
 unfold hd8f
 refine wpAnyH_ready (rs := [12]) (by kernel_rfl) (by simp) ?_
 refine (AllReadyH.cons (o := hd8o12) rfl (fun K hK => ?_) AllReadyH.nil)
 rw [if_pos (by rfl)]
 unfold hd8o12
 go_simp
 have hg := gAl W (.cells #[.int .i64 0, .slice none 0 0] 26) none
 have y := XZ.new W
 have l_y := World.grownBy.size HG
 replace gJ := gJ.grown hg
 replace mJ := mJ.grown hg
 replace z := z.grown hg
 replace HG := gT HG hg
 obtain ⟨U, hU⟩ : ∃ U, W.alloc (.cells #[.int .i64 0, .slice none 0 0] 26) = U := ⟨_, rfl⟩
 rw [hU] at HG gJ mJ z y ⊢
 clear hU hg
 refine hK.out _ _ (hd8S HB.out HG) (fun hH => ?_)
 clear hK K
 try simp only [sA, sB, sC]
 exact hd82 hp (by kernel_rfl) HB HG gJ mJ z l_z y l_y HQ

theorem hd84 (hp : ∀ c a d v w, Q (.panic c) (Act.put a d v) w → Q (.panic c) a w) {p1 : Nat} {a3 : Option Addr} {c3 : Nat} {p4 : Nat} {a6 : Option Addr} {c6 : Nat} {aJ : Option Addr} {cJ : Nat} {bJ : Option Addr} {dJ : Nat} {p12 : Nat} (hl : L = #[true, true, true, true, true, true, true, true, true, true, true, false, true, false, false]) (HB : Hid (CB V bc ac cc hC)) (HG : V.grownBy W none) (gJ : GatesW W aJ cJ hC) (mJ : CellsW W bJ dJ [(0, 0)]) (y : XZ W p12) (l_y : V.heap.size ≤ p12) (HQ : Hid (hd8F Q V bc ba bb bd bu be bi bf bg)) :
  wpAnyH Try.prog .any hd8Ops Q (hd8P V bc ac cc) 3 L (hd8f t bc ba bb bd bu be bi bf bg (t 13) (.pointer (some ⟨p12, 0, none⟩)) (.tuple #[.agg #[.slice aJ hC.length cJ], .agg #[.int .i64 2, .slice bJ 1 dJ]]) (.agg #[.slice ac hC.length cc]) (.slice (some ⟨p1, 0, none⟩) 1 1) (.agg #[.int .i64 2, .slice (some ⟨p1, 0, none⟩) 1 1]) (.agg #[.int .i64 2, .slice a3 1 c3]) (.slice (some ⟨p4, 0, none⟩) 1 1) (.agg #[.int .i64 2, .slice (some ⟨p4, 0, none⟩) 1 1]) (.agg #[.int .i64 2, .slice a6 1 c6]) (.tuple #[.agg #[.slice aJ hC.length cJ], .agg #[.int .i64 2, .slice bJ 1 dJ]]) (.agg #[.slice aJ hC.length cJ]) (.agg #[.int .i64 2, .slice bJ 1 dJ])) W := by
 subst hl
 unfold hd8f
 refine wpAnyH_ready (rs := [11]) (by kernel_rfl) (by simp) ?_
 refine (AllReadyH.cons (o := hd8o11) rfl (fun K hK => ?_) AllReadyH.nil)
 rw [if_pos (by rfl)]
 unfold hd8o11
 go_simp
 have hg := gAl W (.cells #[.slice none 0 0] 30) none
 have z := BoxZ.new W
 have l_z := World.grownBy.size HG
 replace gJ := gJ.grown hg
 replace mJ := mJ.grown hg
 replace y := y.grown hg
 replace HG := gT HG hg
 obtain ⟨U, hU⟩ : ∃ U, W.alloc (.cells #[.slice none 0 0] 30) = U := ⟨_, rfl⟩
 rw [hU] at HG gJ mJ y z ⊢
 clear hU hg
 refine hK.out _ _ (hd8S HB.out HG) (fun hH => ?_)
 clear hK K
 try simp only [sA, sB, sC]
 exact hd82 hp (by kernel_rfl) HB HG gJ mJ z l_z y l_y HQ

theorem hd85 (hp : ∀ c a d v w, Q (.panic c) (Act.put a d v) w → Q (.panic c) a w) {p1 : Nat} {a3 : Option Addr} {c3 : Nat} {p4 : Nat} {a6 : Option Addr} {c6 : Nat} {aJ : Option Addr} {cJ : Nat} {bJ : Option Addr} {dJ : Nat} (hl : L = #[true, true, true, true, true, true, true, true, true, true, true, false, false, false, false]) (HB : Hid (CB V bc ac cc hC)) (HG : V.grownBy W none) (gJ : GatesW W aJ cJ hC) (mJ : CellsW W bJ dJ [(0, 0)]) (HQ : Hid (hd8F Q V bc ba bb bd bu be bi bf bg)) :
  wpAnyH Try.prog .any hd8Ops Q (hd8P V bc ac cc) 4 L (hd8f t bc ba bb bd bu be bi bf bg (t 13) (t 14) (.tuple #[.agg #[.slice aJ hC.length cJ], .agg #[.int .i64 2, .slice bJ 1 dJ]]) (.agg #[.slice ac hC.length cc]) (.slice (some ⟨p1, 0, none⟩) 1 1) (.agg #[.int .i64 2, .slice (some ⟨p1, 0, none⟩) 1 1]) (.agg #[.int .i64 2, .slice a3 1 c3]) (.slice (some ⟨p4, 0, none⟩) 1 1) (.agg #[.int .i64 2, .slice (some ⟨p4, 0, none⟩) 1 1]) (.agg #[.int .i64 2, .slice a6 1 c6]) (.tuple #[.agg #[.slice aJ hC.length cJ], .agg #[.int .i64 2, .slice bJ 1 dJ]]) (.agg #[.slice aJ hC.length cJ]) (.agg #[.int .i64 2, .slice bJ 1 dJ])) W := by
 subst hl
 unfold hd8f
 refine wpAnyH_ready (rs := [11, 12]) (by kernel_rfl) (by simp) ?_
 refine (AllReadyH.cons (o := hd8o11) rfl (fun K hK => ?_) (AllReadyH.cons (o := hd8o12) rfl (fun K hK => ?_) AllReadyH.nil))
 ·
  rw [if_pos (by rfl)]
  unfold hd8o11
  go_simp
  have hg := gAl W (.cells #[.slice none 0 0] 30) none
  have z := BoxZ.new W
  have l_z := World.grownBy.size HG
  replace gJ := gJ.grown hg
  replace mJ := mJ.grown hg
  replace HG := gT HG hg
  obtain ⟨U, hU⟩ : ∃ U, W.alloc (.cells #[.slice none 0 0] 30) = U := ⟨_, rfl⟩
  rw [hU] at HG gJ mJ z ⊢
  clear hU hg
  refine hK.out _ _ (hd8S HB.out HG) (fun hH => ?_)
  clear hK K
  try simp only [sA, sB, sC]
  exact hd83 hp (by kernel_rfl) HB HG gJ mJ z l_z HQ
 ·
  rw [if_pos (by rfl)]
  unfold hd8o12
  go_simp
  have hg := gAl W (.cells #[.int .i64 0, .slice none 0 0] 26) none
  have y := XZ.new W
  have l_y := World.grownBy.size HG
  replace gJ := gJ.grown hg
  replace mJ := mJ.grown hg
  replace HG := gT HG hg
  obtain ⟨U, hU⟩ : ∃ U, W.alloc (.cells #[.int .i64 0, .slice none 0 0] 26) = U := ⟨_, rfl⟩
  rw [hU] at HG gJ mJ y ⊢
  clear hU hg
  refine hK.out _ _ (hd8S HB.out HG) (fun hH => ?_)
  clear hK K
  try simp only [sA, sB, sC]
  exact hd84 hp (by kernel_rfl) HB HG gJ mJ y l_y HQ

theorem hd86 (hp : ∀ c a d v w, Q (.panic c) (Act.put a d v) w → Q (.panic c) a w) {p1 : Nat} {a3 : Option Addr} {c3 : Nat} {p4 : Nat} {a6 : Option Addr} {c6 : Nat} {p11 : Nat} {p12 : Nat} (hl : L = #[true, true, true, true, true, true, true, false, false, false, false, true, true, false, false]) (HB : Hid (CB V bc ac cc hC)) (HG : V.grownBy W none) (k3 : CellsW W a3 c3 [(1, 0)]) (k6 : CellsW W a6 c6 [(2, 0)]) (z : BoxZ W p11) (l_z : V.heap.size ≤ p11) (y : XZ W p12) (l_y : V.heap.size ≤ p12) (HQ : Hid (hd8F Q V bc ba bb bd bu be bi bf bg)) :
  wpAnyH Try.prog .any hd8Ops Q (hd8P V bc ac cc) 6 L (hd8f t bc ba bb bd bu be bi bf bg (.pointer (some ⟨p11, 0, none⟩)) (.pointer (some ⟨p12, 0, none⟩)) (t 61) (.agg #[.slice ac hC.length cc]) (.slice (some ⟨p1, 0, none⟩) 1 1) (.agg #[.int .i64 2, .slice (some ⟨p1, 0, none⟩) 1 1]) (.agg #[.int .i64 2, .slice a3 1 c3]) (.slice (some ⟨p4, 0, none⟩) 1 1) (.agg #[.int .i64 2, .slice (some ⟨p4, 0, none⟩) 1 1]) (.agg #[.int .i64 2, .slice a6 1 c6]) (t 69) (t 70) (t 71)) W := by
 subst hl
 unfold hd8f
 refine wpAnyH_ready (rs := [7]) (by kernel_rfl) (by simp) ?_
 refine (AllReadyH.cons (o := hd8o7) rfl (fun K hK => ?_) AllReadyH.nil)
 rw [if_pos (by rfl)]
 unfold hd8o7
 go_simp
 go_at_call 40
 refine (h_join_at (HB.out.grown HG).2.2 k3 k6).mono ?_
 rintro e U ⟨aJ, cJ, bJ, nJ, dJ, rfl, hn, gJ, mJ, g⟩
 obtain rfl : nJ = 1 := hn.symm
 clear hn
 replace z := z.grown g
 replace y := y.grown g
 replace HG := gT HG g
 clear g
 go_wp2_with fail
 refine hK.out _ _ (hd8S HB.out HG) (fun hH => ?_)
 clear hK K
 try simp only [sA, sB, sC]
 refine tk 8 hd8o8 ?_ rfl (by kernel_rfl) (fun c a w h => hp c a _ _ w h) (by rfl) ?_ hH ?_
 rotate_left 1
 · (intro W hSW; unfold hd8P at hSW; unfold hd8o8; first | (go_simp; done) | (go_simp; with_reducible rfl))
 try simp only [Act.put, sA, sB, sC]
 refine tk 9 hd8o9 ?_ rfl (by kernel_rfl) (fun c a w h => hp c a _ _ w h) (by rfl) ?_ hH ?_
 rotate_left 1
 · (intro W hSW; unfold hd8P at hSW; unfold hd8o9; first | (go_simp; done) | (go_simp; with_reducible rfl))
 try simp only [Act.put, sA, sB, sC]
 refine tk 10 hd8o10 ?_ rfl (by kernel_rfl) (fun c a w h => hp c a _ _ w h) (by rfl) ?_ hH ?_
 rotate_left 1
 · (intro W hSW; unfold hd8P at hSW; unfold hd8o10; first | (go_simp; done) | (go_simp; with_reducible rfl))
 try simp only [Act.put, sA, sB, sC]
 exact hd82 hp (by kernel_rfl) HB HG gJ mJ z l_z y l_y HQ

theorem hd87 (hp : ∀ c a d v w, Q (.panic c) (Act.put a d v) w → Q (.panic c) a w) {p1 : Nat} {a3 : Option Addr} {c3 : Nat} {p4 : Nat} {a6 : Option Addr} {c6 : Nat} {p11 : Nat} (hl : L = #[true, true, true, true, true, true, true, false, false, false, false, true, false, false, false]) (HB : Hid (CB V bc ac cc hC)) (HG : V.grownBy W none) (k3 : CellsW W a3 c3 [(1, 0)]) (k6 : CellsW W a6 c6 [(2, 0)]) (z : BoxZ W p11) (l_z : V.heap.size ≤ p11) (HQ : Hid (hd8F Q V bc ba bb bd bu be bi bf bg)) :
  wpAnyH Try.prog .any hd8Ops Q (hd8P V bc ac cc) 7 L (hd8f t bc ba bb bd bu be bi bf bg (.pointer (some ⟨p11, 0, none⟩)) (t 14) (t 61) (.agg #[.slice ac hC.length cc]) (.slice (some ⟨p1, 0, none⟩) 1 1) (.agg #[.int .i64 2, .slice (some ⟨p1, 0, none⟩) 1 1]) (.agg #[.int .i64 2, .slice a3 1 c3]) (.slice (some ⟨p4, 0, none⟩) 1 1) (.agg #[.int .i64 2, .slice (some ⟨p4, 0, none⟩) 1 1]) (.agg #[.int .i64 2, .slice a6 1 c6]) (t 69) (t 70) (t 71)) W := by
 subst hl
 unfold hd8f
 refine wpAnyH_ready (rs := [7, 12]) (by kernel_rfl) (by simp) ?_
 refine (AllReadyH.cons (o := hd8o7) rfl (fun K hK => ?_) (AllReadyH.cons (o := hd8o12) rfl (fun K hK => ?_) AllReadyH.nil))
 ·
  rw [if_pos (by rfl)]
  unfold hd8o7
  go_simp
  go_at_call 40
  refine (h_join_at (HB.out.grown HG).2.2 k3 k6).mono ?_
  rintro e U ⟨aJ, cJ, bJ, nJ, dJ, rfl, hn, gJ, mJ, g⟩
  obtain rfl : nJ = 1 := hn.symm
  clear hn
  replace z := z.grown g
  replace HG := gT HG g
  clear g
  go_wp2_with fail
  refine hK.out _ _ (hd8S HB.out HG) (fun hH => ?_)
  clear hK K
  try simp only [sA, sB, sC]
  refine tk 8 hd8o8 ?_ rfl (by kernel_rfl) (fun c a w h => hp c a _ _ w h) (by rfl) ?_ hH ?_
  rotate_left 1
  · (intro W hSW; unfold hd8P at hSW; unfold hd8o8; first | (go_simp; done) | (go_simp; with_reducible rfl))
  try simp only [Act.put, sA, sB, sC]
  refine tk 9 hd8o9 ?_ rfl (by kernel_rfl) (fun c a w h => hp c a _ _ w h) (by rfl) ?_ hH ?_
  rotate_left 1
  · (intro W hSW; unfold hd8P at hSW; unfold hd8o9; first | (go_simp; done) | (go_simp; with_reducible rfl))
  try simp only [Act.put, sA, sB, sC]
  refine tk 10 hd8o10 ?_ rfl (by kernel_rfl) (fun c a w h => hp c a _ _ w h) (by rfl) ?_ hH ?_
  rotate_left 1
  · (intro W hSW; unfold hd8P at hSW; unfold hd8o10; first | (go_simp; done) | (go_simp; with_reducible rfl))
  try simp only [Act.put, sA, sB, sC]
  exact hd83 hp (by kernel_rfl) HB HG gJ mJ z l_z HQ
 ·
  rw [if_pos (by rfl)]
  unfold hd8o12
  go_simp
  have hg := gAl W (.cells #[.int .i64 0, .slice none 0 0] 26) none
  have y := XZ.new W
  have l_y := World.grownBy.size HG
  replace k3 := k3.grown hg
  replace k6 := k6.grown hg
  replace z := z.grown hg
  replace HG := gT HG hg
  obtain ⟨U, hU⟩ : ∃ U, W.alloc (.cells #[.int .i64 0, .slice none 0 0] 26) = U := ⟨_, rfl⟩
  rw [hU] at HG k3 k6 z y ⊢
  clear hU hg
  refine hK.out _ _ (hd8S HB.out HG) (fun hH => ?_)
  clear hK K
  try simp only [sA, sB, sC]
  exact hd86 hp (by kernel_rfl) HB HG k3 k6 z l_z y l_y HQ

theorem hd88 (hp : ∀ c a d v w, Q (.panic c) (Act.put a d v) w → Q (.panic c) a w) {p1 : Nat} {a3 : Option Addr} {c3 : Nat} {p4 : Nat} {a6 : Option Addr} {c6 : Nat} {p12 : Nat} (hl : L = #[true, true, true, true, true, true, true, false, false, false, false, false, true, false, false]) (HB : Hid (CB V bc ac cc hC)) (HG : V.grownBy W none) (k3 : CellsW W a3 c3 [(1, 0)]) (k6 : CellsW W a6 c6 [(2, 0)]) (y : XZ W p12) (l_y : V.heap.size ≤ p12) (HQ : Hid (hd8F Q V bc ba bb bd bu be bi bf bg)) :
  wpAnyH Try.prog .any hd8Ops Q (hd8P V bc ac cc) 7 L (hd8f t bc ba bb bd bu be bi bf bg (t 13) (.pointer (some ⟨p12, 0, none⟩)) (t 61) (.agg #[.slice ac hC.length cc]) (.slice (some ⟨p1, 0, none⟩) 1 1) (.agg #[.int .i64 2, .slice (some ⟨p1, 0, none⟩) 1 1]) (.agg #[.int .i64 2, .slice a3 1 c3]) (.slice (some ⟨p4, 0, none⟩) 1 1) (.agg #[.int .i64 2, .slice (some ⟨p4, 0, none⟩) 1 1]) (.agg #[.int .i64 2, .slice a6 1 c6]) (t 69) (t 70) (t 71)) W := by
 subst hl
 unfold hd8f
 refine wpAnyH_ready (rs := [7, 11]) (by kernel_rfl) (by simp) ?_
 refine (AllReadyH.cons (o := hd8o7) rfl (fun K hK => ?_) (AllReadyH.cons (o := hd8o11) rfl (fun K hK => ?_) AllReadyH.nil))
 ·
  rw [if_pos (by rfl)]
  unfold hd8o7
  go_simp
  go_at_call 40
  refine (h_join_at (HB.out.grown HG).2.2 k3 k6).mono ?_
  rintro e U ⟨aJ, cJ, bJ, nJ, dJ, rfl, hn, gJ, mJ, g⟩
  obtain rfl : nJ = 1 := hn.symm
  clear hn
  replace y := y.grown g
  replace HG := gT HG g
  clear g
  go_wp2_with fail
  refine hK.out _ _ (hd8S HB.out HG) (fun hH => ?_)
  clear hK K
  try simp only [sA, sB, sC]
  refine tk 8 hd8o8 ?_ rfl (by kernel_rfl) (fun c a w h => hp c a _ _ w h) (by rfl) ?_ hH ?_
  rotate_left 1
  · (intro W hSW; unfold hd8P at hSW; unfold hd8o8; first | (go_simp; done) | (go_simp; with_reducible rfl))
  try simp only [Act.put, sA, sB, sC]
  refine tk 9 hd8o9 ?_ rfl (by kernel_rfl) (fun c a w h => hp c a _ _ w h) (by rfl) ?_ hH ?_
  rotate_left 1
  · (intro W hSW; unfold hd8P at hSW; unfold hd8o9; first | (go_simp; done) | (go_simp; with_reducible rfl))
  try simp only [Act.put, sA, sB, sC]
  refine tk 10 hd8o10 ?_ rfl (by kernel_rfl) (fun c a w h => hp c a _ _ w h) (by rfl) ?_ hH ?_
  rotate_left 1
  · (intro W hSW; unfold hd8P at hSW; unfold hd8o10; first | (go_simp; done) | (go_simp; with_reducible rfl))
  try simp only [Act.put, sA, sB, sC]
  exact hd84 hp (by kernel_rfl) HB HG gJ mJ y l_y HQ
 ·
  rw [if_pos (by rfl)]
  unfold hd8o11
  go_simp
  have hg := gAl W (.cells #[.slice none 0 0] 30) none
  have z := BoxZ.new W
  have l_z := World.grownBy.size HG
  replace k3 := k3.grown hg
  replace k6 := k6.grown hg
  replace y := y.grown hg
  replace HG := gT HG hg
  obtain ⟨U, hU⟩ : ∃ U, W.alloc (.cells #[.slice none 0 0] 30) = U := ⟨_, rfl⟩
  rw [hU] at HG k3 k6 y z ⊢
  clear hU hg
  refine hK.out _ _ (hd8S HB.out HG) (fun hH => ?_)
  clear hK K
  try simp only [sA, sB, sC]
  exact hd86 hp (by kernel_rfl) HB HG k3 k6 z l_z y l_y HQ

theorem hd89 (hp : ∀ c a d v w, Q (.panic c) (Act.put a d v) w → Q (.panic c) a w) {p1 : Nat} {a3 : Option Addr} {c3 : Nat} {p4 : Nat} {a6 : Option Addr} {c6 : Nat} (hl : L = #[true, true, true, true, true, true, true, false, false, false, false, false, false, false, false]) (HB : Hid (CB V bc ac cc hC)) (HG : V.grownBy W none) (k3 : CellsW W a3 c3 [(1, 0)]) (k6 : CellsW W a6 c6 [(2, 0)]) (HQ : Hid (hd8F Q V bc ba bb bd bu be bi bf bg)) :
  wpAnyH Try.prog .any hd8Ops Q (hd8P V bc ac cc) 8 L (hd8f t bc ba bb bd bu be bi bf bg (t 13) (t 14) (t 61) (.agg #[.slice ac hC.length cc]) (.slice (some ⟨p1, 0, none⟩) 1 1) (.agg #[.int .i64 2, .slice (some ⟨p1, 0, none⟩) 1 1]) (.agg #[.int .i64 2, .slice a3 1 c3]) (.slice (some ⟨p4, 0, none⟩) 1 1) (.agg #[.int .i64 2, .slice (some ⟨p4, 0, none⟩) 1 1]) (.agg #[.int .i64 2, .slice a6 1 c6]) (t 69) (t 70) (t 71)) W := by
 subst hl
 unfold hd8f
 refine wpAnyH_ready (rs := [7, 11, 12]) (by kernel_rfl) (by simp) ?_
 refine (AllReadyH.cons (o := hd8o7) rfl (fun K hK => ?_) (AllReadyH.cons (o := hd8o11) rfl (fun K hK => ?_) (AllReadyH.cons (o := hd8o12) rfl (fun K hK => ?_) AllReadyH.nil)))
 ·
  rw [if_pos (by rfl)]
  unfold hd8o7
  go_simp
  go_at_call 40
  refine (h_join_at (HB.out.grown HG).2.2 k3 k6).mono ?_
  rintro e U ⟨aJ, cJ, bJ, nJ, dJ, rfl, hn, gJ, mJ, g⟩
  obtain rfl : nJ = 1 := hn.symm
  clear hn
  replace HG := gT HG g
  clear g
  go_wp2_with fail
  refine hK.out _ _ (hd8S HB.out HG) (fun hH => ?_)
  clear hK K
  try simp only [sA, sB, sC]
  refine tk 8 hd8o8 ?_ rfl (by kernel_rfl) (fun c a w h => hp c a _ _ w h) (by rfl) ?_ hH ?_
  rotate_left 1
  · (intro W hSW; unfold hd8P at hSW; unfold hd8o8; first | (go_simp; done) | (go_simp; with_reducible rfl))
  try simp only [Act.put, sA, sB, sC]
  refine tk 9 hd8o9 ?_ rfl (by kernel_rfl) (fun c a w h => hp c a _ _ w h) (by rfl) ?_ hH ?_
  rotate_left 1
  · (intro W hSW; unfold hd8P at hSW; unfold hd8o9; first | (go_simp; done) | (go_simp; with_reducible rfl))
  try simp only [Act.put, sA, sB, sC]
  refine tk 10 hd8o10 ?_ rfl (by kernel_rfl) (fun c a w h => hp c a _ _ w h) (by rfl) ?_ hH ?_
  rotate_left 1
  · (intro W hSW; unfold hd8P at hSW; unfold hd8o10; first | (go_simp; done) | (go_simp; with_reducible rfl))
  try simp only [Act.put, sA, sB, sC]
  exact hd85 hp (by kernel_rfl) HB HG gJ mJ HQ
 ·
  rw [if_pos (by rfl)]
  unfold hd8o11
  go_simp
  have hg := gAl W (.cells #[.slice none 0 0] 30) none
  have z := BoxZ.new W
  have l_z := World.grownBy.size HG
  replace k3 := k3.grown hg
  replace k6 := k6.grown hg
  replace HG := gT HG hg
  obtain ⟨U, hU⟩ : ∃ U, W.alloc (.cells #[.slice none 0 0] 30) = U := ⟨_, rfl⟩
  rw [hU] at HG k3 k6 z ⊢
  clear hU hg
  refine hK.out _ _ (hd8S HB.out HG) (fun hH => ?_)
  clear hK K
  try simp only [sA, sB, sC]
  exact hd87 hp (by kernel_rfl) HB HG k3 k6 z l_z HQ
 ·
  rw [if_pos (by rfl)]
  unfold hd8o12
  go_simp
  have hg := gAl W (.cells #[.int .i64 0, .slice none 0 0] 26) none
  have y := XZ.new W
  have l_y := World.grownBy.size HG
  replace k3 := k3.grown hg
  replace k6 := k6.grown hg
  replace HG := gT HG hg
  obtain ⟨U, hU⟩ : ∃ U, W.alloc (.cells #[.int .i64 0, .slice none 0 0] 26) = U := ⟨_, rfl⟩
  rw [hU] at HG k3 k6 y ⊢
  clear hU hg
  refine hK.out _ _ (hd8S HB.out HG) (fun hH => ?_)
  clear hK K
  try simp only [sA, sB, sC]
  exact hd88 hp (by kernel_rfl) HB HG k3 k6 y l_y HQ

theorem hd810 (hp : ∀ c a d v w, Q (.panic c) (Act.put a d v) w → Q (.panic c) a w) {p1 : Nat} {a3 : Option Addr} {c3 : Nat} {p4 : Nat} {p11 : Nat} {p12 : Nat} (hl : L = #[true, true, true, true, true, true, false, false, false, false, false, true, true, false, false]) (HB : Hid (CB V bc ac cc hC)) (HG : V.grownBy W none) (k3 : CellsW W a3 c3 [(1, 0)]) (r4 : IntsW W (some ⟨p4, 0, none⟩) 1 [2]) (z : BoxZ W p11) (l_z : V.heap.size ≤ p11) (y : XZ W p12) (l_y : V.heap.size ≤ p12) (HQ : Hid (hd8F Q V bc ba bb bd bu be bi bf bg)) :
  wpAnyH Try.prog .any hd8Ops Q (hd8P V bc ac cc) 7 L (hd8f t bc ba bb bd bu be bi bf bg (.pointer (some ⟨p11, 0, none⟩)) (.pointer (some ⟨p12, 0, none⟩)) (t 61) (.agg #[.slice ac hC.length cc]) (.slice (some ⟨p1, 0, none⟩) 1 1) (.agg #[.int .i64 2, .slice (some ⟨p1, 0, none⟩) 1 1]) (.agg #[.int .i64 2, .slice a3 1 c3]) (.slice (some ⟨p4, 0, none⟩) 1 1) (.agg #[.int .i64 2, .slice (some ⟨p4, 0, none⟩) 1 1]) (t 68) (t 69) (t 70) (t 71)) W := by
 subst hl
 unfold hd8f
 refine wpAnyH_ready (rs := [6]) (by kernel_rfl) (by simp) ?_
 refine (AllReadyH.cons (o := hd8o6) rfl (fun K hK => ?_) AllReadyH.nil)
 rw [if_pos (by rfl)]
 unfold hd8o6
 go_simp
 go_at_call 38
 refine (const1_at 2 2 r4).mono ?_
 rintro e U ⟨a6, c6, rfl, k6, g⟩
 replace k3 := k3.grown g
 replace z := z.grown g
 replace y := y.grown g
 replace HG := gT HG g
 clear g
 go_wp2_with fail
 refine hK.out _ _ (hd8S HB.out HG) (fun hH => ?_)
 clear hK K
 try simp only [sA, sB, sC]
 exact hd86 hp (by kernel_rfl) HB HG k3 k6 z l_z y l_y HQ

theorem hd811 (hp : ∀ c a d v w, Q (.panic c) (Act.put a d v) w → Q (.panic c) a w) {p1 : Nat} {a3 : Option Addr} {c3 : Nat} {p4 : Nat} {p11 : Nat} (hl : L = #[true, true, true, true, true, true, false, false, false, false, false, true, false, false, false]) (HB : Hid (CB V bc ac cc hC)) (HG : V.grownBy W none) (k3 : CellsW W a3 c3 [(1, 0)]) (r4 : IntsW W (some ⟨p4, 0, none⟩) 1 [2]) (z : BoxZ W p11) (l_z : V.heap.size ≤ p11) (HQ : Hid (hd8F Q V bc ba bb bd bu be bi bf bg)) :
  wpAnyH Try.prog .any hd8Ops Q (hd8P V bc ac cc) 8 L (hd8f t bc ba bb bd bu be bi bf bg (.pointer (some ⟨p11, 0, none⟩)) (t 14) (t 61) (.agg #[.slice ac hC.length cc]) (.slice (some ⟨p1, 0, none⟩) 1 1) (.agg #[.int .i64 2, .slice (some ⟨p1, 0, none⟩) 1 1]) (.agg #[.int .i64 2, .slice a3 1 c3]) (.slice (some ⟨p4, 0, none⟩) 1 1) (.agg #[.int .i64 2, .slice (some ⟨p4, 0, none⟩) 1 1]) (t 68) (t 69) (t 70) (t 71)) W := by
 subst hl
 unfold hd8f
 refine wpAnyH_ready (rs := [6, 12]) (by kernel_rfl) (by simp) ?_
 refine (AllReadyH.cons (o := hd8o6) rfl (fun K hK => ?_) (AllReadyH.cons (o := hd8o12) rfl (fun K hK => ?_) AllReadyH.nil))
 ·
  rw [if_pos (by rfl)]
  unfold hd8o6
  go_simp
  go_at_call 38
  refine (const1_at 2 2 r4).mono ?_
  rintro e U ⟨a6, c6, rfl, k6, g⟩
  replace k3 := k3.grown g
  replace z := z.grown g
  replace HG := gT HG g
  clear g
  go_wp2_with fail
  refine hK.out _ _ (hd8S HB.out HG) (fun hH => ?_)
  clear hK K
  try simp only [sA, sB, sC]
  exact hd87 hp (by kernel_rfl) HB HG k3 k6 z l_z HQ
 ·
  rw [if_pos (by rfl)]
  unfold hd8o12
  go_simp
  have hg := gAl W (.cells #[.int .i64 0, .slice none 0 0] 26) none
  have y := XZ.new W
  have l_y := World.grownBy.size HG
  replace k3 := k3.grown hg
  replace r4 := r4.grown hg
  replace z := z.grown hg
  replace HG := gT HG hg
  obtain ⟨U, hU⟩ : ∃ U, W.alloc (.cells #[.int .i64 0, .slice none 0 0] 26) = U := ⟨_, rfl⟩
  rw [hU] at HG k3 r4 z y ⊢
  clear hU hg
  refine hK.out _ _ (hd8S HB.out HG) (fun hH => ?_)
  clear hK K
  try simp only [sA, sB, sC]
  exact hd810 hp (by kernel_rfl) HB HG k3 r4 z l_z y l_y HQ

theorem hd812 (hp : ∀ c a d v w, Q (.panic c) (Act.put a d v) w → Q (.panic c) a w) {p1 : Nat} {a3 : Option Addr} {c3 : Nat} {p4 : Nat} {p12 : Nat} (hl : L = #[true, true, true, true, true, true, false, false, false, false, false, false, true, false, false]) (HB : Hid (CB V bc ac cc hC)) (HG : V.grownBy W none) (k3 : CellsW W a3 c3 [(1, 0)]) (r4 : IntsW W (some ⟨p4, 0, none⟩) 1 [2]) (y : XZ W p12) (l_y : V.heap.size ≤ p12) (HQ : Hid (hd8F Q V bc ba bb bd bu be bi bf bg)) :
  wpAnyH Try.prog .any hd8Ops Q (hd8P V bc ac cc) 8 L (hd8f t bc ba bb bd bu be bi bf bg (t 13) (.pointer (some ⟨p12, 0, none⟩)) (t 61) (.agg #[.slice ac hC.length cc]) (.slice (some ⟨p1, 0, none⟩) 1 1) (.agg #[.int .i64 2, .slice (some ⟨p1, 0, none⟩) 1 1]) (.agg #[.int .i64 2, .slice a3 1 c3]) (.slice (some ⟨p4, 0, none⟩) 1 1) (.agg #[.int .i64 2, .slice (some ⟨p4, 0, none⟩) 1 1]) (t 68) (t 69) (t 70) (t 71)) W := by
 subst hl
 unfold hd8f
 refine wpAnyH_ready (rs := [6, 11]) (by kernel_rfl) (by simp) ?_
 refine (AllReadyH.cons (o := hd8o6) rfl (fun K hK => ?_) (AllReadyH.cons (o := hd8o11) rfl (fun K hK => ?_) AllReadyH.nil))
 ·
  rw [if_pos (by rfl)]
  unfold hd8o6
  go_simp
  go_at_call 38
  refine (const1_at 2 2 r4).mono ?_
  rintro e U ⟨a6, c6, rfl, k6, g⟩
  replace k3 := k3.grown g
  replace y := y.grown g
  replace HG := gT HG g
  clear g
  go_wp2_with fail
  refine hK.out _ _ (hd8S HB.out HG) (fun hH => ?_)
  clear hK K
  try simp only [sA, sB, sC]
  exact hd88 hp (by kernel_rfl) HB HG k3 k6 y l_y HQ
 ·
  rw [if_pos (by rfl)]
  unfold hd8o11
  go_simp
  have hg := gAl W (.cells #[.slice none 0 0] 30) none
  have z := BoxZ.new W
  have l_z := World.grownBy.size HG
  replace k3 := k3.grown hg
  replace r4 := r4.grown hg
  replace y := y.grown hg
  replace HG := gT HG hg
  obtain ⟨U, hU⟩ : ∃ U, W.alloc (.cells #[.slice none 0 0] 30) = U := ⟨_, rfl⟩
  rw [hU] at HG k3 r4 y z ⊢
  clear hU hg
  refine hK.out _ _ (hd8S HB.out HG) (fun hH => ?_)
  clear hK K
  try simp only [sA, sB, sC]
  exact hd810 hp (by kernel_rfl) HB HG k3 r4 z l_z y l_y HQ

theorem hd813 (hp : ∀ c a d v w, Q (.panic c) (Act.put a d v) w → Q (.panic c) a w) {p1 : Nat} {a3 : Option Addr} {c3 : Nat} {p4 : Nat} (hl : L = #[true, true, true, true, true, true, false, false, false, false, false, false, false, false, false]) (HB : Hid (CB V bc ac cc hC)) (HG : V.grownBy W none) (k3 : CellsW W a3 c3 [(1, 0)]) (r4 : IntsW W (some ⟨p4, 0, none⟩) 1 [2]) (HQ : Hid (hd8F Q V bc ba bb bd bu be bi bf bg)) :
  wpAnyH Try.prog .any hd8Ops Q (hd8P V bc ac cc) 9 L (hd8f t bc ba bb bd bu be bi bf bg (t 13) (t 14) (t 61) (.agg #[.slice ac hC.length cc]) (.slice (some ⟨p1, 0, none⟩) 1 1) (.agg #[.int .i64 2, .slice (some ⟨p1, 0, none⟩) 1 1]) (.agg #[.int .i64 2, .slice a3 1 c3]) (.slice (some ⟨p4, 0, none⟩) 1 1) (.agg #[.int .i64 2, .slice (some ⟨p4, 0, none⟩) 1 1]) (t 68) (t 69) (t 70) (t 71)) W := by
 subst hl
 unfold hd8f
 refine wpAnyH_ready (rs := [6, 11, 12]) (by kernel_rfl) (by simp) ?_
 refine (AllReadyH.cons (o := hd8o6) rfl (fun K hK => ?_) (AllReadyH.cons (o := hd8o11) rfl (fun K hK => ?_) (AllReadyH.cons (o := hd8o12) rfl (fun K hK => ?_) AllReadyH.nil)))
 ·
  rw [if_pos (by rfl)]
  unfold hd8o6
  go_simp
  go_at_call 38
  refine (const1_at 2 2 r4).mono ?_
  rintro e U ⟨a6, c6, rfl, k6, g⟩
  replace k3 := k3.grown g
  replace HG := gT HG g
  clear g
  go_wp2_with fail
  refine hK.out _ _ (hd8S HB.out HG) (fun hH => ?_)
  clear hK K
  try simp only [sA, sB, sC]
  exact hd89 hp (by kernel_rfl) HB HG k3 k6 HQ
 ·
  rw [if_pos (by rfl)]
  unfold hd8o11
  go_simp
  have hg := gAl W (.cells #[.slice none 0 0] 30) none
  have z := BoxZ.new W
  have l_z := World.grownBy.size HG
  replace k3 := k3.grown hg
  replace r4 := r4.grown hg
  replace HG := gT HG hg
  obtain ⟨U, hU⟩ : ∃ U, W.alloc (.cells #[.slice none 0 0] 30) = U := ⟨_, rfl⟩
  rw [hU] at HG k3 r4 z ⊢
  clear hU hg
  refine hK.out _ _ (hd8S HB.out HG) (fun hH => ?_)
  clear hK K
  try simp only [sA, sB, sC]
  exact hd811 hp (by kernel_rfl) HB HG k3 r4 z l_z HQ
 ·
  rw [if_pos (by rfl)]
  unfold hd8o12
  go_simp
  have hg := gAl W (.cells #[.int .i64 0, .slice none 0 0] 26) none
  have y := XZ.new W
  have l_y := World.grownBy.size HG
  replace k3 := k3.grown hg
  replace r4 := r4.grown hg
  replace HG := gT HG hg
  obtain ⟨U, hU⟩ : ∃ U, W.alloc (.cells #[.int .i64 0, .slice none 0 0] 26) = U := ⟨_, rfl⟩
  rw [hU] at HG k3 r4 y ⊢
  clear hU hg
  refine hK.out _ _ (hd8S HB.out HG) (fun hH => ?_)
  clear hK K
  try simp only [sA, sB, sC]
  exact hd812 hp (by kernel_rfl) HB HG k3 r4 y l_y HQ

theorem hd814 (hp : ∀ c a d v w, Q (.panic c) (Act.put a d v) w → Q (.panic c) a w) {p1 : Nat} {a3 : Option Addr} {c3 : Nat} {p11 : Nat} {p12 : Nat} (hl : L = #[true, true, true, true, false, false, false, false, false, false, false, true, true, false, false]) (HB : Hid (CB V bc ac cc hC)) (HG : V.grownBy W none) (k3 : CellsW W a3 c3 [(1, 0)]) (z : BoxZ W p11) (l_z : V.heap.size ≤ p11) (y : XZ W p12) (l_y : V.heap.size ≤ p12) (HQ : Hid (hd8F Q V bc ba bb bd bu be bi bf bg)) :
  wpAnyH Try.prog .any hd8Ops Q (hd8P V bc ac cc) 9 L (hd8f t bc ba bb bd bu be bi bf bg (.pointer (some ⟨p11, 0, none⟩)) (.pointer (some ⟨p12, 0, none⟩)) (t 61) (.agg #[.slice ac hC.length cc]) (.slice (some ⟨p1, 0, none⟩) 1 1) (.agg #[.int .i64 2, .slice (some ⟨p1, 0, none⟩) 1 1]) (.agg #[.int .i64 2, .slice a3 1 c3]) (t 66) (t 67) (t 68) (t 69) (t 70) (t 71)) W := by
 subst hl
 unfold hd8f
 refine wpAnyH_ready (rs := [4]) (by kernel_rfl) (by simp) ?_
 refine (AllReadyH.cons (o := hd8o4) rfl (fun K hK => ?_) AllReadyH.nil)
 rw [if_pos (by rfl)]
 unfold hd8o4
 go_simp
 have hg := gAl W (.cells #[.int .i64 2] 3) none
 have r4 := ints_lit1 W 2
 replace k3 := k3.grown hg
 replace z := z.grown hg
 replace y := y.grown hg
 replace HG := gT HG hg
 obtain ⟨U, hU⟩ : ∃ U, W.alloc (.cells #[.int .i64 2] 3) = U := ⟨_, rfl⟩
 rw [hU] at HG k3 z y r4 ⊢
 clear hU hg
 refine hK.out _ _ (hd8S HB.out HG) (fun hH => ?_)
 clear hK K
 try simp only [sA, sB, sC]
 refine tk 5 hd8o5 ?_ rfl (by kernel_rfl) (fun c a w h => hp c a _ _ w h) (by rfl) ?_ hH ?_
 rotate_left 1
 · (intro W hSW; unfold hd8P at hSW; unfold hd8o5; first | (go_simp; done) | (go_simp; with_reducible rfl))
 try simp only [Act.put, sA, sB, sC]
 exact hd810 hp (by kernel_rfl) HB HG k3 r4 z l_z y l_y HQ

theorem hd815 (hp : ∀ c a d v w, Q (.panic c) (Act.put a d v) w → Q (.panic c) a w) {p1 : Nat} {a3 : Option Addr} {c3 : Nat} {p11 : Nat} (hl : L = #[true, true, true, true, false, false, false, false, false, false, false, true, false, false, false]) (HB : Hid (CB V bc ac cc hC)) (HG : V.grownBy W none) (k3 : CellsW W a3 c3 [(1, 0)]) (z : BoxZ W p11) (l_z : V.heap.size ≤ p11) (HQ : Hid (hd8F Q V bc ba bb bd bu be bi bf bg)) :
  wpAnyH Try.prog .any hd8Ops Q (hd8P V bc ac cc) 10 L (hd8f t bc ba bb bd bu be bi bf bg (.pointer (some ⟨p11, 0, none⟩)) (t 14) (t 61) (.agg #[.slice ac hC.length cc]) (.slice (some ⟨p1, 0, none⟩) 1 1) (.agg #[.int .i64 2, .slice (some ⟨p1, 0, none⟩) 1 1]) (.agg #[.int .i64 2, .slice a3 1 c3]) (t 66) (t 67) (t 68) (t 69) (t 70) (t 71)) W := by
 subst hl
 unfold hd8f
 refine wpAnyH_ready (rs := [4, 12]) (by kernel_rfl) (by simp) ?_
 refine (AllReadyH.cons (o := hd8o4) rfl (fun K hK => ?_) (AllReadyH.cons (o := hd8o12) rfl (fun K hK => ?_) AllReadyH.nil))
 ·
  rw [if_pos (by rfl)]
  unfold hd8o4
  go_simp
  have hg := gAl W (.cells #[.int .i64 2] 3) none
  have r4 := ints_lit1 W 2
  replace k3 := k3.grown hg
  replace z := z.grown hg
  replace HG := gT HG hg
  obtain ⟨U, hU⟩ : ∃ U, W.alloc (.cells #[.int .i64 2] 3) = U := ⟨_, rfl⟩
  rw [hU] at HG k3 z r4 ⊢
  clear hU hg
  refine hK.out _ _ (hd8S HB.out HG) (fun hH => ?_)
  clear hK K
  try simp only [sA, sB, sC]
  refine tk 5 hd8o5 ?_ rfl (by kernel_rfl) (fun c a w h => hp c a _ _ w h) (by rfl) ?_ hH ?_
  rotate_left 1
  · (intro W hSW; unfold hd8P at hSW; unfold hd8o5; first | (go_simp; done) | (go_simp; with_reducible rfl))
  try simp only [Act.put, sA, sB, sC]
  exact hd811 hp (by kernel_rfl) HB HG k3 r4 z l_z HQ
 ·
  rw [if_pos (by rfl)]
  unfold hd8o12
  go_simp
  have hg := gAl W (.cells #[.int .i64 0, .slice none 0 0] 26) none
  have y := XZ.new W
  have l_y := World.grownBy.size HG
  replace k3 := k3.grown hg
  replace z := z.grown hg
  replace HG := gT HG hg
  obtain ⟨U, hU⟩ : ∃ U, W.alloc (.cells #[.int .i64 0, .slice none 0 0] 26) = U := ⟨_, rfl⟩
  rw [hU] at HG k3 z y ⊢
  clear hU hg
  refine hK.out _ _ (hd8S HB.out HG) (fun hH => ?_)
  clear hK K
  try simp only [sA, sB, sC]
  exact hd814 hp (by kernel_rfl) HB HG k3 z l_z y l_y HQ

theorem hd816 (hp : ∀ c a d v w, Q (.panic c) (Act.put a d v) w → Q (.panic c) a w) {p1 : Nat} {a3 : Option Addr} {c3 : Nat} {p12 : Nat} (hl : L = #[true, true, true, true, false, false, false, false, false, false, false, false, true, false, false]) (HB : Hid (CB V bc ac cc hC)) (HG : V.grownBy W none) (k3 : CellsW W a3 c3 [(1, 0)]) (y : XZ W p12) (l_y : V.heap.size ≤ p12) (HQ : Hid (hd8F Q V bc ba bb bd bu be bi bf bg)) :
  wpAnyH Try.prog .any hd8Ops Q (hd8P V bc ac cc) 10 L (hd8f t bc ba bb bd bu be bi bf bg (t 13) (.pointer (some ⟨p12, 0, none⟩)) (t 61) (.agg #[.slice ac hC.length cc]) (.slice (some ⟨p1, 0, none⟩) 1 1) (.agg #[.int .i64 2, .slice (some ⟨p1, 0, none⟩) 1 1]) (.agg #[.int .i64 2, .slice a3 1 c3]) (t 66) (t 67) (t 68) (t 69) (t 70) (t 71)) W := by
 subst hl
 unfold hd8f
 refine wpAnyH_ready (rs := [4, 11]) (by kernel_rfl) (by simp) ?_
 refine (AllReadyH.cons (o := hd8o4) rfl (fun K hK => ?_) (AllReadyH.cons (o := hd8o11) rfl (fun K hK => ?_) AllReadyH.nil))
 ·
  rw [if_pos (by rfl)]
  unfold hd8o4
  go_simp
  have hg := gAl W (.cells #[.int .i64 2] 3) none
  have r4 := ints_lit1 W 2
  replace k3 := k3.grown hg
  replace y := y.grown hg
  replace HG := gT HG hg
  obtain ⟨U, hU⟩ : ∃ U, W.alloc (.cells #[.int .i64 2] 3) = U := ⟨_, rfl⟩
  rw [hU] at HG k3 y r4 ⊢
  clear hU hg
  refine hK.out _ _ (hd8S HB.out HG) (fun hH => ?_)
  clear hK K
  try simp only [sA, sB, sC]
  refine tk 5 hd8o5 ?_ rfl (by kernel_rfl) (fun c a w h => hp c a _ _ w h) (by rfl) ?_ hH ?_
  rotate_left 1
  · (intro W hSW; unfold hd8P at hSW; unfold hd8o5; first | (go_simp; done) | (go_simp; with_reducible rfl))
  try simp only [Act.put, sA, sB, sC]
  exact hd812 hp (by kernel_rfl) HB HG k3 r4 y l_y HQ
 ·
  rw [if_pos (by rfl)]
  unfold hd8o11
  go_simp
  have hg := gAl W (.cells #[.slice none 0 0] 30) none
  have z := BoxZ.new W
  have l_z := World.grownBy.size HG
  replace k3 := k3.grown hg
  replace y := y.grown hg
  replace HG := gT HG hg
  obtain ⟨U, hU⟩ : ∃ U, W.alloc (.cells #[.slice none 0 0] 30) = U := ⟨_, rfl⟩
  rw [hU] at HG k3 y z ⊢
  clear hU hg
  refine hK.out _ _ (hd8S HB.out HG) (fun hH => ?_)
  clear hK K
  try simp only [sA, sB, sC]
  exact hd814 hp (by kernel_rfl) HB HG k3 z l_z y l_y HQ

theorem hd817 (hp : ∀ c a d v w, Q (.panic c) (Act.put a d v) w → Q (.panic c) a w) {p1 : Nat} {a3 : Option Addr} {c3 : Nat} (hl : L = #[true, true, true, true, false, false, false, false, false, false, false, false, false, false, false]) (HB : Hid (CB V bc ac cc hC)) (HG : V.grownBy W none) (k3 : CellsW W a3 c3 [(1, 0)]) (HQ : Hid (hd8F Q V bc ba bb bd bu be bi bf bg)) :
  wpAnyH Try.prog .any hd8Ops Q (hd8P V bc ac cc) 11 L (hd8f t bc ba bb bd bu be bi bf bg (t 13) (t 14) (t 61) (.agg #[.slice ac hC.length cc]) (.slice (some ⟨p1, 0, none⟩) 1 1) (.agg #[.int .i64 2, .slice (some ⟨p1, 0, none⟩) 1 1]) (.agg #[.int .i64 2, .slice a3 1 c3]) (t 66) (t 67) (t 68) (t 69) (t 70) (t 71)) W := by
 subst hl
 unfold hd8f
 refine wpAnyH_ready (rs := [4, 11, 12]) (by kernel_rfl) (by simp) ?_
 refine (AllReadyH.cons (o := hd8o4) rfl (fun K hK => ?_) (AllReadyH.cons (o := hd8o11) rfl (fun K hK => ?_) (AllReadyH.cons (o := hd8o12) rfl (fun K hK => ?_) AllReadyH.nil)))
 ·
  rw [if_pos (by rfl)]
  unfold hd8o4
  go_simp
  have hg := gAl W (.cells #[.int .i64 2] 3) none
  have r4 := ints_lit1 W 2
  replace k3 := k3.grown hg
  replace HG := gT HG hg
  obtain ⟨U, hU⟩ : ∃ U, W.alloc (.cells #[.int .i64 2] 3) = U := ⟨_, rfl⟩
  rw [hU] at HG k3 r4 ⊢
  clear hU hg
  refine hK.out _ _ (hd8S HB.out HG) (fun hH => ?_)
  clear hK K
  try simp only [sA, sB, sC]
  refine tk 5 hd8o5 ?_ rfl (by kernel_rfl) (fun c a w h => hp c a _ _ w h) (by rfl) ?_ hH ?_
  rotate_left 1
  · (intro W hSW; unfold hd8P at hSW; unfold hd8o5; first | (go_simp; done) | (go_simp; with_reducible rfl))
  try simp only [Act.put, sA, sB, sC]
  exact hd813 hp (by kernel_rfl) HB HG k3 r4 HQ
 ·
  rw [if_pos (by rfl)]
  unfold hd8o11
  go_simp
  have hg := gAl W (.cells #[.slice none 0 0] 30) none
  have z := BoxZ.new W
  have l_z := World.grownBy.size HG
  replace k3 := k3.grown hg
  replace HG := gT HG hg
  obtain ⟨U, hU⟩ : ∃ U, W.alloc (.cells #[.slice none 0 0] 30) = U := ⟨_, rfl⟩
  rw [hU] at HG k3 z ⊢
  clear hU hg
  refine hK.out _ _ (hd8S HB.out HG) (fun hH => ?_)
  clear hK K
  try simp only [sA, sB, sC]
  exact hd815 hp (by kernel_rfl) HB HG k3 z l_z HQ
 ·
  rw [if_pos (by rfl)]
  unfold hd8o12
  go_simp
  have hg := gAl W (.cells #[.int .i64 0, .slice none 0 0] 26) none
  have y := XZ.new W
  have l_y := World.grownBy.size HG
  replace k3 := k3.grown hg
  replace HG := gT HG hg
  obtain ⟨U, hU⟩ : ∃ U, W.alloc (.cells #[.int .i64 0, .slice none 0 0] 26) = U := ⟨_, rfl⟩
  rw [hU] at HG k3 y ⊢
  clear hU hg
  refine hK.out _ _ (hd8S HB.out HG) (fun hH => ?_)
  clear hK K
  try simp only [sA, sB, sC]
  exact hd816 hp (by kernel_rfl) HB HG k3 y l_y HQ

theorem hd818 (hp : ∀ c a d v w, Q (.panic c) (Act.put a d v) w → Q (.panic c) a w) {p1 : Nat} {p4 : Nat} {p11 : Nat} {p12 : Nat} (hl : L = #[true, true, true, false, true, true, false, false, false, false, false, true, true, false, false]) (HB : Hid (CB V bc ac cc hC)) (HG : V.grownBy W none) (r1 : IntsW W (some ⟨p1, 0, none⟩) 1 [1]) (r4 : IntsW W (some ⟨p4, 0, none⟩) 1 [2]) (z : BoxZ W p11) (l_z : V.heap.size ≤ p11) (y : XZ W p12) (l_y : V.heap.size ≤ p12) (HQ : Hid (hd8F Q V bc ba bb bd bu be bi bf bg)) :
  wpAnyH Try.prog .any hd8Ops Q (hd8P V bc ac cc) 8 L (hd8f t bc ba bb bd bu be bi bf bg (.pointer (some ⟨p11, 0, none⟩)) (.pointer (some ⟨p12, 0, none⟩)) (t 61) (.agg #[.slice ac hC.length cc]) (.slice (some ⟨p1, 0, none⟩) 1 1) (.agg #[.int .i64 2, .slice (some ⟨p1, 0, none⟩) 1 1]) (t 65) (.slice (some ⟨p4, 0, none⟩) 1 1) (.agg #[.int .i64 2, .slice (some ⟨p4, 0, none⟩) 1 1]) (t 68) (t 69) (t 70) (t 71)) W := by
 subst hl
 unfold hd8f
 refine wpAnyH_ready (rs := [3]) (by kernel_rfl) (by simp) ?_
 refine (AllReadyH.cons (o := hd8o3) rfl (fun K hK => ?_) AllReadyH.nil)
 rw [if_pos (by rfl)]
 unfold hd8o3
 go_simp
 go_at_call 38
 refine (const1_at 2 1 r1).mono ?_
 rintro e U ⟨a3, c3, rfl, k3, g⟩
 replace r4 := r4.grown g
 replace z := z.grown g
 replace y := y.grown g
 replace HG := gT HG g
 clear g
 go_wp2_with fail
 refine hK.out _ _ (hd8S HB.out HG) (fun hH => ?_)
 clear hK K
 try simp only [sA, sB, sC]
 exact hd810 hp (by kernel_rfl) HB HG k3 r4 z l_z y l_y HQ

theorem hd819 (hp : ∀ c a d v w, Q (.panic c) (Act.put a d v) w → Q (.panic c) a w) {p1 : Nat} {p4 : Nat} {p11 : Nat} (hl : L = #[true, true, true, false, true, true, false, false, false, false, false, true, false, false, false]) (HB : Hid (CB V bc ac cc hC)) (HG : V.grownBy W none) (r1 : IntsW W (some ⟨p1, 0, none⟩) 1 [1]) (r4 : IntsW W (some ⟨p4, 0, none⟩) 1 [2]) (z : BoxZ W p11) (l_z : V.heap.size ≤ p11) (HQ : Hid (hd8F Q V bc ba bb bd bu be bi bf bg)) :
  wpAnyH Try.prog .any hd8Ops Q (hd8P V bc ac cc) 9 L (hd8f t bc ba bb bd bu be bi bf bg (.pointer (some ⟨p11, 0, none⟩)) (t 14) (t 61) (.agg #[.slice ac hC.length cc]) (.slice (some ⟨p1, 0, none⟩) 1 1) (.agg #[.int .i64 2, .slice (some ⟨p1, 0, none⟩) 1 1]) (t 65) (.slice (some ⟨p4, 0, none⟩) 1 1) (.agg #[.int .i64 2, .slice (some ⟨p4, 0, none⟩) 1 1]) (t 68) (t 69) (t 70) (t 71)) W := by
 subst hl
 unfold hd8f
 refine wpAnyH_ready (rs := [3, 12]) (by kernel_rfl) (by simp) ?_
 refine (AllReadyH.cons (o := hd8o3) rfl (fun K hK => ?_) (AllReadyH.cons (o := hd8o12) rfl (fun K hK => ?_) AllReadyH.nil))
 ·
  rw [if_pos (by rfl)]
  unfold hd8o3
  go_simp
  go_at_call 38
  refine (const1_at 2 1 r1).mono ?_
  rintro e U ⟨a3, c3, rfl, k3, g⟩
  replace r4 := r4.grown g
  replace z := z.grown g
  replace HG := gT HG g
  clear g
  go_wp2_with fail
  refine hK.out _ _ (hd8S HB.out HG) (fun hH => ?_)
  clear hK K
  try simp only [sA, sB, sC]
  exact hd811 hp (by kernel_rfl) HB HG k3 r4 z l_z HQ
 ·
  rw [if_pos (by rfl)]
  unfold hd8o12
  go_simp
  have hg := gAl W (.cells #[.int .i64 0, .slice none 0 0] 26) none
  have y := XZ.new W
  have l_y := World.grownBy.size HG
  replace r1 := r1.grown hg
  replace r4 := r4.grown hg
  replace z := z.grown hg
  replace HG := gT HG hg
  obtain ⟨U, hU⟩ : ∃ U, W.alloc (.cells #[.int .i64 0, .slice none 0 0] 26) = U := ⟨_, rfl⟩
  rw [hU] at HG r1 r4 z y ⊢
  clear hU hg
  refine hK.out _ _ (hd8S HB.out HG) (fun hH => ?_)
  clear hK K
  try simp only [sA, sB, sC]
  exact hd818 hp (by kernel_rfl) HB HG r1 r4 z l_z y l_y HQ

theorem hd820 (hp : ∀ c a d v w, Q (.panic c) (Act.put a d v) w → Q (.panic c) a w) {p1 : Nat} {p4 : Nat} {p12 : Nat} (hl : L = #[true, true, true, false, true, true, false, false, false, false, false, false, true, false, false]) (HB : Hid (CB V bc ac cc hC)) (HG : V.grownBy W none) (r1 : IntsW W (some ⟨p1, 0, none⟩) 1 [1]) (r4 : IntsW W (some ⟨p4, 0, none⟩) 1 [2]) (y : XZ W p12) (l_y : V.heap.size ≤ p12) (HQ : Hid (hd8F Q V bc ba bb bd bu be bi bf bg)) :
  wpAnyH Try.prog .any hd8Ops Q (hd8P V bc ac cc) 9 L (hd8f t bc ba bb bd bu be bi bf bg (t 13) (.pointer (some ⟨p12, 0, none⟩)) (t 61) (.agg #[.slice ac hC.length cc]) (.slice (some ⟨p1, 0, none⟩) 1 1) (.agg #[.int .i64 2, .slice (some ⟨p1, 0, none⟩) 1 1]) (t 65) (.slice (some ⟨p4, 0, none⟩) 1 1) (.agg #[.int .i64 2, .slice (some ⟨p4, 0, none⟩) 1 1]) (t 68) (t 69) (t 70) (t 71)) W := by
 subst hl
 unfold hd8f
 refine wpAnyH_ready (rs := [3, 11]) (by kernel_rfl) (by simp) ?_
 refine (AllReadyH.cons (o := hd8o3) rfl (fun K hK => ?_) (AllReadyH.cons (o := hd8o11) rfl (fun K hK => ?_) AllReadyH.nil))
 ·
  rw [if_pos (by rfl)]
  unfold hd8o3
  go_simp
  go_at_call 38
  refine (const1_at 2 1 r1).mono ?_
  rintro e U ⟨a3, c3, rfl, k3, g⟩
  replace r4 := r4.grown g
  replace y := y.grown g
  replace HG := gT HG g
  clear g
  go_wp2_with fail
  refine hK.out _ _ (hd8S HB.out HG) (fun hH => ?_)
  clear hK K
  try simp only [sA, sB, sC]
  exact hd812 hp (by kernel_rfl) HB HG k3 r4 y l_y HQ
 ·
  rw [if_pos (by rfl)]
  unfold hd8o11
  go_simp
  have hg := gAl W (.cells #[.slice none 0 0] 30) none
  have z := BoxZ.new W
  have l_z := World.grownBy.size HG
  replace r1 := r1.grown hg
  replace r4 := r4.grown hg
  replace y := y.grown hg
  replace HG := gT HG hg
  obtain ⟨U, hU⟩ : ∃ U, W.alloc (.cells #[.slice none 0 0] 30) = U := ⟨_, rfl⟩
  rw [hU] at HG r1 r4 y z ⊢
  clear hU hg
  refine hK.out _ _ (hd8S HB.out HG) (fun hH => ?_)
  clear hK K
  try simp only [sA, sB, sC]
  exact hd818 hp (by kernel_rfl) HB HG r1 r4 z l_z y l_y HQ

theorem hd821 (hp : ∀ c a d v w, Q (.panic c) (Act.put a d v) w → Q (.panic c) a w) {p1 : Nat} {p4 : Nat} (hl : L = #[true, true, true, false, true, true, false, false, false, false, false, false, false, false, false]) (HB : Hid (CB V bc ac cc hC)) (HG : V.grownBy W none) (r1 : IntsW W (some ⟨p1, 0, none⟩) 1 [1]) (r4 : IntsW W (some ⟨p4, 0, none⟩) 1 [2]) (HQ : Hid (hd8F Q V bc ba bb bd bu be bi bf bg)) :
  wpAnyH Try.prog .any hd8Ops Q (hd8P V bc ac cc) 10 L (hd8f t bc ba bb bd bu be bi bf bg (t 13) (t 14) (t 61) (.agg #[.slice ac hC.length cc]) (.slice (some ⟨p1, 0, none⟩) 1 1) (.agg #[.int .i64 2, .slice (some ⟨p1, 0, none⟩) 1 1]) (t 65) (.slice (some ⟨p4, 0, none⟩) 1 1) (.agg #[.int .i64 2, .slice (some ⟨p4, 0, none⟩) 1 1]) (t 68) (t 69) (t 70) (t 71)) W := by
 subst hl
 unfold hd8f
 refine wpAnyH_ready (rs := [3, 11, 12]) (by kernel_rfl) (by simp) ?_
 refine (AllReadyH.cons (o := hd8o3) rfl (fun K hK => ?_) (AllReadyH.cons (o := hd8o11) rfl (fun K hK => ?_) (AllReadyH.cons (o := hd8o12) rfl (fun K hK => ?_) AllReadyH.nil)))
 ·
  rw [if_pos (by rfl)]
  unfold hd8o3
  go_simp
  go_at_call 38
  refine (const1_at 2 1 r1).mono ?_
  rintro e U ⟨a3, c3, rfl, k3, g⟩
  replace r4 := r4.grown g
  replace HG := gT HG g
  clear g
  go_wp2_with fail
  refine hK.out _ _ (hd8S HB.out HG) (fun hH => ?_)
  clear hK K
  try simp only [sA, sB, sC]
  exact hd813 hp (by kernel_rfl) HB HG k3 r4 HQ
 ·
  rw [if_pos (by rfl)]
  unfold hd8o11
  go_simp
  have hg := gAl W (.cells #[.slice none 0 0] 30) none
  have z := BoxZ.new W
  have l_z := World.grownBy.size HG
  replace r1 := r1.grown hg
  replace r4 := r4.grown hg
  replace HG := gT HG hg
  obtain ⟨U, hU⟩ : ∃ U, W.alloc (.cells #[.slice none 0 0] 30) = U := ⟨_, rfl⟩
  rw [hU] at HG r1 r4 z ⊢
  clear hU hg
  refine hK.out _ _ (hd8S HB.out HG) (fun hH => ?_)
  clear hK K
  try simp only [sA, sB, sC]
  exact hd819 hp (by kernel_rfl) HB HG r1 r4 z l_z HQ
 ·
  rw [if_pos (by rfl)]
  unfold hd8o12
  go_simp
  have hg := gAl W (.cells #[.int .i64 0, .slice none 0 0] 26) none
  have y := XZ.new W
  have l_y := World.grownBy.size HG
  replace r1 := r1.grown hg
  replace r4 := r4.grown hg
  replace HG := gT HG hg
  obtain ⟨U, hU⟩ : ∃ U, W.alloc (.cells #[.int .i64 0, .slice none 0 0] 26) = U := ⟨_, rfl⟩
  rw [hU] at HG r1 r4 y ⊢
  clear hU hg
  refine hK.out _ _ (hd8S HB.out HG) (fun hH => ?_)
  clear hK K
  try simp only [sA, sB, sC]
  exact hd820 hp (by kernel_rfl) HB HG r1 r4 y l_y HQ

theorem hd822 (hp : ∀ c a d v w, Q (.panic c) (Act.put a d v) w → Q (.panic c) a w) {p1 : Nat} {p11 : Nat} {p12 : Nat} (hl : L = #[true, true, true, false, false, false, false, false, false, false, false, true, true, false, false]) (HB : Hid (CB V bc ac cc hC)) (HG : V.grownBy W none) (r1 : IntsW W (some ⟨p1, 0, none⟩) 1 [1]) (z : BoxZ W p11) (l_z : V.heap.size ≤ p11) (y : XZ W p12) (l_y : V.heap.size ≤ p12) (HQ : Hid (hd8F Q V bc ba bb bd bu be bi bf bg)) :
  wpAnyH Try.prog .any hd8Ops Q (hd8P V bc ac cc) 10 L (hd8f t bc ba bb bd bu be bi bf bg (.pointer (some ⟨p11, 0, none⟩)) (.pointer (some ⟨p12, 0, none⟩)) (t 61) (.agg #[.slice ac hC.length cc]) (.slice (some ⟨p1, 0, none⟩) 1 1) (.agg #[.int .i64 2, .slice (some ⟨p1, 0, none⟩) 1 1]) (t 65) (t 66) (t 67) (t 68) (t 69) (t 70) (t 71)) W := by
 subst hl
 unfold hd8f
 refine wpAnyH_ready (rs := [3, 4]) (by kernel_rfl) (by simp) ?_
 refine (AllReadyH.cons (o := hd8o3) rfl (fun K hK => ?_) (AllReadyH.cons (o := hd8o4) rfl (fun K hK => ?_) AllReadyH.nil))
 ·
  rw [if_pos (by rfl)]
  unfold hd8o3
  go_simp
  go_at_call 38
  refine (const1_at 2 1 r1).mono ?_
  rintro e U ⟨a3, c3, rfl, k3, g⟩
  replace z := z.grown g
  replace y := y.grown g
  replace HG := gT HG g
  clear g
  go_wp2_with fail
  refine hK.out _ _ (hd8S HB.out HG) (fun hH => ?_)
  clear hK K
  try simp only [sA, sB, sC]
  exact hd814 hp (by kernel_rfl) HB HG k3 z l_z y l_y HQ
 ·
  rw [if_pos (by rfl)]
  unfold hd8o4
  go_simp
  have hg := gAl W (.cells #[.int .i64 2] 3) none
  have r4 := ints_lit1 W 2
  replace r1 := r1.grown hg
  replace z := z.grown hg
  replace y := y.grown hg
  replace HG := gT HG hg
  obtain ⟨U, hU⟩ : ∃ U, W.alloc (.cells #[.int .i64 2] 3) = U := ⟨_, rfl⟩
  rw [hU] at HG r1 z y r4 ⊢
  clear hU hg
  refine hK.out _ _ (hd8S HB.out HG) (fun hH => ?_)
  clear hK K
  try simp only [sA, sB, sC]
  refine tk 5 hd8o5 ?_ rfl (by kernel_rfl) (fun c a w h => hp c a _ _ w h) (by rfl) ?_ hH ?_
  rotate_left 1
  · (intro W hSW; unfold hd8P at hSW; unfold hd8o5; first | (go_simp; done) | (go_simp; with_reducible rfl))
  try simp only [Act.put, sA, sB, sC]
  exact hd818 hp (by kernel_rfl) HB HG r1 r4 z l_z y l_y HQ

theorem hd823 (hp : ∀ c a d v w, Q (.panic c) (Act.put a d v) w → Q (.panic c) a w) {p1 : Nat} {p11 : Nat} (hl : L = #[true, true, true, false, false, false, false, false, false, false, false, true, false, false, false]) (HB : Hid (CB V bc ac cc hC)) (HG : V.grownBy W none) (r1 : IntsW W (some ⟨p1, 0, none⟩) 1 [1]) (z : BoxZ W p11) (l_z : V.heap.size ≤ p11) (HQ : Hid (hd8F Q V bc ba bb bd bu be bi bf bg)) :
  wpAnyH Try.prog .any hd8Ops Q (hd8P V bc ac cc) 11 L (hd8f t bc ba bb bd bu be bi bf bg (.pointer (some ⟨p11, 0, none⟩)) (t 14) (t 61) (.agg #[.slice ac hC.length cc]) (.slice (some ⟨p1, 0, none⟩) 1 1) (.agg #[.int .i64 2, .slice (some ⟨p1, 0, none⟩) 1 1]) (t 65) (t 66) (t 67) (t 68) (t 69) (t 70) (t 71)) W := by
 subst hl
 unfold hd8f
 refine wpAnyH_ready (rs := [3, 4, 12]) (by kernel_rfl) (by simp) ?_
 refine (AllReadyH.cons (o := hd8o3) rfl (fun K hK => ?_) (AllReadyH.cons (o := hd8o4) rfl (fun K hK => ?_) (AllReadyH.cons (o := hd8o12) rfl (fun K hK => ?_) AllReadyH.nil)))
 ·
  rw [if_pos (by rfl)]
  unfold hd8o3
  go_simp
  go_at_call 38
  refine (const1_at 2 1 r1).mono ?_
  rintro e U ⟨a3, c3, rfl, k3, g⟩
  replace z := z.grown g
  replace HG := gT HG g
  clear g
  go_wp2_with fail
  refine hK.out _ _ (hd8S HB.out HG) (fun hH => ?_)
  clear hK K
  try simp only [sA, sB, sC]
  exact hd815 hp (by kernel_rfl) HB HG k3 z l_z HQ
 ·
  rw [if_pos (by rfl)]
  unfold hd8o4
  go_simp
  have hg := gAl W (.cells #[.int .i64 2] 3) none
  have r4 := ints_lit1 W 2
  replace r1 := r1.grown hg
  replace z := z.grown hg
  replace HG := gT HG hg
  obtain ⟨U, hU⟩ : ∃ U, W.alloc (.cells #[.int .i64 2] 3) = U := ⟨_, rfl⟩
  rw [hU] at HG r1 z r4 ⊢
  clear hU hg
  refine hK.out _ _ (hd8S HB.out HG) (fun hH => ?_)
  clear hK K
  try simp only [sA, sB, sC]
  refine tk 5 hd8o5 ?_ rfl (by kernel_rfl) (fun c a w h => hp c a _ _ w h) (by rfl) ?_ hH ?_
  rotate_left 1
  · (intro W hSW; unfold hd8P at hSW; unfold hd8o5; first | (go_simp; done) | (go_simp; with_reducible rfl))
  try simp only [Act.put, sA, sB, sC]
  exact hd819 hp (by kernel_rfl) HB HG r1 r4 z l_z HQ
 ·
  rw [if_pos (by rfl)]
  unfold hd8o12
  go_simp
  have hg := gAl W (.cells #[.int .i64 0, .slice none 0 0] 26) none
  have y := XZ.new W
  have l_y := World.grownBy.size HG
  replace r1 := r1.grown hg
  replace z := z.grown hg
  replace HG := gT HG hg
  obtain ⟨U, hU⟩ : ∃ U, W.alloc (.cells #[.int .i64 0, .slice none 0 0] 26) = U := ⟨_, rfl⟩
  rw [hU] at HG r1 z y ⊢
  clear hU hg
  refine hK.out _ _ (hd8S HB.out HG) (fun hH => ?_)
  clear hK K
  try simp only [sA, sB, sC]
  exact hd822 hp (by kernel_rfl) HB HG r1 z l_z y l_y HQ

theorem hd824 (hp : ∀ c a d v w, Q (.panic c) (Act.put a d v) w → Q (.panic c) a w) {p1 : Nat} {p12 : Nat} (hl : L = #[true, true, true, false, false, false, false, false, false, false, false, false, true, false, false]) (HB : Hid (CB V bc ac cc hC)) (HG : V.grownBy W none) (r1 : IntsW W (some ⟨p1, 0, none⟩) 1 [1]) (y : XZ W p12) (l_y : V.heap.size ≤ p12) (HQ : Hid (hd8F Q V bc ba bb bd bu be bi bf bg)) :
  wpAnyH Try.prog .any hd8Ops Q (hd8P V bc ac cc) 11 L (hd8f t bc ba bb bd bu be bi bf bg (t 13) (.pointer (some ⟨p12, 0, none⟩)) (t 61) (.agg #[.slice ac hC.length cc]) (.slice (some ⟨p1, 0, none⟩) 1 1) (.agg #[.int .i64 2, .slice (some ⟨p1, 0, none⟩) 1 1]) (t 65) (t 66) (t 67) (t 68) (t 69) (t 70) (t 71)) W := by
 subst hl
 unfold hd8f
 refine wpAnyH_ready (rs := [3, 4, 11]) (by kernel_rfl) (by simp) ?_
 refine (AllReadyH.cons (o := hd8o3) rfl (fun K hK => ?_) (AllReadyH.cons (o := hd8o4) rfl (fun K hK => ?_) (AllReadyH.cons (o := hd8o11) rfl (fun K hK => ?_) AllReadyH.nil)))
 ·
  rw [if_pos (by rfl)]
  unfold hd8o3
  go_simp
  go_at_call 38
  refine (const1_at 2 1 r1).mono ?_
  rintro e U ⟨a3, c3, rfl, k3, g⟩
  replace y := y.grown g
  replace HG := gT HG g
  clear g
  go_wp2_with fail
  refine hK.out _ _ (hd8S HB.out HG) (fun hH => ?_)
  clear hK K
  try simp only [sA, sB, sC]
  exact hd816 hp (by kernel_rfl) HB HG k3 y l_y HQ
 ·
  rw [if_pos (by rfl)]
  unfold hd8o4
  go_simp
  have hg := gAl W (.cells #[.int .i64 2] 3) none
  have r4 := ints_lit1 W 2
  replace r1 := r1.grown hg
  replace y := y.grown hg
  replace HG := gT HG hg
  obtain ⟨U, hU⟩ : ∃ U, W.alloc (.cells #[.int .i64 2] 3) = U := ⟨_, rfl⟩
  rw [hU] at HG r1 y r4 ⊢
  clear hU hg
  refine hK.out _ _ (hd8S HB.out HG) (fun hH => ?_)
  clear hK K
  try simp only [sA, sB, sC]
  refine tk 5 hd8o5 ?_ rfl (by kernel_rfl) (fun c a w h => hp c a _ _ w h) (by rfl) ?_ hH ?_
  rotate_left 1
  · (intro W hSW; unfold hd8P at hSW; unfold hd8o5; first | (go_simp; done) | (go_simp; with_reducible rfl))
  try simp only [Act.put, sA, sB, sC]
  exact hd820 hp (by kernel_rfl) HB HG r1 r4 y l_y HQ
 ·
  rw [if_pos (by rfl)]
  unfold hd8o11
  go_simp
  have hg := gAl W (.cells #[.slice none 0 0] 30) none
  have z := BoxZ.new W
  have l_z := World.grownBy.size HG
  replace r1 := r1.grown hg
  replace y := y.grown hg
  replace HG := gT HG hg
  obtain ⟨U, hU⟩ : ∃ U, W.alloc (.cells #[.slice none 0 0] 30) = U := ⟨_, rfl⟩
  rw [hU] at HG r1 y z ⊢
  clear hU hg
  refine hK.out _ _ (hd8S HB.out HG) (fun hH => ?_)
  clear hK K
  try simp only [sA, sB, sC]
  exact hd822 hp (by kernel_rfl) HB HG r1 z l_z y l_y HQ

theorem hd825 (hp : ∀ c a d v w, Q (.panic c) (Act.put a d v) w → Q (.panic c) a w) {p1 : Nat} (hl : L = #[true, true, true, false, false, false, false, false, false, false, false, false, false, false, false]) (HB : Hid (CB V bc ac cc hC)) (HG : V.grownBy W none) (r1 : IntsW W (some ⟨p1, 0, none⟩) 1 [1]) (HQ : Hid (hd8F Q V bc ba bb bd bu be bi bf bg)) :
  wpAnyH Try.prog .any hd8Ops Q (hd8P V bc ac cc) 12 L (hd8f t bc ba bb bd bu be bi bf bg (t 13) (t 14) (t 61) (.agg #[.slice ac hC.length cc]) (.slice (some ⟨p1, 0, none⟩) 1 1) (.agg #[.int .i64 2, .slice (some ⟨p1, 0, none⟩) 1 1]) (t 65) (t 66) (t 67) (t 68) (t 69) (t 70) (t 71)) W := by
 subst hl
 unfold hd8f
 refine wpAnyH_ready (rs := [3, 4, 11, 12]) (by kernel_rfl) (by simp) ?_
 refine (AllReadyH.cons (o := hd8o3) rfl (fun K hK => ?_) (AllReadyH.cons (o := hd8o4) rfl (fun K hK => ?_) (AllReadyH.cons (o := hd8o11) rfl (fun K hK => ?_) (AllReadyH.cons (o := hd8o12) rfl (fun K hK => ?_) AllReadyH.nil))))
 ·
  rw [if_pos (by rfl)]
  unfold hd8o3
  go_simp
  go_at_call 38
  refine (const1_at 2 1 r1).mono ?_
  rintro e U ⟨a3, c3, rfl, k3, g⟩
  replace HG := gT HG g
  clear g
  go_wp2_with fail
  refine hK.out _ _ (hd8S HB.out HG) (fun hH => ?_)
  clear hK K
  try simp only [sA, sB, sC]
  exact hd817 hp (by kernel_rfl) HB HG k3 HQ
 ·
  rw [if_pos (by rfl)]
  unfold hd8o4
  go_simp
  have hg := gAl W (.cells #[.int .i64 2] 3) none
  have r4 := ints_lit1 W 2
  replace r1 := r1.grown hg
  replace HG := gT HG hg
  obtain ⟨U, hU⟩ : ∃ U, W.alloc (.cells #[.int .i64 2] 3) = U := ⟨_, rfl⟩
  rw [hU] at HG r1 r4 ⊢
  clear hU hg
  refine hK.out _ _ (hd8S HB.out HG) (fun hH => ?_)
  clear hK K
  try simp only [sA, sB, sC]
  refine tk 5 hd8o5 ?_ rfl (by kernel_rfl) (fun c a w h => hp c a _ _ w h) (by rfl) ?_ hH ?_
  rotate_left 1
  · (intro W hSW; unfold hd8P at hSW; unfold hd8o5; first | (go_simp; done) | (go_simp; with_reducible rfl))
  try simp only [Act.put, sA, sB, sC]
  exact hd821 hp (by kernel_rfl) HB HG r1 r4 HQ
 ·
  rw [if_pos (by rfl)]
  unfold hd8o11
  go_simp
  have hg := gAl W (.cells #[.slice none 0 0] 30) none
  have z := BoxZ.new W
  have l_z := World.grownBy.size HG
  replace r1 := r1.grown hg
  replace HG := gT HG hg
  obtain ⟨U, hU⟩ : ∃ U, W.alloc (.cells #[.slice none 0 0] 30) = U := ⟨_, rfl⟩
  rw [hU] at HG r1 z ⊢
  clear hU hg
  refine hK.out _ _ (hd8S HB.out HG) (fun hH => ?_)
  clear hK K
  try simp only [sA, sB, sC]
  exact hd823 hp (by kernel_rfl) HB HG r1 z l_z HQ
 ·
  rw [if_pos (by rfl)]
  unfold hd8o12
  go_simp
  have hg := gAl W (.cells #[.int .i64 0, .slice none 0 0] 26) none
  have y := XZ.new W
  have l_y := World.grownBy.size HG
  replace r1 := r1.grown hg
  replace HG := gT HG hg
  obtain ⟨U, hU⟩ : ∃ U, W.alloc (.cells #[.int .i64 0, .slice none 0 0] 26) = U := ⟨_, rfl⟩
  rw [hU] at HG r1 y ⊢
  clear hU hg
  refine hK.out _ _ (hd8S HB.out HG) (fun hH => ?_)
  clear hK K
  try simp only [sA, sB, sC]
  exact hd824 hp (by kernel_rfl) HB HG r1 y l_y HQ

theorem hd826 (hp : ∀ c a d v w, Q (.panic c) (Act.put a d v) w → Q (.panic c) a w) {p4 : Nat} {p11 : Nat} {p12 : Nat} (hl : L = #[true, false, false, false, true, true, false, false, false, false, false, true, true, false, false]) (HB : Hid (CB V bc ac cc hC)) (HG : V.grownBy W none) (r4 : IntsW W (some ⟨p4, 0, none⟩) 1 [2]) (z : BoxZ W p11) (l_z : V.heap.size ≤ p11) (y : XZ W p12) (l_y : V.heap.size ≤ p12) (HQ : Hid (hd8F Q V bc ba bb bd bu be bi bf bg)) :
  wpAnyH Try.prog .any hd8Ops Q (hd8P V bc ac cc) 10 L (hd8f t bc ba bb bd bu be bi bf bg (.pointer (some ⟨p11, 0, none⟩)) (.pointer (some ⟨p12, 0, none⟩)) (t 61) (.agg #[.slice ac hC.length cc]) (t 63) (t 64) (t 65) (.slice (some ⟨p4, 0, none⟩) 1 1) (.agg #[.int .i64 2, .slice (some ⟨p4, 0, none⟩) 1 1]) (t 68) (t 69) (t 70) (t 71)) W := by
 subst hl
 unfold hd8f
 refine wpAnyH_ready (rs := [1]) (by kernel_rfl) (by simp) ?_
 refine (AllReadyH.cons (o := hd8o1) rfl (fun K hK => ?_) AllReadyH.nil)
 rw [if_pos (by rfl)]
 unfold hd8o1
 go_simp
 have hg := gAl W (.cells #[.int .i64 1] 3) none
 have r1 := ints_lit1 W 1
 replace r4 := r4.grown hg
 replace z := z.grown hg
 replace y := y.grown hg
 replace HG := gT HG hg
 obtain ⟨U, hU⟩ : ∃ U, W.alloc (.cells #[.int .i64 1] 3) = U := ⟨_, rfl⟩
 rw [hU] at HG r4 z y r1 ⊢
 clear hU hg
 refine hK.out _ _ (hd8S HB.out HG) (fun hH => ?_)
 clear hK K
 try simp only [sA, sB, sC]
 refine tk 2 hd8o2 ?_ rfl (by kernel_rfl) (fun c a w h => hp c a _ _ w h) (by rfl) ?_ hH ?_
 rotate_left 1
 · (intro W hSW; unfold hd8P at hSW; unfold hd8o2; first | (go_simp; done) | (go_simp; with_reducible rfl))
 try simp only [Act.put, sA, sB, sC]
 exact hd818 hp (by kernel_rfl) HB HG r1 r4 z l_z y l_y HQ

theorem hd827 (hp : ∀ c a d v w, Q (.panic c) (Act.put a d v) w → Q (.panic c) a w) {p4 : Nat} {p11 : Nat} (hl : L = #[true, false, false, false, true, true, false, false, false, false, false, true, false, false, false]) (HB : Hid (CB V bc ac cc hC)) (HG : V.grownBy W none) (r4 : IntsW W (some ⟨p4, 0, none⟩) 1 [2]) (z : BoxZ W p11) (l_z : V.heap.size ≤ p11) (HQ : Hid (hd8F Q V bc ba bb bd bu be bi bf bg)) :
  wpAnyH Try.prog .any hd8Ops Q (hd8P V bc ac cc) 11 L (hd8f t bc ba bb bd bu be bi bf bg (.pointer (some ⟨p11, 0, none⟩)) (t 14) (t 61) (.agg #[.slice ac hC.length cc]) (t 63) (t 64) (t 65) (.slice (some ⟨p4, 0, none⟩) 1 1) (.agg #[.int .i64 2, .slice (some ⟨p4, 0, none⟩) 1 1]) (t 68) (t 69) (t 70) (t 71)) W := by
 subst hl
 unfold hd8f
 refine wpAnyH_ready (rs := [1, 12]) (by kernel_rfl) (by simp) ?_
 refine (AllReadyH.cons (o := hd8o1) rfl (fun K hK => ?_) (AllReadyH.cons (o := hd8o12) rfl (fun K hK => ?_) AllReadyH.nil))
 ·
  rw [if_pos (by rfl)]
  unfold hd8o1
  go_simp
  have hg := gAl W (.cells #[.int .i64 1] 3) none
  have r1 := ints_lit1 W 1
  replace r4 := r4.grown hg
  replace z := z.grown hg
  replace HG := gT HG hg
  obtain ⟨U, hU⟩ : ∃ U, W.alloc (.cells #[.int .i64 1] 3) = U := ⟨_, rfl⟩
  rw [hU] at HG r4 z r1 ⊢
  clear hU hg
  refine hK.out _ _ (hd8S HB.out HG) (fun hH => ?_)
  clear hK K
  try simp only [sA, sB, sC]
  refine tk 2 hd8o2 ?_ rfl (by kernel_rfl) (fun c a w h => hp c a _ _ w h) (by rfl) ?_ hH ?_
  rotate_left 1
  · (intro W hSW; unfold hd8P at hSW; unfold hd8o2; first | (go_simp; done) | (go_simp; with_reducible rfl))
  try simp only [Act.put, sA, sB, sC]
  exact hd819 hp (by kernel_rfl) HB HG r1 r4 z l_z HQ
 ·
  rw [if_pos (by rfl)]
  unfold hd8o12
  go_simp
  have hg := gAl W (.cells #[.int .i64 0, .slice none 0 0] 26) none
  have y := XZ.new W
  have l_y := World.grownBy.size HG
  replace r4 := r4.grown hg
  replace z := z.grown hg
  replace HG := gT HG hg
  obtain ⟨U, hU⟩ : ∃ U, W.alloc (.cells #[.int .i64 0, .slice none 0 0] 26) = U := ⟨_, rfl⟩
  rw [hU] at HG r4 z y ⊢
  clear hU hg
  refine hK.out _ _ (hd8S HB.out HG) (fun hH => ?_)
  clear hK K
  try simp only [sA, sB, sC]
  exact hd826 hp (by kernel_rfl) HB HG r4 z l_z y l_y HQ

theorem hd828 (hp : ∀ c a d v w, Q (.panic c) (Act.put a d v) w → Q (.panic c) a w) {p4 : Nat} {p12 : Nat} (hl : L = #[true, false, false, false, true, true, false, false, false, false, false, false, true, false, false]) (HB : Hid (CB V bc ac cc hC)) (HG : V.grownBy W none) (r4 : IntsW W (some ⟨p4, 0, none⟩) 1 [2]) (y : XZ W p12) (l_y : V.heap.size ≤ p12) (HQ : Hid (hd8F Q V bc ba bb bd bu be bi bf bg)) :
  wpAnyH Try.prog .any hd8Ops Q (hd8P V bc ac cc) 11 L (hd8f t bc ba bb bd bu be bi bf bg (t 13) (.pointer (some ⟨p12, 0, none⟩)) (t 61) (.agg #[.slice ac hC.length cc]) (t 63) (t 64) (t 65) (.slice (some ⟨p4, 0, none⟩) 1 1) (.agg #[.int .i64 2, .slice (some ⟨p4, 0, none⟩) 1 1]) (t 68) (t 69) (t 70) (t 71)) W := by
 subst hl
 unfold hd8f
 refine wpAnyH_ready (rs := [1, 11]) (by kernel_rfl) (by simp) ?_
 refine (AllReadyH.cons (o := hd8o1) rfl (fun K hK => ?_) (AllReadyH.cons (o := hd8o11) rfl (fun K hK => ?_) AllReadyH.nil))
 ·
  rw [if_pos (by rfl)]
  unfold hd8o1
  go_simp
  have hg := gAl W (.cells #[.int .i64 1] 3) none
  have r1 := ints_lit1 W 1
  replace r4 := r4.grown hg
  replace y := y.grown hg
  replace HG := gT HG hg
  obtain ⟨U, hU⟩ : ∃ U, W.alloc (.cells #[.int .i64 1] 3) = U := ⟨_, rfl⟩
  rw [hU] at HG r4 y r1 ⊢
  clear hU hg
  refine hK.out _ _ (hd8S HB.out HG) (fun hH => ?_)
  clear hK K
  try simp only [sA, sB, sC]
  refine tk 2 hd8o2 ?_ rfl (by kernel_rfl) (fun c a w h => hp c a _ _ w h) (by rfl) ?_ hH ?_
  rotate_left 1
  · (intro W hSW; unfold hd8P at hSW; unfold hd8o2; first | (go_simp; done) | (go_simp; with_reducible rfl))
  try simp only [Act.put, sA, sB, sC]
  exact hd820 hp (by kernel_rfl) HB HG r1 r4 y l_y HQ
 ·
  rw [if_pos (by rfl)]
  unfold hd8o11
  go_simp
  have hg := gAl W (.cells #[.slice none 0 0] 30) none
  have z := BoxZ.new W
  have l_z := World.grownBy.size HG
  replace r4 := r4.grown hg
  replace y := y.grown hg
  replace HG := gT HG hg
  obtain ⟨U, hU⟩ : ∃ U, W.alloc (.cells #[.slice none 0 0] 30) = U := ⟨_, rfl⟩
  rw [hU] at HG r4 y z ⊢
  clear hU hg
  refine hK.out _ _ (hd8S HB.out HG) (fun hH => ?_)
  clear hK K
  try simp only [sA, sB, sC]
  exact hd826 hp (by kernel_rfl) HB HG r4 z l_z y l_y HQ

theorem hd829 (hp : ∀ c a d v w, Q (.panic c) (Act.put a d v) w → Q (.panic c) a w) {p4 : Nat} (hl : L = #[true, false, false, false, true, true, false, false, false, false, false, false, false, false, false]) (HB : Hid (CB V bc ac cc hC)) (HG : V.grownBy W none) (r4 : IntsW W (some ⟨p4, 0, none⟩) 1 [2]) (HQ : Hid (hd8F Q V bc ba bb bd bu be bi bf bg)) :
  wpAnyH Try.prog .any hd8Ops Q (hd8P V bc ac cc) 12 L (hd8f t bc ba bb bd bu be bi bf bg (t 13) (t 14) (t 61) (.agg #[.slice ac hC.length cc]) (t 63) (t 64) (t 65) (.slice (some ⟨p4, 0, none⟩) 1 1) (.agg #[.int .i64 2, .slice (some ⟨p4, 0, none⟩) 1 1]) (t 68) (t 69) (t 70) (t 71)) W := by
 subst hl
 unfold hd8f
 refine wpAnyH_ready (rs := [1, 11, 12]) (by kernel_rfl) (by simp) ?_
 refine (AllReadyH.cons (o := hd8o1) rfl (fun K hK => ?_) (AllReadyH.cons (o := hd8o11) rfl (fun K hK => ?_) (AllReadyH.cons (o := hd8o12) rfl (fun K hK => ?_) AllReadyH.nil)))
 ·
  rw [if_pos (by rfl)]
  unfold hd8o1
  go_simp
  have hg := gAl W (.cells #[.int .i64 1] 3) none
  have r1 := ints_lit1 W 1
  replace r4 := r4.grown hg
  replace HG := gT HG hg
  obtain ⟨U, hU⟩ : ∃ U, W.alloc (.cells #[.int .i64 1] 3) = U := ⟨_, rfl⟩
  rw [hU] at HG r4 r1 ⊢
  clear hU hg
  refine hK.out _ _ (hd8S HB.out HG) (fun hH => ?_)
  clear hK K
  try simp only [sA, sB, sC]
  refine tk 2 hd8o2 ?_ rfl (by kernel_rfl) (fun c a w h => hp c a _ _ w h) (by rfl) ?_ hH ?_
  rotate_left 1
  · (intro W hSW; unfold hd8P at hSW; unfold hd8o2; first | (go_simp; done) | (go_simp; with_reducible rfl))
  try simp only [Act.put, sA, sB, sC]
  exact hd821 hp (by kernel_rfl) HB HG r1 r4 HQ
 ·
  rw [if_pos (by rfl)]
  unfold hd8o11
  go_simp
  have hg := gAl W (.cells #[.slice none 0 0] 30) none
  have z := BoxZ.new W
  have l_z := World.grownBy.size HG
  replace r4 := r4.grown hg
  replace HG := gT HG hg
  obtain ⟨U, hU⟩ : ∃ U, W.alloc (.cells #[.slice none 0 0] 30) = U := ⟨_, rfl⟩
  rw [hU] at HG r4 z ⊢
  clear hU hg
  refine hK.out _ _ (hd8S HB.out HG) (fun hH => ?_)
  clear hK K
  try simp only [sA, sB, sC]
  exact hd827 hp (by kernel_rfl) HB HG r4 z l_z HQ
 ·
  rw [if_pos (by rfl)]
  unfold hd8o12
  go_simp
  have hg := gAl W (.cells #[.int .i64 0, .slice none 0 0] 26) none
  have y := XZ.new W
  have l_y := World.grownBy.size HG
  replace r4 := r4.grown hg
  replace HG := gT HG hg
  obtain ⟨U, hU⟩ : ∃ U, W.alloc (.cells #[.int .i64 0, .slice none 0 0] 26) = U := ⟨_, rfl⟩
  rw [hU] at HG r4 y ⊢
  clear hU hg
  refine hK.out _ _ (hd8S HB.out HG) (fun hH => ?_)
  clear hK K
  try simp only [sA, sB, sC]
  exact hd828 hp (by kernel_rfl) HB HG r4 y l_y HQ

theorem hd830 (hp : ∀ c a d v w, Q (.panic c) (Act.put a d v) w → Q (.panic c) a w) {p11 : Nat} {p12 : Nat} (hl : L = #[true, false, false, false, false, false, false, false, false, false, false, true, true, false, false]) (HB : Hid (CB V bc ac cc hC)) (HG : V.grownBy W none) (z : BoxZ W p11) (l_z : V.heap.size ≤ p11) (y : XZ W p12) (l_y : V.heap.size ≤ p12) (HQ : Hid (hd8F Q V bc ba bb bd bu be bi bf bg)) :
  wpAnyH Try.prog .any hd8Ops Q (hd8P V bc ac cc) 12 L (hd8f t bc ba bb bd bu be bi bf bg (.pointer (some ⟨p11, 0, none⟩)) (.pointer (some ⟨p12, 0, none⟩)) (t 61) (.agg #[.slice ac hC.length cc]) (t 63) (t 64) (t 65) (t 66) (t 67) (t 68) (t 69) (t 70) (t 71)) W := by
 subst hl
 unfold hd8f
 refine wpAnyH_ready (rs := [1, 4]) (by kernel_rfl) (by simp) ?_
 refine (AllReadyH.cons (o := hd8o1) rfl (fun K hK => ?_) (AllReadyH.cons (o := hd8o4) rfl (fun K hK => ?_) AllReadyH.nil))
 ·
  rw [if_pos (by rfl)]
  unfold hd8o1
  go_simp
  have hg := gAl W (.cells #[.int .i64 1] 3) none
  have r1 := ints_lit1 W 1
  replace z := z.grown hg
  replace y := y.grown hg
  replace HG := gT HG hg
  obtain ⟨U, hU⟩ : ∃ U, W.alloc (.cells #[.int .i64 1] 3) = U := ⟨_, rfl⟩
  rw [hU] at HG z y r1 ⊢
  clear hU hg
  refine hK.out _ _ (hd8S HB.out HG) (fun hH => ?_)
  clear hK K
  try simp only [sA, sB, sC]
  refine tk 2 hd8o2 ?_ rfl (by kernel_rfl) (fun c a w h => hp c a _ _ w h) (by rfl) ?_ hH ?_
  rotate_left 1
  · (intro W hSW; unfold hd8P at hSW; unfold hd8o2; first | (go_simp; done) | (go_simp; with_reducible rfl))
  try simp only [Act.put, sA, sB, sC]
  exact hd822 hp (by kernel_rfl) HB HG r1 z l_z y l_y HQ
 ·
  rw [if_pos (by rfl)]
  unfold hd8o4
  go_simp
  have hg := gAl W (.cells #[.int .i64 2] 3) none
  have r4 := ints_lit1 W 2
  replace z := z.grown hg
  replace y := y.grown hg
  replace HG := gT HG hg
  obtain ⟨U, hU⟩ : ∃ U, W.alloc (.cells #[.int .i64 2] 3) = U := ⟨_, rfl⟩
  rw [hU] at HG z y r4 ⊢
  clear hU hg
  refine hK.out _ _ (hd8S HB.out HG) (fun hH => ?_)
  clear hK K
  try simp only [sA, sB, sC]
  refine tk 5 hd8o5 ?_ rfl (by kernel_rfl) (fun c a w h => hp c a _ _ w h) (by rfl) ?_ hH ?_
  rotate_left 1
  · (intro W hSW; unfold hd8P at hSW; unfold hd8o5; first | (go_simp; done) | (go_simp; with_reducible rfl))
  try simp only [Act.put, sA, sB, sC]
  exact hd826 hp (by kernel_rfl) HB HG r4 z l_z y l_y HQ

theorem hd831 (hp : ∀ c a d v w, Q (.panic c) (Act.put a d v) w → Q (.panic c) a w) {p11 : Nat} (hl : L = #[true, false, false, false, false, false, false, false, false, false, false, true, false, false, false]) (HB : Hid (CB V bc ac cc hC)) (HG : V.grownBy W none) (z : BoxZ W p11) (l_z : V.heap.size ≤ p11) (HQ : Hid (hd8F Q V bc ba bb bd bu be bi bf bg)) :
  wpAnyH Try.prog .any hd8Ops Q (hd8P V bc ac cc) 13 L (hd8f t bc ba bb bd bu be bi bf bg (.pointer (some ⟨p11, 0, none⟩)) (t 14) (t 61) (.agg #[.slice ac hC.length cc]) (t 63) (t 64) (t 65) (t 66) (t 67) (t 68) (t 69) (t 70) (t 71)) W := by
 subst hl
 unfold hd8f
 refine wpAnyH_ready (rs := [1, 4, 12]) (by kernel_rfl) (by simp) ?_
 refine (AllReadyH.cons (o := hd8o1) rfl (fun K hK => ?_) (AllReadyH.cons (o := hd8o4) rfl (fun K hK => ?_) (AllReadyH.cons (o := hd8o12) rfl (fun K hK => ?_) AllReadyH.nil)))
 ·
  rw [if_pos (by rfl)]
  unfold hd8o1
  go_simp
  have hg := gAl W (.cells #[.int .i64 1] 3) none
  have r1 := ints_lit1 W 1
  replace z := z.grown hg
  replace HG := gT HG hg
  obtain ⟨U, hU⟩ : ∃ U, W.alloc (.cells #[.int .i64 1] 3) = U := ⟨_, rfl⟩
  rw [hU] at HG z r1 ⊢
  clear hU hg
  refine hK.out _ _ (hd8S HB.out HG) (fun hH => ?_)
  clear hK K
  try simp only [sA, sB, sC]
  refine tk 2 hd8o2 ?_ rfl (by kernel_rfl) (fun c a w h => hp c a _ _ w h) (by rfl) ?_ hH ?_
  rotate_left 1
  · (intro W hSW; unfold hd8P at hSW; unfold hd8o2; first | (go_simp; done) | (go_simp; with_reducible rfl))
  try simp only [Act.put, sA, sB, sC]
  exact hd823 hp (by kernel_rfl) HB HG r1 z l_z HQ
 ·
  rw [if_pos (by rfl)]
  unfold hd8o4
  go_simp
  have hg := gAl W (.cells #[.int .i64 2] 3) none
  have r4 := ints_lit1 W 2
  replace z := z.grown hg
  replace HG := gT HG hg
  obtain ⟨U, hU⟩ : ∃ U, W.alloc (.cells #[.int .i64 2] 3) = U := ⟨_, rfl⟩
  rw [hU] at HG z r4 ⊢
  clear hU hg
  refine hK.out _ _ (hd8S HB.out HG) (fun hH => ?_)
  clear hK K
  try simp only [sA, sB, sC]
  refine tk 5 hd8o5 ?_ rfl (by kernel_rfl) (fun c a w h => hp c a _ _ w h) (by rfl) ?_ hH ?_
  rotate_left 1
  · (intro W hSW; unfold hd8P at hSW; unfold hd8o5; first | (go_simp; done) | (go_simp; with_reducible rfl))
  try simp only [Act.put, sA, sB, sC]
  exact hd827 hp (by kernel_rfl) HB HG r4 z l_z HQ
 ·
  rw [if_pos (by rfl)]
  unfold hd8o12
  go_simp
  have hg := gAl W (.cells #[.int .i64 0, .slice none 0 0] 26) none
  have y := XZ.new W
  have l_y := World.grownBy.size HG
  replace z := z.grown hg
  replace HG := gT HG hg
  obtain ⟨U, hU⟩ : ∃ U, W.alloc (.cells #[.int .i64 0, .slice none 0 0] 26) = U := ⟨_, rfl⟩
  rw [hU] at HG z y ⊢
  clear hU hg
  refine hK.out _ _ (hd8S HB.out HG) (fun hH => ?_)
  clear hK K
  try simp only [sA, sB, sC]
  exact hd830 hp (by kernel_rfl) HB HG z l_z y l_y HQ

theorem hd832 (hp : ∀ c a d v w, Q (.panic c) (Act.put a d v) w → Q (.panic c) a w) {p12 : Nat} (hl : L = #[true, false, false, false, false, false, false, false, false, false, false, false, true, false, false]) (HB : Hid (CB V bc ac cc hC)) (HG : V.grownBy W none) (y : XZ W p12) (l_y : V.heap.size ≤ p12) (HQ : Hid (hd8F Q V bc ba bb bd bu be bi bf bg)) :
  wpAnyH Try.prog .any hd8Ops Q (hd8P V bc ac cc) 13 L (hd8f t bc ba bb bd bu be bi bf bg (t 13) (.pointer (some ⟨p12, 0, none⟩)) (t 61) (.agg #[.slice ac hC.length cc]) (t 63) (t 64) (t 65) (t 66) (t 67) (t 68) (t 69) (t 70) (t 71)) W := by
 subst hl
 unfold hd8f
 refine wpAnyH_ready (rs := [1, 4, 11]) (by kernel_rfl) (by simp) ?_
 refine (AllReadyH.cons (o := hd8o1) rfl (fun K hK => ?_) (AllReadyH.cons (o := hd8o4) rfl (fun K hK => ?_) (AllReadyH.cons (o := hd8o11) rfl (fun K hK => ?_) AllReadyH.nil)))
 ·
  rw [if_pos (by rfl)]
  unfold hd8o1
  go_simp
  have hg := gAl W (.cells #[.int .i64 1] 3) none
  have r1 := ints_lit1 W 1
  replace y := y.grown hg
  replace HG := gT HG hg
  obtain ⟨U, hU⟩ : ∃ U, W.alloc (.cells #[.int .i64 1] 3) = U := ⟨_, rfl⟩
  rw [hU] at HG y r1 ⊢
  clear hU hg
  refine hK.out _ _ (hd8S HB.out HG) (fun hH => ?_)
  clear hK K
  try simp only [sA, sB, sC]
  refine tk 2 hd8o2 ?_ rfl (by kernel_rfl) (fun c a w h => hp c a _ _ w h) (by rfl) ?_ hH ?_
  rotate_left 1
  · (intro W hSW; unfold hd8P at hSW; unfold hd8o2; first | (go_simp; done) | (go_simp; with_reducible rfl))
  try simp only [Act.put, sA, sB, sC]
  exact hd824 hp (by kernel_rfl) HB HG r1 y l_y HQ
 ·
  rw [if_pos (by rfl)]
  unfold hd8o4
  go_simp
  have hg := gAl W (.cells #[.int .i64 2] 3) none
  have r4 := ints_lit1 W 2
  replace y := y.grown hg
  replace HG := gT HG hg
  obtain ⟨U, hU⟩ : ∃ U, W.alloc (.cells #[.int .i64 2] 3) = U := ⟨_, rfl⟩
  rw [hU] at HG y r4 ⊢
  clear hU hg
  refine hK.out _ _ (hd8S HB.out HG) (fun hH => ?_)
  clear hK K
  try simp only [sA, sB, sC]
  refine tk 5 hd8o5 ?_ rfl (by kernel_rfl) (fun c a w h => hp c a _ _ w h) (by rfl) ?_ hH ?_
  rotate_left 1
  · (intro W hSW; unfold hd8P at hSW; unfold hd8o5; first | (go_simp; done) | (go_simp; with_reducible rfl))
  try simp only [Act.put, sA, sB, sC]
  exact hd828 hp (by kernel_rfl) HB HG r4 y l_y HQ
 ·
  rw [if_pos (by rfl)]
  unfold hd8o11
  go_simp
  have hg := gAl W (.cells #[.slice none 0 0] 30) none
  have z := BoxZ.new W
  have l_z := World.grownBy.size HG
  replace y := y.grown hg
  replace HG := gT HG hg
  obtain ⟨U, hU⟩ : ∃ U, W.alloc (.cells #[.slice none 0 0] 30) = U := ⟨_, rfl⟩
  rw [hU] at HG y z ⊢
  clear hU hg
  refine hK.out _ _ (hd8S HB.out HG) (fun hH => ?_)
  clear hK K
  try simp only [sA, sB, sC]
  exact hd830 hp (by kernel_rfl) HB HG z l_z y l_y HQ

theorem hd833 (hp : ∀ c a d v w, Q (.panic c) (Act.put a d v) w → Q (.panic c) a w)  (hl : L = #[true, false, false, false, false, false, false, false, false, false, false, false, false, false, false]) (HB : Hid (CB V bc ac cc hC)) (HG : V.grownBy W none)  (HQ : Hid (hd8F Q V bc ba bb bd bu be bi bf bg)) :
  wpAnyH Try.prog .any hd8Ops Q (hd8P V bc ac cc) 14 L (hd8f t bc ba bb bd bu be bi bf bg (t 13) (t 14) (t 61) (.agg #[.slice ac hC.length cc]) (t 63) (t 64) (t 65) (t 66) (t 67) (t 68) (t 69) (t 70) (t 71)) W := by
 subst hl
 unfold hd8f
 refine wpAnyH_ready (rs := [1, 4, 11, 12]) (by kernel_rfl) (by simp) ?_
 refine (AllReadyH.cons (o := hd8o1) rfl (fun K hK => ?_) (AllReadyH.cons (o := hd8o4) rfl (fun K hK => ?_) (AllReadyH.cons (o := hd8o11) rfl (fun K hK => ?_) (AllReadyH.cons (o := hd8o12) rfl (fun K hK => ?_) AllReadyH.nil))))
 ·
  rw [if_pos (by rfl)]
  unfold hd8o1
  go_simp
  have hg := gAl W (.cells #[.int .i64 1] 3) none
  have r1 := ints_lit1 W 1
  replace HG := gT HG hg
  obtain ⟨U, hU⟩ : ∃ U, W.alloc (.cells #[.int .i64 1] 3) = U := ⟨_, rfl⟩
  rw [hU] at HG  r1 ⊢
  clear hU hg
  refine hK.out _ _ (hd8S HB.out HG) (fun hH => ?_)
  clear hK K
  try simp only [sA, sB, sC]
  refine tk 2 hd8o2 ?_ rfl (by kernel_rfl) (fun c a w h => hp c a _ _ w h) (by rfl) ?_ hH ?_
  rotate_left 1
  · (intro W hSW; unfold hd8P at hSW; unfold hd8o2; first | (go_simp; done) | (go_simp; with_reducible rfl))
  try simp only [Act.put, sA, sB, sC]
  exact hd825 hp (by kernel_rfl) HB HG r1 HQ
 ·
  rw [if_pos (by rfl)]
  unfold hd8o4
  go_simp
  have hg := gAl W (.cells #[.int .i64 2] 3) none
  have r4 := ints_lit1 W 2
  replace HG := gT HG hg
  obtain ⟨U, hU⟩ : ∃ U, W.alloc (.cells #[.int .i64 2] 3) = U := ⟨_, rfl⟩
  rw [hU] at HG  r4 ⊢
  clear hU hg
  refine hK.out _ _ (hd8S HB.out HG) (fun hH => ?_)
  clear hK K
  try simp only [sA, sB, sC]
  refine tk 5 hd8o5 ?_ rfl (by kernel_rfl) (fun c a w h => hp c a _ _ w h) (by rfl) ?_ hH ?_
  rotate_left 1
  · (intro W hSW; unfold hd8P at hSW; unfold hd8o5; first | (go_simp; done) | (go_simp; with_reducible rfl))
  try simp only [Act.put, sA, sB, sC]
  exact hd829 hp (by kernel_rfl) HB HG r4 HQ
 ·
  rw [if_pos (by rfl)]
  unfold hd8o11
  go_simp
  have hg := gAl W (.cells #[.slice none 0 0] 30) none
  have z := BoxZ.new W
  have l_z := World.grownBy.size HG
  replace HG := gT HG hg
  obtain ⟨U, hU⟩ : ∃ U, W.alloc (.cells #[.slice none 0 0] 30) = U := ⟨_, rfl⟩
  rw [hU] at HG  z ⊢
  clear hU hg
  refine hK.out _ _ (hd8S HB.out HG) (fun hH => ?_)
  clear hK K
  try simp only [sA, sB, sC]
  exact hd831 hp (by kernel_rfl) HB HG z l_z HQ
 ·
  rw [if_pos (by rfl)]
  unfold hd8o12
  go_simp
  have hg := gAl W (.cells #[.int .i64 0, .slice none 0 0] 26) none
  have y := XZ.new W
  have l_y := World.grownBy.size HG
  replace HG := gT HG hg
  obtain ⟨U, hU⟩ : ∃ U, W.alloc (.cells #[.int .i64 0, .slice none 0 0] 26) = U := ⟨_, rfl⟩
  rw [hU] at HG  y ⊢
  clear hU hg
  refine hK.out _ _ (hd8S HB.out HG) (fun hH => ?_)
  clear hK K
  try simp only [sA, sB, sC]
  exact hd832 hp (by kernel_rfl) HB HG y l_y HQ

theorem hd8_all {t0 t13 t14 t15 t16 t17 t18 t19 t20 t21 t22 t23 t24 t25 t26 t27 t28 t29 t30 t31 t32 t33 t34 t35 t36 t37 t38 t39 t40 t41 t42 t43 t44 t45 t46 t47 t48 t49 t50 t51 t52 t53 t54 t55 t56 t57 t58 t59 t60 t61 t62 t63 t64 t65 t66 t67 t68 t69 t70 t71 t72 t73 t74 t75 t76 t77 t78 t79 t80 t81 t82 t83 t84 t85 t86 t87 t88 t89 t90 t91 t92 t93 t94 t95 t96 t97 t98 t99 t100 t101 t102 t103 t104 t105 t106 t107 t108 t109 t110 t111 t112 t113 t114 t115 t116 t117 t118 t119 t120 t121 t122 t123 t124 t125 t126 t127 t128 t129 t130 t131 t132 t133 t134 t135 t136 t137 t138 t139 t140 t141 t142 t143 t144 t145 t146 t147 t148 t149 t150 t151 t152 t153 t154 t155 t156 t157 t158 t159 t160 t161 t162 t163 t164 t165 t166 t167 t168 t169 t170 t171 t172 t173 t174 t175 : Value} (hp : ∀ c a d v w, Q (.panic c) (Act.put a d v) w → Q (.panic c) a w) (HB : Hid (CB V bc ac cc hC)) (HQ : Hid (hd8F Q V bc ba bb bd bu be bi bf bg)) :
  (Code.region 8 hd8Ops true).wp Try.prog Q ⟨#[t0, .pointer (some ⟨bc, 0, none⟩), .int .i64 2, .pointer (some ⟨ba, 0, none⟩), .pointer (some ⟨bb, 0, none⟩), .pointer (some ⟨bd, 0, none⟩), .pointer (some ⟨bu, 0, none⟩), .pointer (some ⟨be, 0, none⟩), .pointer (some ⟨bi, 0, none⟩), .pointer (some ⟨bf, 0, none⟩), .int .i64 0, .pointer (some ⟨bg, 0, none⟩), .int .i64 1, t13, t14, t15, t16, t17, t18, t19, t20, t21, t22, t23, t24, t25, t26, t27, t28, t29, t30, t31, t32, t33, t34, t35, t36, t37, t38, t39, t40, t41, t42, t43, t44, t45, t46, t47, t48, t49, t50, t51, t52, t53, t54, t55, t56, t57, t58, t59, t60, t61, t62, t63, t64, t65, t66, t67, t68, t69, t70, t71, t72, t73, t74, t75, t76, t77, t78, t79, t80, t81, t82, t83, t84, t85, t86, t87, t88, t89, t90, t91, t92, t93, t94, t95, t96, t97, t98, t99, t100, t101, t102, t103, t104, t105, t106, t107, t108, t109, t110, t111, t112, t113, t114, t115, t116, t117, t118, t119, t120, t121, t122, t123, t124, t125, t126, t127, t128, t129, t130, t131, t132, t133, t134, t135, t136, t137, t138, t139, t140, t141, t142, t143, t144, t145, t146, t147, t148, t149, t150, t151, t152, t153, t154, t155, t156, t157, t158, t159, t160, t161, t162, t163, t164, t165, t166, t167, t168, t169, t170, t171, t172, t173, t174, t175], []⟩ V := by
 have HG := ((⟨rfl, rfl, rfl, Nat.le_refl _, fun _ _ _ => rfl⟩ : V.grownBy V.drew none))
 refine wp_region_held_drew (S := (hd8P V bc ac cc)) (by kernel_rfl) (hd8S HB.out HG) (fun hH => ?_)
 refine tk 0 hd8o0 ?_ rfl (by kernel_rfl) (fun c a w h => hp c a _ _ w h) (by rfl) ?_ hH ?_
 rotate_left 1
 · (intro W hSW; unfold hd8P at hSW; unfold hd8o0; first | (go_simp; done) | (go_simp; with_reducible rfl))
 try simp only [Act.put, sA, sB, sC]
 exact hd833 (t := fun k => List.getD [t0, undef, undef, undef, undef, undef, undef, undef, undef, undef, undef, undef, undef, t13, t14, t15, t16, t17, t18, t19, t20, t21, t22, t23, t24, t25, t26, t27, t28, t29, t30, t31, t32, t33, t34, t35, t36, t37, t38, t39, t40, t41, t42, t43, t44, t45, t46, t47, t48, t49, t50, t51, t52, t53, t54, t55, t56, t57, t58, t59, t60, t61, t62, t63, t64, t65, t66, t67, t68, t69, t70, t71, t72, t73, t74, t75, t76, t77, t78, t79, t80, t81, t82, t83, t84, t85, t86, t87, t88, t89, t90, t91, t92, t93, t94, t95, t96, t97, t98, t99, t100, t101, t102, t103, t104, t105, t106, t107, t108, t109, t110, t111, t112, t113, t114, t115, t116, t117, t118, t119, t120, t121, t122, t123, t124, t125, t126, t127, t128, t129, t130, t131, t132, t133, t134, t135, t136, t137, t138, t139, t140, t141, t142, t143, t144, t145, t146, t147, t148, t149, t150, t151, t152, t153, t154, t155, t156, t157, t158, t159, t160, t161, t162, t163, t164, t165, t166, t167, t168, t169, t170, t171, t172, t173, t174, t175] k undef) hp (by kernel_rfl) HB HG HQ
end
end Go.Proofs.Ythdhmflodiincaa

/- Texts of the proof: UI. -/
import Derived.Test.YthdhmflodiincaaGreatCA21
import Derived.Deep.DeepCutAuto
set_option maxRecDepth 100000
set_option maxHeartbeats 8000000
namespace Go.Proofs.YthdhmflodiincaaGreat
open Go.RowKit Go.Maps

section
set_option maxRecDepth 100000
def hN : List Gt := [(0, 0, 0)]
def hM : List Cl := [(1, 0), (5, 0)]
def hT : List Cl := [(1, 0), (2, 0), (5, 0)]
def hU : List Cl := [(1, 0), (2, 2)]
theorem h15_sq : stQ 3 hN hM (sqR 3) = (hN, hT) := by decide +kernel
theorem h15_st : stS 3 hN hM (3 - 1) = (hN, hT) := by decide +kernel
theorem h15_ac : acR 3 hN hM = (hN, 0) := by decide +kernel
theorem h15_bc : acR 2 hC hU = (hC, 3) := by decide +kernel
theorem h15_val : valE hN [] hT = [1, 2, 5] := by decide +kernel
theorem h15_f : evalC hC [false] 3 = true := by decide +kernel
theorem h15_t : evalC hC [true] 3 = false := by decide +kernel
theorem h15_sqM : Sq 3 hN hM := by
  refine ⟨⟨by unfold UpM hM; decide, fun c hc => ?_⟩, fun c hc => ?_⟩
  · simp [hM] at hc
    rcases hc with rfl | rfl <;> exact ⟨by unfold Ok hN; decide, by decide⟩
  · simp [hM] at hc
    rcases hc with rfl | rfl <;> decide
theorem h15_sqU : Sq 2 hC hU := by
  refine ⟨⟨by unfold UpM hU; decide, fun c hc => ?_⟩, fun c hc => ?_⟩
  · simp [hU] at hc
    rcases hc with rfl | rfl <;> exact ⟨by unfold Ok hC; decide, by decide⟩
  · simp [hU] at hc
    rcases hc with rfl | rfl <;> decide
end
section
variable {w : World} {a ma : Option Addr} {c mc : Nat}
theorem h15_new_at (w : World) : Calls Tryz.prog 21 #[] w fun e w' => ∃ a c, e = .returned (.agg #[.slice a 1 c]) ∧ GatesW w' a c hN ∧ w.grownBy w' none := by
  refine (rnew_calls w).mono fun e w' he => ?_
  obtain ⟨y, rfl, ⟨a, c, rfl, h⟩, g⟩ := he
  exact ⟨a, c, rfl, h, g⟩
theorem h15_sq_at (h : GatesW w a c hN) (hm : CellsW w ma mc hM) : Calls Tryz.prog 71 #[.agg #[.slice a 1 c], .int .i64 3, .agg #[.int .i64 2, .slice ma 2 mc]] w fun e w' => ∃ a c b d, e = .returned (.tuple #[.agg #[.slice a 1 c], .agg #[.int .i64 2, .slice b 3 d]]) ∧ GatesW w' a c hN ∧ CellsW w' b d hT ∧ w.grownBy w' none := by
  have h1 := squaring_calls w 3 hN hM a ma c mc 1 2 rfl rfl h hm good_new h15_sqM (by decide) (by decide) (by decide)
  rw [h15_sq] at h1
  refine h1.mono fun e w' he => ?_
  obtain ⟨a, c, b, n, d, rfl, hn, hr, hm, g⟩ := he
  obtain rfl : n = 3 := hn.symm
  exact ⟨a, c, b, d, rfl, hr, hm, g⟩
theorem h15_st_at (h : GatesW w a c hN) (hm : CellsW w ma mc hM) : Calls Tryz.prog 72 #[.agg #[.slice a 1 c], .int .i64 3, .agg #[.int .i64 2, .slice ma 2 mc]] w fun e w' => ∃ a c b d, e = .returned (.tuple #[.agg #[.slice a 1 c], .agg #[.int .i64 2, .slice b 3 d]]) ∧ GatesW w' a c hN ∧ CellsW w' b d hT ∧ w.grownBy w' none := by
  have h1 := stepwise_calls w 3 hN hM a ma c mc 1 2 rfl rfl h hm good_new h15_sqM (by decide) (by decide) (by decide)
  rw [h15_st] at h1
  refine h1.mono fun e w' he => ?_
  obtain ⟨a, c, b, n, d, rfl, hn, hr, hm, g⟩ := he
  obtain rfl : n = 3 := hn.symm
  exact ⟨a, c, b, d, rfl, hr, hm, g⟩
theorem h15_ac_at (h : GatesW w a c hN) (hm : CellsW w ma mc hM) : Calls Tryz.prog 36 #[.agg #[.slice a 1 c], .int .i64 3, .agg #[.int .i64 2, .slice ma 2 mc]] w fun e w' => ∃ a c, e = .returned (.tuple #[.agg #[.slice a 1 c], .int .i64 0]) ∧ GatesW w' a c hN ∧ w.grownBy w' none := by
  have h1 := acyclic_calls w 3 hN hM a ma c mc 1 2 rfl rfl h hm good_new h15_sqM (by decide) (by decide) (by decide)
  rw [h15_ac] at h1
  exact h1
theorem h15_bc_at (h : GatesW w a c hC) (hm : CellsW w ma mc hU) : Calls Tryz.prog 36 #[.agg #[.slice a 2 c], .int .i64 2, .agg #[.int .i64 2, .slice ma 2 mc]] w fun e w' => ∃ a c, e = .returned (.tuple #[.agg #[.slice a 2 c], .int .i64 3]) ∧ GatesW w' a c hC ∧ w.grownBy w' none := by
  have h1 := acyclic_calls w 2 hC hU a ma c mc 2 2 rfl rfl h hm h_good h15_sqU (by decide) (by decide) (by decide)
  rw [h15_bc] at h1
  exact h1
theorem h15_in_at (h : GatesW w a c hN) : Calls Tryz.prog 73 #[.agg #[.slice a 1 c], .int .i64 1] w fun e w' => ∃ a c, e = .returned (.tuple #[.agg #[.slice a 2 c], .int .i64 2]) ∧ GatesW w' a c hC ∧ w.grownBy w' none :=
  cinput_calls w hN hC 1 2 a c 1 rfl h good_new (by decide) (by decide) (by decide) h_input
theorem h15_val_at (h : GatesW w a c hN) (hm : CellsW w ma mc hT) : Calls Tryz.prog 12 #[.agg #[.slice a 1 c], .agg #[.int .i64 2, .slice ma 3 mc], .slice none 0 0] w fun e w' => ∃ b d, e = .returned (.agg #[.int .i64 2, .slice b 3 d]) ∧ IntsW w' b d [1, 2, 5] ∧ w.grownBy w' none := by
  have h1 := mvalue_calls hN hT [] 2 a c ma mc none 0 w h hm ⟨Nat.le_refl _, .inl rfl⟩ (by decide) (by decide) (by decide) (good_bounds good_new (by decide)) (by decide)
  rw [h15_val] at h1
  refine h1.mono fun e w' he => ?_
  obtain ⟨b, d, rfl, hi, hg⟩ := he
  exact ⟨b, d, rfl, hi.weak, hg⟩
theorem h15_ev_at {va : Option Addr} {vc : Nat} (b : Bool) (h : GatesW w a c hC) (hv : BoolsW w va vc [b]) : Calls Tryz.prog 38 #[.agg #[.slice a 2 c], .slice va 1 vc, .int .i64 3] w fun e w' => e = .returned (.bool (!b)) ∧ w.grownBy w' none :=
  eval_at (gs := hC) (vals := [b]) 3 (by cases b; exact h15_f; exact h15_t) (by decide) (by simp) (good_bounds h_good (by decide)) (by decide) h hv
end
abbrev hq2o0 : Oper := { dst := some 18, op := Op.call { callee := Callee.value (Operand.func 21), args := #[], argTypes := #[] }, type := 27, pos := "law.go:19", after := #[], guard := none }
abbrev hq2o1 : Oper := { dst := some 19, op := Op.load 35 (Operand.tmp 1), type := 35, pos := "law.go:19", after := #[], guard := none }
abbrev hq2o2 : Oper := { dst := some 20, op := Op.call { callee := Callee.value (Operand.func 71), args := #[Operand.tmp 18, Operand.const (Value.int IntKind.i64 3), Operand.tmp 19], argTypes := #[27, 3, 35] }, type := 42, pos := "law.go:19", after := #[{ on := 0, ground := Ground.data }, { on := 1, ground := Ground.data }, { on := 0, ground := Ground.chain }], guard := none }
abbrev hq2o3 : Oper := { dst := some 17, op := Op.move (Operand.tmp 20), type := 42, pos := "law.go:19", after := #[{ on := 2, ground := Ground.data }], guard := none }
abbrev hq2o4 : Oper := { dst := some 21, op := Op.extract (Operand.tmp 17) 0, type := 27, pos := "law.go:19", after := #[{ on := 3, ground := Ground.data }], guard := none }
abbrev hq2o5 : Oper := { dst := some 22, op := Op.extract (Operand.tmp 17) 1, type := 35, pos := "law.go:19", after := #[{ on := 3, ground := Ground.data }, { on := 8, ground := Ground.gcOnly Departure.lateStores }], guard := none }
abbrev hq2o6 : Oper := { dst := some 2, op := Op.alloc 27, type := 0, pos := "law.go:19", after := #[], guard := none }
abbrev hq2o7 : Oper := { dst := some 3, op := Op.alloc 35, type := 0, pos := "law.go:19", after := #[], guard := none }
abbrev hq2o8 : Oper := { dst := none, op := Op.store 27 (Operand.tmp 2) (Operand.tmp 21), type := 0, pos := "law.go:19", after := #[{ on := 6, ground := Ground.data }, { on := 4, ground := Ground.data }, { on := 2, ground := Ground.chain }, { on := 0, ground := Ground.phase }, { on := 1, ground := Ground.phase }, { on := 2, ground := Ground.phase }, { on := 3, ground := Ground.phase }, { on := 4, ground := Ground.phase }, { on := 5, ground := Ground.textOnly Departure.lateStores }, { on := 6, ground := Ground.phase }, { on := 7, ground := Ground.phase }], guard := none }
abbrev hq2o9 : Oper := { dst := none, op := Op.store 35 (Operand.tmp 3) (Operand.tmp 22), type := 0, pos := "law.go:19", after := #[{ on := 7, ground := Ground.data }, { on := 5, ground := Ground.data }, { on := 8, ground := Ground.chain }, { on := 0, ground := Ground.phase }, { on := 1, ground := Ground.phase }, { on := 2, ground := Ground.phase }, { on := 3, ground := Ground.phase }, { on := 4, ground := Ground.phase }, { on := 5, ground := Ground.phase }, { on := 6, ground := Ground.phase }, { on := 7, ground := Ground.phase }, { on := 8, ground := Ground.phase }], guard := none }
def hq2Ops : Array Oper := #[hq2o0, hq2o1, hq2o2, hq2o3, hq2o4, hq2o5, hq2o6, hq2o7, hq2o8, hq2o9]
def hq2P (V : World) (b1 : Nat) (a1 : Option Addr) (c1 : Nat) : World → Prop := (fun Wh : World => V.grownBy Wh none ∧ Wh.cell? ⟨b1, 0, none⟩ = some (.int .i64 2) ∧ Wh.cell? ⟨b1, 1, none⟩ = some (.slice a1 2 c1))
theorem hq2S {V W : World} {b1 : Nat} {a1 : Option Addr} {c1 : Nat} (h : XB V b1 2 a1 2 c1 hM) (HG : V.grownBy W none) : (hq2P V b1 a1 c1) W := ⟨HG, (h.grown HG).1, (h.grown HG).2.1⟩
def hq2F (Q : Exit → Act → World → Prop) (V : World) (b1 : Nat) (_a1 : Option Addr) (_c1 : Nat) : Prop := ∀ (aJ : Option Addr) (cJ : Nat) (bJ : Option Addr) (dJ : Nat) (p6 : Nat) (p7 : Nat) (u0 u4 u5 u6 u7 u8 u9 u10 u11 u12 u13 u14 u15 u16 u17 u18 u19 u20 u21 u22 u23 u24 u25 u26 u27 u28 u29 u30 u31 u32 u33 u34 u35 u36 u37 u38 u39 u40 u41 u42 u43 u44 u45 u46 u47 u48 u49 u50 u51 u52 u53 u54 u55 u56 u57 u58 u59 u60 u61 u62 u63 u64 u65 u66 u67 u68 u69 u70 u71 u72 u73 u74 u75 u76 u77 u78 u79 u80 u81 u82 u83 u84 u85 u86 u87 u88 u89 u90 u91 u92 u93 : Value) (W : World), V.grownBy W none → V.heap.size ≤ p6 → V.heap.size ≤ p7 → CB W p6 aJ cJ hN → XB W p7 2 bJ 3 dJ hT → Q .normal ⟨#[u0, .pointer (some ⟨b1, 0, none⟩), .pointer (some ⟨p6, 0, none⟩), .pointer (some ⟨p7, 0, none⟩), u4, u5, u6, u7, u8, u9, u10, u11, u12, u13, u14, u15, u16, u17, u18, u19, u20, u21, u22, u23, u24, u25, u26, u27, u28, u29, u30, u31, u32, u33, u34, u35, u36, u37, u38, u39, u40, u41, u42, u43, u44, u45, u46, u47, u48, u49, u50, u51, u52, u53, u54, u55, u56, u57, u58, u59, u60, u61, u62, u63, u64, u65, u66, u67, u68, u69, u70, u71, u72, u73, u74, u75, u76, u77, u78, u79, u80, u81, u82, u83, u84, u85, u86, u87, u88, u89, u90, u91, u92, u93], []⟩ W
def hq2f (t : Nat → Value) (b1 : Nat) (_a1 : Option Addr) (_c1 : Nat) (v2 v3 v17 v18 v19 v20 v21 v22 : Value) : Act := ⟨#[t 0, .pointer (some ⟨b1, 0, none⟩), v2, v3, t 4, t 5, t 6, t 7, t 8, t 9, t 10, t 11, t 12, t 13, t 14, t 15, t 16, v17, v18, v19, v20, v21, v22, t 23, t 24, t 25, t 26, t 27, t 28, t 29, t 30, t 31, t 32, t 33, t 34, t 35, t 36, t 37, t 38, t 39, t 40, t 41, t 42, t 43, t 44, t 45, t 46, t 47, t 48, t 49, t 50, t 51, t 52, t 53, t 54, t 55, t 56, t 57, t 58, t 59, t 60, t 61, t 62, t 63, t 64, t 65, t 66, t 67, t 68, t 69, t 70, t 71, t 72, t 73, t 74, t 75, t 76, t 77, t 78, t 79, t 80, t 81, t 82, t 83, t 84, t 85, t 86, t 87, t 88, t 89, t 90, t 91, t 92, t 93], []⟩
section
variable {Q : Exit → Act → World → Prop} {V W : World} {b1 : Nat} {a1 : Option Addr} {c1 : Nat} {L : Array Bool} {t : Nat → Value}
theorem hq20 (_hp : ∀ c a d v w, Q (.panic c) (Act.put a d v) w → Q (.panic c) a w) {a0 : Option Addr} {c0 : Nat} {aJ : Option Addr} {cJ : Nat} {bJ : Option Addr} {dJ : Nat} {p6 : Nat} {p7 : Nat} (hl : L = #[true, true, true, true, true, true, true, true, true, true]) (_HB : Hid (XB V b1 2 a1 2 c1 hM)) (HG : V.grownBy W none) (l_z : V.heap.size ≤ p6) (l_y : V.heap.size ≤ p7) (cb : CB W p6 aJ cJ hN) (xb : XB W p7 2 bJ 3 dJ hT) (HQ : Hid (hq2F Q V b1 a1 c1)) :
    wpAnyH Tryz.prog .any hq2Ops Q (hq2P V b1 a1 c1) 0 L (hq2f t b1 a1 c1 (.pointer (some ⟨p6, 0, none⟩)) (.pointer (some ⟨p7, 0, none⟩)) (.tuple #[.agg #[.slice aJ 1 cJ], .agg #[.int .i64 2, .slice bJ 3 dJ]]) (.agg #[.slice a0 1 c0]) (.agg #[.int .i64 2, .slice a1 2 c1]) (.tuple #[.agg #[.slice aJ 1 cJ], .agg #[.int .i64 2, .slice bJ 3 dJ]]) (.agg #[.slice aJ 1 cJ]) (.agg #[.int .i64 2, .slice bJ 3 dJ])) W := by
  subst hl
  unfold hq2f
  refine wpAnyH_done (by kernel_rfl) ?_ _
  exact HQ.out _ _ _ _ _ _ _ _ _ _ _ _ _ _ _ _ _ _ _ _ _ _ _ _ _ _ _ _ _ _ _ _ _ _ _ _ _ _ _ _ _ _ _ _ _ _ _ _ _ _ _ _ _ _ _ _ _ _ _ _ _ _ _ _ _ _ _ _ _ _ _ _ _ _ _ _ _ _ _ _ _ _ _ _ _ _ _ _ _ _ _ _ _ _ _ _ _ _ HG l_z l_y cb xb

theorem hq21 (hp : ∀ c a d v w, Q (.panic c) (Act.put a d v) w → Q (.panic c) a w) {a0 : Option Addr} {c0 : Nat} {aJ : Option Addr} {cJ : Nat} {bJ : Option Addr} {dJ : Nat} {p6 : Nat} {p7 : Nat} (hl : L = #[true, true, true, true, true, true, true, true, true, false]) (HB : Hid (XB V b1 2 a1 2 c1 hM)) (HG : V.grownBy W none) (mJ : CellsW W bJ dJ hT) (l_z : V.heap.size ≤ p6) (y : XZ W p7) (l_y : V.heap.size ≤ p7) (cb : CB W p6 aJ cJ hN) (HQ : Hid (hq2F Q V b1 a1 c1)) :
    wpAnyH Tryz.prog .any hq2Ops Q (hq2P V b1 a1 c1) 1 L (hq2f t b1 a1 c1 (.pointer (some ⟨p6, 0, none⟩)) (.pointer (some ⟨p7, 0, none⟩)) (.tuple #[.agg #[.slice aJ 1 cJ], .agg #[.int .i64 2, .slice bJ 3 dJ]]) (.agg #[.slice a0 1 c0]) (.agg #[.int .i64 2, .slice a1 2 c1]) (.tuple #[.agg #[.slice aJ 1 cJ], .agg #[.int .i64 2, .slice bJ 3 dJ]]) (.agg #[.slice aJ 1 cJ]) (.agg #[.int .i64 2, .slice bJ 3 dJ])) W := by
  subst hl
  unfold hq2f
  refine wpAnyH_ready (rs := [9]) (by kernel_rfl) (by simp) ?_
  refine (AllReadyH.cons (o := hq2o9) rfl (fun K hK => ?_) AllReadyH.nil)
  rw [if_pos (by rfl)]
  unfold hq2o9
  have y0 := y.1
  have y1 := y.2.1
  have y2 := y.2.2.1
  have y3 := y.2.2.2
  go_simp
  have xb := (show XB (laidX W p7 (.int .i64 2) (.slice bJ 3 dJ)) p7 2 bJ 3 dJ hT from XZ.put y 2 mJ rfl)
  replace cb := XZ.cb y (.int .i64 2) (.slice bJ 3 dJ) cb
  replace HG := XZ.grows HG l_y (.int .i64 2) (.slice bJ 3 dJ)
  clear y mJ
  unfold laidX at HG cb xb
  obtain ⟨U, hU⟩ : ∃ U, (W.setCell ⟨p7, 0, none⟩ (.int .i64 2)).setCell ⟨p7, 1, none⟩ (.slice bJ 3 dJ) = U := ⟨_, rfl⟩
  rw [hU] at HG cb xb ⊢
  clear hU
  refine hK.out _ _ (hq2S HB.out HG) (fun hHeld => ?_)
  clear hK K
  try simp only [sA, sB, sC]
  exact hq20 hp (by kernel_rfl) HB HG l_z l_y cb xb HQ

theorem hq22 (hp : ∀ c a d v w, Q (.panic c) (Act.put a d v) w → Q (.panic c) a w) {a0 : Option Addr} {c0 : Nat} {aJ : Option Addr} {cJ : Nat} {bJ : Option Addr} {dJ : Nat} {p6 : Nat} {p7 : Nat} (hl : L = #[true, true, true, true, true, true, true, true, false, false]) (HB : Hid (XB V b1 2 a1 2 c1 hM)) (HG : V.grownBy W none) (gJ : GatesW W aJ cJ hN) (mJ : CellsW W bJ dJ hT) (z : BoxZ W p6) (l_z : V.heap.size ≤ p6) (y : XZ W p7) (l_y : V.heap.size ≤ p7) (HQ : Hid (hq2F Q V b1 a1 c1)) :
    wpAnyH Tryz.prog .any hq2Ops Q (hq2P V b1 a1 c1) 2 L (hq2f t b1 a1 c1 (.pointer (some ⟨p6, 0, none⟩)) (.pointer (some ⟨p7, 0, none⟩)) (.tuple #[.agg #[.slice aJ 1 cJ], .agg #[.int .i64 2, .slice bJ 3 dJ]]) (.agg #[.slice a0 1 c0]) (.agg #[.int .i64 2, .slice a1 2 c1]) (.tuple #[.agg #[.slice aJ 1 cJ], .agg #[.int .i64 2, .slice bJ 3 dJ]]) (.agg #[.slice aJ 1 cJ]) (.agg #[.int .i64 2, .slice bJ 3 dJ])) W := by
  subst hl
  unfold hq2f
  refine wpAnyH_ready (rs := [8]) (by kernel_rfl) (by simp) ?_
  refine (AllReadyH.cons (o := hq2o8) rfl (fun K hK => ?_) AllReadyH.nil)
  rw [if_pos (by rfl)]
  unfold hq2o8
  have z0 := z.1
  have zf := z.2
  go_simp
  have cb := (show CB (W.setCell ⟨p6, 0, none⟩ (.slice aJ 1 cJ)) p6 aJ cJ hN from CB.put gJ z.1 z.2)
  replace mJ := CellsW.setB z (.slice aJ 1 cJ) mJ
  replace y := XZ.set y z (.slice aJ 1 cJ)
  replace HG := grown_own HG (grown_set W p6 0 (.slice aJ 1 cJ)) (fun k e => by cases e; exact l_z)
  clear gJ z
  obtain ⟨U, hU⟩ : ∃ U, W.setCell ⟨p6, 0, none⟩ (.slice aJ 1 cJ) = U := ⟨_, rfl⟩
  rw [hU] at HG mJ y cb ⊢
  clear hU
  refine hK.out _ _ (hq2S HB.out HG) (fun hHeld => ?_)
  clear hK K
  try simp only [sA, sB, sC]
  exact hq21 hp (by kernel_rfl) HB HG mJ l_z y l_y cb HQ

theorem hq23 (hp : ∀ c a d v w, Q (.panic c) (Act.put a d v) w → Q (.panic c) a w) {a0 : Option Addr} {c0 : Nat} {aJ : Option Addr} {cJ : Nat} {bJ : Option Addr} {dJ : Nat} {p6 : Nat} (hl : L = #[true, true, true, true, true, true, true, false, false, false]) (HB : Hid (XB V b1 2 a1 2 c1 hM)) (HG : V.grownBy W none) (gJ : GatesW W aJ cJ hN) (mJ : CellsW W bJ dJ hT) (z : BoxZ W p6) (l_z : V.heap.size ≤ p6) (HQ : Hid (hq2F Q V b1 a1 c1)) :
    wpAnyH Tryz.prog .any hq2Ops Q (hq2P V b1 a1 c1) 3 L (hq2f t b1 a1 c1 (.pointer (some ⟨p6, 0, none⟩)) (t 3) (.tuple #[.agg #[.slice aJ 1 cJ], .agg #[.int .i64 2, .slice bJ 3 dJ]]) (.agg #[.slice a0 1 c0]) (.agg #[.int .i64 2, .slice a1 2 c1]) (.tuple #[.agg #[.slice aJ 1 cJ], .agg #[.int .i64 2, .slice bJ 3 dJ]]) (.agg #[.slice aJ 1 cJ]) (.agg #[.int .i64 2, .slice bJ 3 dJ])) W := by
  subst hl
  unfold hq2f
  refine wpAnyH_ready (rs := [7]) (by kernel_rfl) (by simp) ?_
  refine (AllReadyH.cons (o := hq2o7) rfl (fun K hK => ?_) AllReadyH.nil)
  rw [if_pos (by rfl)]
  unfold hq2o7
  go_simp
  have hg := World.grownBy_alloc W (.cells #[.int .i64 0, .slice none 0 0] 35) none
  have y := XZ.new W
  have l_y := World.grownBy.size HG
  replace gJ := gJ.grown hg
  replace mJ := mJ.grown hg
  replace z := z.grown hg
  replace HG := World.grownBy.trans HG hg
  obtain ⟨U, hU⟩ : ∃ U, W.alloc (.cells #[.int .i64 0, .slice none 0 0] 35) = U := ⟨_, rfl⟩
  rw [hU] at HG gJ mJ z y ⊢
  clear hU hg
  refine hK.out _ _ (hq2S HB.out HG) (fun hHeld => ?_)
  clear hK K
  try simp only [sA, sB, sC]
  exact hq22 hp (by kernel_rfl) HB HG gJ mJ z l_z y l_y HQ

theorem hq24 (hp : ∀ c a d v w, Q (.panic c) (Act.put a d v) w → Q (.panic c) a w) {a0 : Option Addr} {c0 : Nat} {aJ : Option Addr} {cJ : Nat} {bJ : Option Addr} {dJ : Nat} {p7 : Nat} (hl : L = #[true, true, true, true, true, true, false, true, false, false]) (HB : Hid (XB V b1 2 a1 2 c1 hM)) (HG : V.grownBy W none) (gJ : GatesW W aJ cJ hN) (mJ : CellsW W bJ dJ hT) (y : XZ W p7) (l_y : V.heap.size ≤ p7) (HQ : Hid (hq2F Q V b1 a1 c1)) :
    wpAnyH Tryz.prog .any hq2Ops Q (hq2P V b1 a1 c1) 3 L (hq2f t b1 a1 c1 (t 2) (.pointer (some ⟨p7, 0, none⟩)) (.tuple #[.agg #[.slice aJ 1 cJ], .agg #[.int .i64 2, .slice bJ 3 dJ]]) (.agg #[.slice a0 1 c0]) (.agg #[.int .i64 2, .slice a1 2 c1]) (.tuple #[.agg #[.slice aJ 1 cJ], .agg #[.int .i64 2, .slice bJ 3 dJ]]) (.agg #[.slice aJ 1 cJ]) (.agg #[.int .i64 2, .slice bJ 3 dJ])) W := by
  subst hl
  unfold hq2f
  refine wpAnyH_ready (rs := [6]) (by kernel_rfl) (by simp) ?_
  refine (AllReadyH.cons (o := hq2o6) rfl (fun K hK => ?_) AllReadyH.nil)
  rw [if_pos (by rfl)]
  unfold hq2o6
  go_simp
  have hg := World.grownBy_alloc W (.cells #[.slice none 0 0] 27) none
  have z := BoxZ.new W
  have l_z := World.grownBy.size HG
  replace gJ := gJ.grown hg
  replace mJ := mJ.grown hg
  replace y := y.grown hg
  replace HG := World.grownBy.trans HG hg
  obtain ⟨U, hU⟩ : ∃ U, W.alloc (.cells #[.slice none 0 0] 27) = U := ⟨_, rfl⟩
  rw [hU] at HG gJ mJ y z ⊢
  clear hU hg
  refine hK.out _ _ (hq2S HB.out HG) (fun hHeld => ?_)
  clear hK K
  try simp only [sA, sB, sC]
  exact hq22 hp (by kernel_rfl) HB HG gJ mJ z l_z y l_y HQ

theorem hq25 (hp : ∀ c a d v w, Q (.panic c) (Act.put a d v) w → Q (.panic c) a w) {a0 : Option Addr} {c0 : Nat} {aJ : Option Addr} {cJ : Nat} {bJ : Option Addr} {dJ : Nat} (hl : L = #[true, true, true, true, true, true, false, false, false, false]) (HB : Hid (XB V b1 2 a1 2 c1 hM)) (HG : V.grownBy W none) (gJ : GatesW W aJ cJ hN) (mJ : CellsW W bJ dJ hT) (HQ : Hid (hq2F Q V b1 a1 c1)) :
    wpAnyH Tryz.prog .any hq2Ops Q (hq2P V b1 a1 c1) 4 L (hq2f t b1 a1 c1 (t 2) (t 3) (.tuple #[.agg #[.slice aJ 1 cJ], .agg #[.int .i64 2, .slice bJ 3 dJ]]) (.agg #[.slice a0 1 c0]) (.agg #[.int .i64 2, .slice a1 2 c1]) (.tuple #[.agg #[.slice aJ 1 cJ], .agg #[.int .i64 2, .slice bJ 3 dJ]]) (.agg #[.slice aJ 1 cJ]) (.agg #[.int .i64 2, .slice bJ 3 dJ])) W := by
  subst hl
  unfold hq2f
  refine wpAnyH_ready (rs := [6, 7]) (by kernel_rfl) (by simp) ?_
  refine (AllReadyH.cons (o := hq2o6) rfl (fun K hK => ?_) (AllReadyH.cons (o := hq2o7) rfl (fun K hK => ?_) AllReadyH.nil))
  · rw [if_pos (by rfl)]
    unfold hq2o6
    go_simp
    have hg := World.grownBy_alloc W (.cells #[.slice none 0 0] 27) none
    have z := BoxZ.new W
    have l_z := World.grownBy.size HG
    replace gJ := gJ.grown hg
    replace mJ := mJ.grown hg
    replace HG := World.grownBy.trans HG hg
    obtain ⟨U, hU⟩ : ∃ U, W.alloc (.cells #[.slice none 0 0] 27) = U := ⟨_, rfl⟩
    rw [hU] at HG gJ mJ z ⊢
    clear hU hg
    refine hK.out _ _ (hq2S HB.out HG) (fun hHeld => ?_)
    clear hK K
    try simp only [sA, sB, sC]
    exact hq23 hp (by kernel_rfl) HB HG gJ mJ z l_z HQ
  · rw [if_pos (by rfl)]
    unfold hq2o7
    go_simp
    have hg := World.grownBy_alloc W (.cells #[.int .i64 0, .slice none 0 0] 35) none
    have y := XZ.new W
    have l_y := World.grownBy.size HG
    replace gJ := gJ.grown hg
    replace mJ := mJ.grown hg
    replace HG := World.grownBy.trans HG hg
    obtain ⟨U, hU⟩ : ∃ U, W.alloc (.cells #[.int .i64 0, .slice none 0 0] 35) = U := ⟨_, rfl⟩
    rw [hU] at HG gJ mJ y ⊢
    clear hU hg
    refine hK.out _ _ (hq2S HB.out HG) (fun hHeld => ?_)
    clear hK K
    try simp only [sA, sB, sC]
    exact hq24 hp (by kernel_rfl) HB HG gJ mJ y l_y HQ

theorem hq26 (hp : ∀ c a d v w, Q (.panic c) (Act.put a d v) w → Q (.panic c) a w) {a0 : Option Addr} {c0 : Nat} {p6 : Nat} {p7 : Nat} (hl : L = #[true, true, false, false, false, false, true, true, false, false]) (HB : Hid (XB V b1 2 a1 2 c1 hM)) (HG : V.grownBy W none) (k0 : GatesW W a0 c0 hN) (z : BoxZ W p6) (l_z : V.heap.size ≤ p6) (y : XZ W p7) (l_y : V.heap.size ≤ p7) (HQ : Hid (hq2F Q V b1 a1 c1)) :
    wpAnyH Tryz.prog .any hq2Ops Q (hq2P V b1 a1 c1) 6 L (hq2f t b1 a1 c1 (.pointer (some ⟨p6, 0, none⟩)) (.pointer (some ⟨p7, 0, none⟩)) (t 17) (.agg #[.slice a0 1 c0]) (.agg #[.int .i64 2, .slice a1 2 c1]) (t 20) (t 21) (t 22)) W := by
  subst hl
  unfold hq2f
  refine wpAnyH_ready (rs := [2]) (by kernel_rfl) (by simp) ?_
  refine (AllReadyH.cons (o := hq2o2) rfl (fun K hK => ?_) AllReadyH.nil)
  rw [if_pos (by rfl)]
  unfold hq2o2
  go_simp
  go_at_call 71
  refine (h15_sq_at k0 (HB.out.grown HG).2.2.2).mono ?_
  rintro e U ⟨aJ, cJ, bJ, dJ, rfl, gJ, mJ, g⟩
  replace z := z.grown g
  replace y := y.grown g
  replace HG := World.grownBy.trans HG g
  clear g
  go_wp2_with fail
  refine hK.out _ _ (hq2S HB.out HG) (fun hHeld => ?_)
  clear hK K
  try simp only [sA, sB, sC]
  refine tk 3 hq2o3 ?_ rfl (by kernel_rfl) (fun c a w h => hp c a _ _ w h) (by rfl) ?_ hHeld ?_
  rotate_left 1
  · (intro W hSW; unfold hq2P at hSW; unfold hq2o3; first | (go_simp; done) | (go_simp; with_reducible rfl))
  try simp only [Act.put, sA, sB, sC]
  refine tk 4 hq2o4 ?_ rfl (by kernel_rfl) (fun c a w h => hp c a _ _ w h) (by rfl) ?_ hHeld ?_
  rotate_left 1
  · (intro W hSW; unfold hq2P at hSW; unfold hq2o4; first | (go_simp; done) | (go_simp; with_reducible rfl))
  try simp only [Act.put, sA, sB, sC]
  refine tk 5 hq2o5 ?_ rfl (by kernel_rfl) (fun c a w h => hp c a _ _ w h) (by rfl) ?_ hHeld ?_
  rotate_left 1
  · (intro W hSW; unfold hq2P at hSW; unfold hq2o5; first | (go_simp; done) | (go_simp; with_reducible rfl))
  try simp only [Act.put, sA, sB, sC]
  exact hq22 hp (by kernel_rfl) HB HG gJ mJ z l_z y l_y HQ

theorem hq27 (hp : ∀ c a d v w, Q (.panic c) (Act.put a d v) w → Q (.panic c) a w) {a0 : Option Addr} {c0 : Nat} {p6 : Nat} (hl : L = #[true, true, false, false, false, false, true, false, false, false]) (HB : Hid (XB V b1 2 a1 2 c1 hM)) (HG : V.grownBy W none) (k0 : GatesW W a0 c0 hN) (z : BoxZ W p6) (l_z : V.heap.size ≤ p6) (HQ : Hid (hq2F Q V b1 a1 c1)) :
    wpAnyH Tryz.prog .any hq2Ops Q (hq2P V b1 a1 c1) 7 L (hq2f t b1 a1 c1 (.pointer (some ⟨p6, 0, none⟩)) (t 3) (t 17) (.agg #[.slice a0 1 c0]) (.agg #[.int .i64 2, .slice a1 2 c1]) (t 20) (t 21) (t 22)) W := by
  subst hl
  unfold hq2f
  refine wpAnyH_ready (rs := [2, 7]) (by kernel_rfl) (by simp) ?_
  refine (AllReadyH.cons (o := hq2o2) rfl (fun K hK => ?_) (AllReadyH.cons (o := hq2o7) rfl (fun K hK => ?_) AllReadyH.nil))
  · rw [if_pos (by rfl)]
    unfold hq2o2
    go_simp
    go_at_call 71
    refine (h15_sq_at k0 (HB.out.grown HG).2.2.2).mono ?_
    rintro e U ⟨aJ, cJ, bJ, dJ, rfl, gJ, mJ, g⟩
    replace z := z.grown g
    replace HG := World.grownBy.trans HG g
    clear g
    go_wp2_with fail
    refine hK.out _ _ (hq2S HB.out HG) (fun hHeld => ?_)
    clear hK K
    try simp only [sA, sB, sC]
    refine tk 3 hq2o3 ?_ rfl (by kernel_rfl) (fun c a w h => hp c a _ _ w h) (by rfl) ?_ hHeld ?_
    rotate_left 1
    · (intro W hSW; unfold hq2P at hSW; unfold hq2o3; first | (go_simp; done) | (go_simp; with_reducible rfl))
    try simp only [Act.put, sA, sB, sC]
    refine tk 4 hq2o4 ?_ rfl (by kernel_rfl) (fun c a w h => hp c a _ _ w h) (by rfl) ?_ hHeld ?_
    rotate_left 1
    · (intro W hSW; unfold hq2P at hSW; unfold hq2o4; first | (go_simp; done) | (go_simp; with_reducible rfl))
    try simp only [Act.put, sA, sB, sC]
    refine tk 5 hq2o5 ?_ rfl (by kernel_rfl) (fun c a w h => hp c a _ _ w h) (by rfl) ?_ hHeld ?_
    rotate_left 1
    · (intro W hSW; unfold hq2P at hSW; unfold hq2o5; first | (go_simp; done) | (go_simp; with_reducible rfl))
    try simp only [Act.put, sA, sB, sC]
    exact hq23 hp (by kernel_rfl) HB HG gJ mJ z l_z HQ
  · rw [if_pos (by rfl)]
    unfold hq2o7
    go_simp
    have hg := World.grownBy_alloc W (.cells #[.int .i64 0, .slice none 0 0] 35) none
    have y := XZ.new W
    have l_y := World.grownBy.size HG
    replace k0 := k0.grown hg
    replace z := z.grown hg
    replace HG := World.grownBy.trans HG hg
    obtain ⟨U, hU⟩ : ∃ U, W.alloc (.cells #[.int .i64 0, .slice none 0 0] 35) = U := ⟨_, rfl⟩
    rw [hU] at HG k0 z y ⊢
    clear hU hg
    refine hK.out _ _ (hq2S HB.out HG) (fun hHeld => ?_)
    clear hK K
    try simp only [sA, sB, sC]
    exact hq26 hp (by kernel_rfl) HB HG k0 z l_z y l_y HQ

theorem hq28 (hp : ∀ c a d v w, Q (.panic c) (Act.put a d v) w → Q (.panic c) a w) {a0 : Option Addr} {c0 : Nat} {p7 : Nat} (hl : L = #[true, true, false, false, false, false, false, true, false, false]) (HB : Hid (XB V b1 2 a1 2 c1 hM)) (HG : V.grownBy W none) (k0 : GatesW W a0 c0 hN) (y : XZ W p7) (l_y : V.heap.size ≤ p7) (HQ : Hid (hq2F Q V b1 a1 c1)) :
    wpAnyH Tryz.prog .any hq2Ops Q (hq2P V b1 a1 c1) 7 L (hq2f t b1 a1 c1 (t 2) (.pointer (some ⟨p7, 0, none⟩)) (t 17) (.agg #[.slice a0 1 c0]) (.agg #[.int .i64 2, .slice a1 2 c1]) (t 20) (t 21) (t 22)) W := by
  subst hl
  unfold hq2f
  refine wpAnyH_ready (rs := [2, 6]) (by kernel_rfl) (by simp) ?_
  refine (AllReadyH.cons (o := hq2o2) rfl (fun K hK => ?_) (AllReadyH.cons (o := hq2o6) rfl (fun K hK => ?_) AllReadyH.nil))
  · rw [if_pos (by rfl)]
    unfold hq2o2
    go_simp
    go_at_call 71
    refine (h15_sq_at k0 (HB.out.grown HG).2.2.2).mono ?_
    rintro e U ⟨aJ, cJ, bJ, dJ, rfl, gJ, mJ, g⟩
    replace y := y.grown g
    replace HG := World.grownBy.trans HG g
    clear g
    go_wp2_with fail
    refine hK.out _ _ (hq2S HB.out HG) (fun hHeld => ?_)
    clear hK K
    try simp only [sA, sB, sC]
    refine tk 3 hq2o3 ?_ rfl (by kernel_rfl) (fun c a w h => hp c a _ _ w h) (by rfl) ?_ hHeld ?_
    rotate_left 1
    · (intro W hSW; unfold hq2P at hSW; unfold hq2o3; first | (go_simp; done) | (go_simp; with_reducible rfl))
    try simp only [Act.put, sA, sB, sC]
    refine tk 4 hq2o4 ?_ rfl (by kernel_rfl) (fun c a w h => hp c a _ _ w h) (by rfl) ?_ hHeld ?_
    rotate_left 1
    · (intro W hSW; unfold hq2P at hSW; unfold hq2o4; first | (go_simp; done) | (go_simp; with_reducible rfl))
    try simp only [Act.put, sA, sB, sC]
    refine tk 5 hq2o5 ?_ rfl (by kernel_rfl) (fun c a w h => hp c a _ _ w h) (by rfl) ?_ hHeld ?_
    rotate_left 1
    · (intro W hSW; unfold hq2P at hSW; unfold hq2o5; first | (go_simp; done) | (go_simp; with_reducible rfl))
    try simp only [Act.put, sA, sB, sC]
    exact hq24 hp (by kernel_rfl) HB HG gJ mJ y l_y HQ
  · rw [if_pos (by rfl)]
    unfold hq2o6
    go_simp
    have hg := World.grownBy_alloc W (.cells #[.slice none 0 0] 27) none
    have z := BoxZ.new W
    have l_z := World.grownBy.size HG
    replace k0 := k0.grown hg
    replace y := y.grown hg
    replace HG := World.grownBy.trans HG hg
    obtain ⟨U, hU⟩ : ∃ U, W.alloc (.cells #[.slice none 0 0] 27) = U := ⟨_, rfl⟩
    rw [hU] at HG k0 y z ⊢
    clear hU hg
    refine hK.out _ _ (hq2S HB.out HG) (fun hHeld => ?_)
    clear hK K
    try simp only [sA, sB, sC]
    exact hq26 hp (by kernel_rfl) HB HG k0 z l_z y l_y HQ

theorem hq29 (hp : ∀ c a d v w, Q (.panic c) (Act.put a d v) w → Q (.panic c) a w) {a0 : Option Addr} {c0 : Nat} (hl : L = #[true, true, false, false, false, false, false, false, false, false]) (HB : Hid (XB V b1 2 a1 2 c1 hM)) (HG : V.grownBy W none) (k0 : GatesW W a0 c0 hN) (HQ : Hid (hq2F Q V b1 a1 c1)) :
    wpAnyH Tryz.prog .any hq2Ops Q (hq2P V b1 a1 c1) 8 L (hq2f t b1 a1 c1 (t 2) (t 3) (t 17) (.agg #[.slice a0 1 c0]) (.agg #[.int .i64 2, .slice a1 2 c1]) (t 20) (t 21) (t 22)) W := by
  subst hl
  unfold hq2f
  refine wpAnyH_ready (rs := [2, 6, 7]) (by kernel_rfl) (by simp) ?_
  refine (AllReadyH.cons (o := hq2o2) rfl (fun K hK => ?_) (AllReadyH.cons (o := hq2o6) rfl (fun K hK => ?_) (AllReadyH.cons (o := hq2o7) rfl (fun K hK => ?_) AllReadyH.nil)))
  · rw [if_pos (by rfl)]
    unfold hq2o2
    go_simp
    go_at_call 71
    refine (h15_sq_at k0 (HB.out.grown HG).2.2.2).mono ?_
    rintro e U ⟨aJ, cJ, bJ, dJ, rfl, gJ, mJ, g⟩
    replace HG := World.grownBy.trans HG g
    clear g
    go_wp2_with fail
    refine hK.out _ _ (hq2S HB.out HG) (fun hHeld => ?_)
    clear hK K
    try simp only [sA, sB, sC]
    refine tk 3 hq2o3 ?_ rfl (by kernel_rfl) (fun c a w h => hp c a _ _ w h) (by rfl) ?_ hHeld ?_
    rotate_left 1
    · (intro W hSW; unfold hq2P at hSW; unfold hq2o3; first | (go_simp; done) | (go_simp; with_reducible rfl))
    try simp only [Act.put, sA, sB, sC]
    refine tk 4 hq2o4 ?_ rfl (by kernel_rfl) (fun c a w h => hp c a _ _ w h) (by rfl) ?_ hHeld ?_
    rotate_left 1
    · (intro W hSW; unfold hq2P at hSW; unfold hq2o4; first | (go_simp; done) | (go_simp; with_reducible rfl))
    try simp only [Act.put, sA, sB, sC]
    refine tk 5 hq2o5 ?_ rfl (by kernel_rfl) (fun c a w h => hp c a _ _ w h) (by rfl) ?_ hHeld ?_
    rotate_left 1
    · (intro W hSW; unfold hq2P at hSW; unfold hq2o5; first | (go_simp; done) | (go_simp; with_reducible rfl))
    try simp only [Act.put, sA, sB, sC]
    exact hq25 hp (by kernel_rfl) HB HG gJ mJ HQ
  · rw [if_pos (by rfl)]
    unfold hq2o6
    go_simp
    have hg := World.grownBy_alloc W (.cells #[.slice none 0 0] 27) none
    have z := BoxZ.new W
    have l_z := World.grownBy.size HG
    replace k0 := k0.grown hg
    replace HG := World.grownBy.trans HG hg
    obtain ⟨U, hU⟩ : ∃ U, W.alloc (.cells #[.slice none 0 0] 27) = U := ⟨_, rfl⟩
    rw [hU] at HG k0 z ⊢
    clear hU hg
    refine hK.out _ _ (hq2S HB.out HG) (fun hHeld => ?_)
    clear hK K
    try simp only [sA, sB, sC]
    exact hq27 hp (by kernel_rfl) HB HG k0 z l_z HQ
  · rw [if_pos (by rfl)]
    unfold hq2o7
    go_simp
    have hg := World.grownBy_alloc W (.cells #[.int .i64 0, .slice none 0 0] 35) none
    have y := XZ.new W
    have l_y := World.grownBy.size HG
    replace k0 := k0.grown hg
    replace HG := World.grownBy.trans HG hg
    obtain ⟨U, hU⟩ : ∃ U, W.alloc (.cells #[.int .i64 0, .slice none 0 0] 35) = U := ⟨_, rfl⟩
    rw [hU] at HG k0 y ⊢
    clear hU hg
    refine hK.out _ _ (hq2S HB.out HG) (fun hHeld => ?_)
    clear hK K
    try simp only [sA, sB, sC]
    exact hq28 hp (by kernel_rfl) HB HG k0 y l_y HQ

theorem hq210 (hp : ∀ c a d v w, Q (.panic c) (Act.put a d v) w → Q (.panic c) a w) {p6 : Nat} {p7 : Nat} (hl : L = #[false, true, false, false, false, false, true, true, false, false]) (HB : Hid (XB V b1 2 a1 2 c1 hM)) (HG : V.grownBy W none) (z : BoxZ W p6) (l_z : V.heap.size ≤ p6) (y : XZ W p7) (l_y : V.heap.size ≤ p7) (HQ : Hid (hq2F Q V b1 a1 c1)) :
    wpAnyH Tryz.prog .any hq2Ops Q (hq2P V b1 a1 c1) 7 L (hq2f t b1 a1 c1 (.pointer (some ⟨p6, 0, none⟩)) (.pointer (some ⟨p7, 0, none⟩)) (t 17) (t 18) (.agg #[.int .i64 2, .slice a1 2 c1]) (t 20) (t 21) (t 22)) W := by
  subst hl
  unfold hq2f
  refine wpAnyH_ready (rs := [0]) (by kernel_rfl) (by simp) ?_
  refine (AllReadyH.cons (o := hq2o0) rfl (fun K hK => ?_) AllReadyH.nil)
  rw [if_pos (by rfl)]
  unfold hq2o0
  go_simp
  go_at_call 21
  refine (h15_new_at W).mono ?_
  rintro e U ⟨a0, c0, rfl, k0, g⟩
  replace z := z.grown g
  replace y := y.grown g
  replace HG := World.grownBy.trans HG g
  clear g
  go_wp2_with fail
  refine hK.out _ _ (hq2S HB.out HG) (fun hHeld => ?_)
  clear hK K
  try simp only [sA, sB]
  exact hq26 hp (by kernel_rfl) HB HG k0 z l_z y l_y HQ

theorem hq211 (hp : ∀ c a d v w, Q (.panic c) (Act.put a d v) w → Q (.panic c) a w) {p6 : Nat} (hl : L = #[false, true, false, false, false, false, true, false, false, false]) (HB : Hid (XB V b1 2 a1 2 c1 hM)) (HG : V.grownBy W none) (z : BoxZ W p6) (l_z : V.heap.size ≤ p6) (HQ : Hid (hq2F Q V b1 a1 c1)) :
    wpAnyH Tryz.prog .any hq2Ops Q (hq2P V b1 a1 c1) 8 L (hq2f t b1 a1 c1 (.pointer (some ⟨p6, 0, none⟩)) (t 3) (t 17) (t 18) (.agg #[.int .i64 2, .slice a1 2 c1]) (t 20) (t 21) (t 22)) W := by
  subst hl
  unfold hq2f
  refine wpAnyH_ready (rs := [0, 7]) (by kernel_rfl) (by simp) ?_
  refine (AllReadyH.cons (o := hq2o0) rfl (fun K hK => ?_) (AllReadyH.cons (o := hq2o7) rfl (fun K hK => ?_) AllReadyH.nil))
  · rw [if_pos (by rfl)]
    unfold hq2o0
    go_simp
    go_at_call 21
    refine (h15_new_at W).mono ?_
    rintro e U ⟨a0, c0, rfl, k0, g⟩
    replace z := z.grown g
    replace HG := World.grownBy.trans HG g
    clear g
    go_wp2_with fail
    refine hK.out _ _ (hq2S HB.out HG) (fun hHeld => ?_)
    clear hK K
    try simp only [sA, sB]
    exact hq27 hp (by kernel_rfl) HB HG k0 z l_z HQ
  · rw [if_pos (by rfl)]
    unfold hq2o7
    go_simp
    have hg := World.grownBy_alloc W (.cells #[.int .i64 0, .slice none 0 0] 35) none
    have y := XZ.new W
    have l_y := World.grownBy.size HG
    replace z := z.grown hg
    replace HG := World.grownBy.trans HG hg
    obtain ⟨U, hU⟩ : ∃ U, W.alloc (.cells #[.int .i64 0, .slice none 0 0] 35) = U := ⟨_, rfl⟩
    rw [hU] at HG z y ⊢
    clear hU hg
    refine hK.out _ _ (hq2S HB.out HG) (fun hHeld => ?_)
    clear hK K
    try simp only [sA, sB, sC]
    exact hq210 hp (by kernel_rfl) HB HG z l_z y l_y HQ

theorem hq212 (hp : ∀ c a d v w, Q (.panic c) (Act.put a d v) w → Q (.panic c) a w) {p7 : Nat} (hl : L = #[false, true, false, false, false, false, false, true, false, false]) (HB : Hid (XB V b1 2 a1 2 c1 hM)) (HG : V.grownBy W none) (y : XZ W p7) (l_y : V.heap.size ≤ p7) (HQ : Hid (hq2F Q V b1 a1 c1)) :
    wpAnyH Tryz.prog .any hq2Ops Q (hq2P V b1 a1 c1) 8 L (hq2f t b1 a1 c1 (t 2) (.pointer (some ⟨p7, 0, none⟩)) (t 17) (t 18) (.agg #[.int .i64 2, .slice a1 2 c1]) (t 20) (t 21) (t 22)) W := by
  subst hl
  unfold hq2f
  refine wpAnyH_ready (rs := [0, 6]) (by kernel_rfl) (by simp) ?_
  refine (AllReadyH.cons (o := hq2o0) rfl (fun K hK => ?_) (AllReadyH.cons (o := hq2o6) rfl (fun K hK => ?_) AllReadyH.nil))
  · rw [if_pos (by rfl)]
    unfold hq2o0
    go_simp
    go_at_call 21
    refine (h15_new_at W).mono ?_
    rintro e U ⟨a0, c0, rfl, k0, g⟩
    replace y := y.grown g
    replace HG := World.grownBy.trans HG g
    clear g
    go_wp2_with fail
    refine hK.out _ _ (hq2S HB.out HG) (fun hHeld => ?_)
    clear hK K
    try simp only [sA, sB]
    exact hq28 hp (by kernel_rfl) HB HG k0 y l_y HQ
  · rw [if_pos (by rfl)]
    unfold hq2o6
    go_simp
    have hg := World.grownBy_alloc W (.cells #[.slice none 0 0] 27) none
    have z := BoxZ.new W
    have l_z := World.grownBy.size HG
    replace y := y.grown hg
    replace HG := World.grownBy.trans HG hg
    obtain ⟨U, hU⟩ : ∃ U, W.alloc (.cells #[.slice none 0 0] 27) = U := ⟨_, rfl⟩
    rw [hU] at HG y z ⊢
    clear hU hg
    refine hK.out _ _ (hq2S HB.out HG) (fun hHeld => ?_)
    clear hK K
    try simp only [sA, sB, sC]
    exact hq210 hp (by kernel_rfl) HB HG z l_z y l_y HQ

theorem hq213 (hp : ∀ c a d v w, Q (.panic c) (Act.put a d v) w → Q (.panic c) a w)  (hl : L = #[false, true, false, false, false, false, false, false, false, false]) (HB : Hid (XB V b1 2 a1 2 c1 hM)) (HG : V.grownBy W none)  (HQ : Hid (hq2F Q V b1 a1 c1)) :
    wpAnyH Tryz.prog .any hq2Ops Q (hq2P V b1 a1 c1) 9 L (hq2f t b1 a1 c1 (t 2) (t 3) (t 17) (t 18) (.agg #[.int .i64 2, .slice a1 2 c1]) (t 20) (t 21) (t 22)) W := by
  subst hl
  unfold hq2f
  refine wpAnyH_ready (rs := [0, 6, 7]) (by kernel_rfl) (by simp) ?_
  refine (AllReadyH.cons (o := hq2o0) rfl (fun K hK => ?_) (AllReadyH.cons (o := hq2o6) rfl (fun K hK => ?_) (AllReadyH.cons (o := hq2o7) rfl (fun K hK => ?_) AllReadyH.nil)))
  · rw [if_pos (by rfl)]
    unfold hq2o0
    go_simp
    go_at_call 21
    refine (h15_new_at W).mono ?_
    rintro e U ⟨a0, c0, rfl, k0, g⟩
    replace HG := World.grownBy.trans HG g
    clear g
    go_wp2_with fail
    refine hK.out _ _ (hq2S HB.out HG) (fun hHeld => ?_)
    clear hK K
    try simp only [sA, sB]
    exact hq29 hp (by kernel_rfl) HB HG k0 HQ
  · rw [if_pos (by rfl)]
    unfold hq2o6
    go_simp
    have hg := World.grownBy_alloc W (.cells #[.slice none 0 0] 27) none
    have z := BoxZ.new W
    have l_z := World.grownBy.size HG
    replace HG := World.grownBy.trans HG hg
    obtain ⟨U, hU⟩ : ∃ U, W.alloc (.cells #[.slice none 0 0] 27) = U := ⟨_, rfl⟩
    rw [hU] at HG  z ⊢
    clear hU hg
    refine hK.out _ _ (hq2S HB.out HG) (fun hHeld => ?_)
    clear hK K
    try simp only [sA, sB, sC]
    exact hq211 hp (by kernel_rfl) HB HG z l_z HQ
  · rw [if_pos (by rfl)]
    unfold hq2o7
    go_simp
    have hg := World.grownBy_alloc W (.cells #[.int .i64 0, .slice none 0 0] 35) none
    have y := XZ.new W
    have l_y := World.grownBy.size HG
    replace HG := World.grownBy.trans HG hg
    obtain ⟨U, hU⟩ : ∃ U, W.alloc (.cells #[.int .i64 0, .slice none 0 0] 35) = U := ⟨_, rfl⟩
    rw [hU] at HG  y ⊢
    clear hU hg
    refine hK.out _ _ (hq2S HB.out HG) (fun hHeld => ?_)
    clear hK K
    try simp only [sA, sB, sC]
    exact hq212 hp (by kernel_rfl) HB HG y l_y HQ

theorem hq2_all {t0 t2 t3 t4 t5 t6 t7 t8 t9 t10 t11 t12 t13 t14 t15 t16 t17 t18 t19 t20 t21 t22 t23 t24 t25 t26 t27 t28 t29 t30 t31 t32 t33 t34 t35 t36 t37 t38 t39 t40 t41 t42 t43 t44 t45 t46 t47 t48 t49 t50 t51 t52 t53 t54 t55 t56 t57 t58 t59 t60 t61 t62 t63 t64 t65 t66 t67 t68 t69 t70 t71 t72 t73 t74 t75 t76 t77 t78 t79 t80 t81 t82 t83 t84 t85 t86 t87 t88 t89 t90 t91 t92 t93 : Value} (hp : ∀ c a d v w, Q (.panic c) (Act.put a d v) w → Q (.panic c) a w) (HB : Hid (XB V b1 2 a1 2 c1 hM)) (HQ : Hid (hq2F Q V b1 a1 c1)) :
    (Code.region 2 hq2Ops true).wp Tryz.prog Q ⟨#[t0, .pointer (some ⟨b1, 0, none⟩), t2, t3, t4, t5, t6, t7, t8, t9, t10, t11, t12, t13, t14, t15, t16, t17, t18, t19, t20, t21, t22, t23, t24, t25, t26, t27, t28, t29, t30, t31, t32, t33, t34, t35, t36, t37, t38, t39, t40, t41, t42, t43, t44, t45, t46, t47, t48, t49, t50, t51, t52, t53, t54, t55, t56, t57, t58, t59, t60, t61, t62, t63, t64, t65, t66, t67, t68, t69, t70, t71, t72, t73, t74, t75, t76, t77, t78, t79, t80, t81, t82, t83, t84, t85, t86, t87, t88, t89, t90, t91, t92, t93], []⟩ V := by
  have HG := ((⟨rfl, rfl, rfl, Nat.le_refl _, fun _ _ _ => rfl⟩ : V.grownBy V.drew none))
  refine wp_region_held_drew (S := (hq2P V b1 a1 c1)) (by kernel_rfl) (hq2S HB.out HG) (fun hHeld => ?_)
  refine tk 1 hq2o1 ?_ rfl (by kernel_rfl) (fun c a w h => hp c a _ _ w h) (by rfl) ?_ hHeld ?_
  rotate_left 1
  · (intro W hSW; unfold hq2P at hSW; unfold hq2o1; first | (go_simp; done) | (go_simp; with_reducible rfl))
  try simp only [Act.put, sA, sB, sC]
  exact hq213 (t := fun k => List.getD [t0, undef, t2, t3, t4, t5, t6, t7, t8, t9, t10, t11, t12, t13, t14, t15, t16, t17, t18, t19, t20, t21, t22, t23, t24, t25, t26, t27, t28, t29, t30, t31, t32, t33, t34, t35, t36, t37, t38, t39, t40, t41, t42, t43, t44, t45, t46, t47, t48, t49, t50, t51, t52, t53, t54, t55, t56, t57, t58, t59, t60, t61, t62, t63, t64, t65, t66, t67, t68, t69, t70, t71, t72, t73, t74, t75, t76, t77, t78, t79, t80, t81, t82, t83, t84, t85, t86, t87, t88, t89, t90, t91, t92, t93] k undef) hp (by kernel_rfl) HB HG HQ
end
abbrev hq3o0 : Oper := { dst := some 24, op := Op.call { callee := Callee.value (Operand.func 21), args := #[], argTypes := #[] }, type := 27, pos := "law.go:20", after := #[], guard := none }
abbrev hq3o1 : Oper := { dst := some 25, op := Op.load 35 (Operand.tmp 1), type := 35, pos := "law.go:20", after := #[], guard := none }
abbrev hq3o2 : Oper := { dst := some 26, op := Op.call { callee := Callee.value (Operand.func 72), args := #[Operand.tmp 24, Operand.const (Value.int IntKind.i64 3), Operand.tmp 25], argTypes := #[27, 3, 35] }, type := 42, pos := "law.go:20", after := #[{ on := 0, ground := Ground.data }, { on := 1, ground := Ground.data }, { on := 0, ground := Ground.chain }], guard := none }
abbrev hq3o3 : Oper := { dst := some 23, op := Op.move (Operand.tmp 26), type := 42, pos := "law.go:20", after := #[{ on := 2, ground := Ground.data }], guard := none }
abbrev hq3o4 : Oper := { dst := some 27, op := Op.extract (Operand.tmp 23) 0, type := 27, pos := "law.go:20", after := #[{ on := 3, ground := Ground.data }], guard := none }
abbrev hq3o5 : Oper := { dst := some 28, op := Op.extract (Operand.tmp 23) 1, type := 35, pos := "law.go:20", after := #[{ on := 3, ground := Ground.data }, { on := 8, ground := Ground.gcOnly Departure.lateStores }], guard := none }
abbrev hq3o6 : Oper := { dst := some 4, op := Op.alloc 27, type := 0, pos := "law.go:20", after := #[], guard := none }
abbrev hq3o7 : Oper := { dst := some 5, op := Op.alloc 35, type := 0, pos := "law.go:20", after := #[], guard := none }
abbrev hq3o8 : Oper := { dst := none, op := Op.store 27 (Operand.tmp 4) (Operand.tmp 27), type := 0, pos := "law.go:20", after := #[{ on := 6, ground := Ground.data }, { on := 4, ground := Ground.data }, { on := 2, ground := Ground.chain }, { on := 0, ground := Ground.phase }, { on := 1, ground := Ground.phase }, { on := 2, ground := Ground.phase }, { on := 3, ground := Ground.phase }, { on := 4, ground := Ground.phase }, { on := 5, ground := Ground.textOnly Departure.lateStores }, { on := 6, ground := Ground.phase }, { on := 7, ground := Ground.phase }], guard := none }
abbrev hq3o9 : Oper := { dst := none, op := Op.store 35 (Operand.tmp 5) (Operand.tmp 28), type := 0, pos := "law.go:20", after := #[{ on := 7, ground := Ground.data }, { on := 5, ground := Ground.data }, { on := 8, ground := Ground.chain }, { on := 0, ground := Ground.phase }, { on := 1, ground := Ground.phase }, { on := 2, ground := Ground.phase }, { on := 3, ground := Ground.phase }, { on := 4, ground := Ground.phase }, { on := 5, ground := Ground.phase }, { on := 6, ground := Ground.phase }, { on := 7, ground := Ground.phase }, { on := 8, ground := Ground.phase }], guard := none }
def hq3Ops : Array Oper := #[hq3o0, hq3o1, hq3o2, hq3o3, hq3o4, hq3o5, hq3o6, hq3o7, hq3o8, hq3o9]
def hq3P (V : World) (b1 : Nat) (a1 : Option Addr) (c1 : Nat) : World → Prop := (fun Wh : World => V.grownBy Wh none ∧ Wh.cell? ⟨b1, 0, none⟩ = some (.int .i64 2) ∧ Wh.cell? ⟨b1, 1, none⟩ = some (.slice a1 2 c1))
theorem hq3S {V W : World} {b1 : Nat} {a1 : Option Addr} {c1 : Nat} (h : XB V b1 2 a1 2 c1 hM) (HG : V.grownBy W none) : (hq3P V b1 a1 c1) W := ⟨HG, (h.grown HG).1, (h.grown HG).2.1⟩
def hq3F (Q : Exit → Act → World → Prop) (V : World) (b1 b2 b3 : Nat) (_a1 : Option Addr) (_c1 : Nat) : Prop := ∀ (aJ : Option Addr) (cJ : Nat) (bJ : Option Addr) (dJ : Nat) (p6 : Nat) (p7 : Nat) (u0 u6 u7 u8 u9 u10 u11 u12 u13 u14 u15 u16 u17 u18 u19 u20 u21 u22 u23 u24 u25 u26 u27 u28 u29 u30 u31 u32 u33 u34 u35 u36 u37 u38 u39 u40 u41 u42 u43 u44 u45 u46 u47 u48 u49 u50 u51 u52 u53 u54 u55 u56 u57 u58 u59 u60 u61 u62 u63 u64 u65 u66 u67 u68 u69 u70 u71 u72 u73 u74 u75 u76 u77 u78 u79 u80 u81 u82 u83 u84 u85 u86 u87 u88 u89 u90 u91 u92 u93 : Value) (W : World), V.grownBy W none → V.heap.size ≤ p6 → V.heap.size ≤ p7 → CB W p6 aJ cJ hN → XB W p7 2 bJ 3 dJ hT → Q .normal ⟨#[u0, .pointer (some ⟨b1, 0, none⟩), .pointer (some ⟨b2, 0, none⟩), .pointer (some ⟨b3, 0, none⟩), .pointer (some ⟨p6, 0, none⟩), .pointer (some ⟨p7, 0, none⟩), u6, u7, u8, u9, u10, u11, u12, u13, u14, u15, u16, u17, u18, u19, u20, u21, u22, u23, u24, u25, u26, u27, u28, u29, u30, u31, u32, u33, u34, u35, u36, u37, u38, u39, u40, u41, u42, u43, u44, u45, u46, u47, u48, u49, u50, u51, u52, u53, u54, u55, u56, u57, u58, u59, u60, u61, u62, u63, u64, u65, u66, u67, u68, u69, u70, u71, u72, u73, u74, u75, u76, u77, u78, u79, u80, u81, u82, u83, u84, u85, u86, u87, u88, u89, u90, u91, u92, u93], []⟩ W
def hq3f (t : Nat → Value) (b1 b2 b3 : Nat) (_a1 : Option Addr) (_c1 : Nat) (v4 v5 v23 v24 v25 v26 v27 v28 : Value) : Act := ⟨#[t 0, .pointer (some ⟨b1, 0, none⟩), .pointer (some ⟨b2, 0, none⟩), .pointer (some ⟨b3, 0, none⟩), v4, v5, t 6, t 7, t 8, t 9, t 10, t 11, t 12, t 13, t 14, t 15, t 16, t 17, t 18, t 19, t 20, t 21, t 22, v23, v24, v25, v26, v27, v28, t 29, t 30, t 31, t 32, t 33, t 34, t 35, t 36, t 37, t 38, t 39, t 40, t 41, t 42, t 43, t 44, t 45, t 46, t 47, t 48, t 49, t 50, t 51, t 52, t 53, t 54, t 55, t 56, t 57, t 58, t 59, t 60, t 61, t 62, t 63, t 64, t 65, t 66, t 67, t 68, t 69, t 70, t 71, t 72, t 73, t 74, t 75, t 76, t 77, t 78, t 79, t 80, t 81, t 82, t 83, t 84, t 85, t 86, t 87, t 88, t 89, t 90, t 91, t 92, t 93], []⟩
section
variable {Q : Exit → Act → World → Prop} {V W : World} {b1 b2 b3 : Nat} {a1 : Option Addr} {c1 : Nat} {L : Array Bool} {t : Nat → Value}
theorem hq30 (_hp : ∀ c a d v w, Q (.panic c) (Act.put a d v) w → Q (.panic c) a w) {a0 : Option Addr} {c0 : Nat} {aJ : Option Addr} {cJ : Nat} {bJ : Option Addr} {dJ : Nat} {p6 : Nat} {p7 : Nat} (hl : L = #[true, true, true, true, true, true, true, true, true, true]) (_HB : Hid (XB V b1 2 a1 2 c1 hM)) (HG : V.grownBy W none) (l_z : V.heap.size ≤ p6) (l_y : V.heap.size ≤ p7) (cb : CB W p6 aJ cJ hN) (xb : XB W p7 2 bJ 3 dJ hT) (HQ : Hid (hq3F Q V b1 b2 b3 a1 c1)) :
    wpAnyH Tryz.prog .any hq3Ops Q (hq3P V b1 a1 c1) 0 L (hq3f t b1 b2 b3 a1 c1 (.pointer (some ⟨p6, 0, none⟩)) (.pointer (some ⟨p7, 0, none⟩)) (.tuple #[.agg #[.slice aJ 1 cJ], .agg #[.int .i64 2, .slice bJ 3 dJ]]) (.agg #[.slice a0 1 c0]) (.agg #[.int .i64 2, .slice a1 2 c1]) (.tuple #[.agg #[.slice aJ 1 cJ], .agg #[.int .i64 2, .slice bJ 3 dJ]]) (.agg #[.slice aJ 1 cJ]) (.agg #[.int .i64 2, .slice bJ 3 dJ])) W := by
  subst hl
  unfold hq3f
  refine wpAnyH_done (by kernel_rfl) ?_ _
  exact HQ.out _ _ _ _ _ _ _ _ _ _ _ _ _ _ _ _ _ _ _ _ _ _ _ _ _ _ _ _ _ _ _ _ _ _ _ _ _ _ _ _ _ _ _ _ _ _ _ _ _ _ _ _ _ _ _ _ _ _ _ _ _ _ _ _ _ _ _ _ _ _ _ _ _ _ _ _ _ _ _ _ _ _ _ _ _ _ _ _ _ _ _ _ _ _ _ _ HG l_z l_y cb xb

theorem hq31 (hp : ∀ c a d v w, Q (.panic c) (Act.put a d v) w → Q (.panic c) a w) {a0 : Option Addr} {c0 : Nat} {aJ : Option Addr} {cJ : Nat} {bJ : Option Addr} {dJ : Nat} {p6 : Nat} {p7 : Nat} (hl : L = #[true, true, true, true, true, true, true, true, true, false]) (HB : Hid (XB V b1 2 a1 2 c1 hM)) (HG : V.grownBy W none) (mJ : CellsW W bJ dJ hT) (l_z : V.heap.size ≤ p6) (y : XZ W p7) (l_y : V.heap.size ≤ p7) (cb : CB W p6 aJ cJ hN) (HQ : Hid (hq3F Q V b1 b2 b3 a1 c1)) :
    wpAnyH Tryz.prog .any hq3Ops Q (hq3P V b1 a1 c1) 1 L (hq3f t b1 b2 b3 a1 c1 (.pointer (some ⟨p6, 0, none⟩)) (.pointer (some ⟨p7, 0, none⟩)) (.tuple #[.agg #[.slice aJ 1 cJ], .agg #[.int .i64 2, .slice bJ 3 dJ]]) (.agg #[.slice a0 1 c0]) (.agg #[.int .i64 2, .slice a1 2 c1]) (.tuple #[.agg #[.slice aJ 1 cJ], .agg #[.int .i64 2, .slice bJ 3 dJ]]) (.agg #[.slice aJ 1 cJ]) (.agg #[.int .i64 2, .slice bJ 3 dJ])) W := by
  subst hl
  unfold hq3f
  refine wpAnyH_ready (rs := [9]) (by kernel_rfl) (by simp) ?_
  refine (AllReadyH.cons (o := hq3o9) rfl (fun K hK => ?_) AllReadyH.nil)
  rw [if_pos (by rfl)]
  unfold hq3o9
  have y0 := y.1
  have y1 := y.2.1
  have y2 := y.2.2.1
  have y3 := y.2.2.2
  go_simp
  have xb := (show XB (laidX W p7 (.int .i64 2) (.slice bJ 3 dJ)) p7 2 bJ 3 dJ hT from XZ.put y 2 mJ rfl)
  replace cb := XZ.cb y (.int .i64 2) (.slice bJ 3 dJ) cb
  replace HG := XZ.grows HG l_y (.int .i64 2) (.slice bJ 3 dJ)
  clear y mJ
  unfold laidX at HG cb xb
  obtain ⟨U, hU⟩ : ∃ U, (W.setCell ⟨p7, 0, none⟩ (.int .i64 2)).setCell ⟨p7, 1, none⟩ (.slice bJ 3 dJ) = U := ⟨_, rfl⟩
  rw [hU] at HG cb xb ⊢
  clear hU
  refine hK.out _ _ (hq3S HB.out HG) (fun hHeld => ?_)
  clear hK K
  try simp only [sA, sB, sC]
  exact hq30 hp (by kernel_rfl) HB HG l_z l_y cb xb HQ

theorem hq32 (hp : ∀ c a d v w, Q (.panic c) (Act.put a d v) w → Q (.panic c) a w) {a0 : Option Addr} {c0 : Nat} {aJ : Option Addr} {cJ : Nat} {bJ : Option Addr} {dJ : Nat} {p6 : Nat} {p7 : Nat} (hl : L = #[true, true, true, true, true, true, true, true, false, false]) (HB : Hid (XB V b1 2 a1 2 c1 hM)) (HG : V.grownBy W none) (gJ : GatesW W aJ cJ hN) (mJ : CellsW W bJ dJ hT) (z : BoxZ W p6) (l_z : V.heap.size ≤ p6) (y : XZ W p7) (l_y : V.heap.size ≤ p7) (HQ : Hid (hq3F Q V b1 b2 b3 a1 c1)) :
    wpAnyH Tryz.prog .any hq3Ops Q (hq3P V b1 a1 c1) 2 L (hq3f t b1 b2 b3 a1 c1 (.pointer (some ⟨p6, 0, none⟩)) (.pointer (some ⟨p7, 0, none⟩)) (.tuple #[.agg #[.slice aJ 1 cJ], .agg #[.int .i64 2, .slice bJ 3 dJ]]) (.agg #[.slice a0 1 c0]) (.agg #[.int .i64 2, .slice a1 2 c1]) (.tuple #[.agg #[.slice aJ 1 cJ], .agg #[.int .i64 2, .slice bJ 3 dJ]]) (.agg #[.slice aJ 1 cJ]) (.agg #[.int .i64 2, .slice bJ 3 dJ])) W := by
  subst hl
  unfold hq3f
  refine wpAnyH_ready (rs := [8]) (by kernel_rfl) (by simp) ?_
  refine (AllReadyH.cons (o := hq3o8) rfl (fun K hK => ?_) AllReadyH.nil)
  rw [if_pos (by rfl)]
  unfold hq3o8
  have z0 := z.1
  have zf := z.2
  go_simp
  have cb := (show CB (W.setCell ⟨p6, 0, none⟩ (.slice aJ 1 cJ)) p6 aJ cJ hN from CB.put gJ z.1 z.2)
  replace mJ := CellsW.setB z (.slice aJ 1 cJ) mJ
  replace y := XZ.set y z (.slice aJ 1 cJ)
  replace HG := grown_own HG (grown_set W p6 0 (.slice aJ 1 cJ)) (fun k e => by cases e; exact l_z)
  clear gJ z
  obtain ⟨U, hU⟩ : ∃ U, W.setCell ⟨p6, 0, none⟩ (.slice aJ 1 cJ) = U := ⟨_, rfl⟩
  rw [hU] at HG mJ y cb ⊢
  clear hU
  refine hK.out _ _ (hq3S HB.out HG) (fun hHeld => ?_)
  clear hK K
  try simp only [sA, sB, sC]
  exact hq31 hp (by kernel_rfl) HB HG mJ l_z y l_y cb HQ

theorem hq33 (hp : ∀ c a d v w, Q (.panic c) (Act.put a d v) w → Q (.panic c) a w) {a0 : Option Addr} {c0 : Nat} {aJ : Option Addr} {cJ : Nat} {bJ : Option Addr} {dJ : Nat} {p6 : Nat} (hl : L = #[true, true, true, true, true, true, true, false, false, false]) (HB : Hid (XB V b1 2 a1 2 c1 hM)) (HG : V.grownBy W none) (gJ : GatesW W aJ cJ hN) (mJ : CellsW W bJ dJ hT) (z : BoxZ W p6) (l_z : V.heap.size ≤ p6) (HQ : Hid (hq3F Q V b1 b2 b3 a1 c1)) :
    wpAnyH Tryz.prog .any hq3Ops Q (hq3P V b1 a1 c1) 3 L (hq3f t b1 b2 b3 a1 c1 (.pointer (some ⟨p6, 0, none⟩)) (t 5) (.tuple #[.agg #[.slice aJ 1 cJ], .agg #[.int .i64 2, .slice bJ 3 dJ]]) (.agg #[.slice a0 1 c0]) (.agg #[.int .i64 2, .slice a1 2 c1]) (.tuple #[.agg #[.slice aJ 1 cJ], .agg #[.int .i64 2, .slice bJ 3 dJ]]) (.agg #[.slice aJ 1 cJ]) (.agg #[.int .i64 2, .slice bJ 3 dJ])) W := by
  subst hl
  unfold hq3f
  refine wpAnyH_ready (rs := [7]) (by kernel_rfl) (by simp) ?_
  refine (AllReadyH.cons (o := hq3o7) rfl (fun K hK => ?_) AllReadyH.nil)
  rw [if_pos (by rfl)]
  unfold hq3o7
  go_simp
  have hg := World.grownBy_alloc W (.cells #[.int .i64 0, .slice none 0 0] 35) none
  have y := XZ.new W
  have l_y := World.grownBy.size HG
  replace gJ := gJ.grown hg
  replace mJ := mJ.grown hg
  replace z := z.grown hg
  replace HG := World.grownBy.trans HG hg
  obtain ⟨U, hU⟩ : ∃ U, W.alloc (.cells #[.int .i64 0, .slice none 0 0] 35) = U := ⟨_, rfl⟩
  rw [hU] at HG gJ mJ z y ⊢
  clear hU hg
  refine hK.out _ _ (hq3S HB.out HG) (fun hHeld => ?_)
  clear hK K
  try simp only [sA, sB, sC]
  exact hq32 hp (by kernel_rfl) HB HG gJ mJ z l_z y l_y HQ

theorem hq34 (hp : ∀ c a d v w, Q (.panic c) (Act.put a d v) w → Q (.panic c) a w) {a0 : Option Addr} {c0 : Nat} {aJ : Option Addr} {cJ : Nat} {bJ : Option Addr} {dJ : Nat} {p7 : Nat} (hl : L = #[true, true, true, true, true, true, false, true, false, false]) (HB : Hid (XB V b1 2 a1 2 c1 hM)) (HG : V.grownBy W none) (gJ : GatesW W aJ cJ hN) (mJ : CellsW W bJ dJ hT) (y : XZ W p7) (l_y : V.heap.size ≤ p7) (HQ : Hid (hq3F Q V b1 b2 b3 a1 c1)) :
    wpAnyH Tryz.prog .any hq3Ops Q (hq3P V b1 a1 c1) 3 L (hq3f t b1 b2 b3 a1 c1 (t 4) (.pointer (some ⟨p7, 0, none⟩)) (.tuple #[.agg #[.slice aJ 1 cJ], .agg #[.int .i64 2, .slice bJ 3 dJ]]) (.agg #[.slice a0 1 c0]) (.agg #[.int .i64 2, .slice a1 2 c1]) (.tuple #[.agg #[.slice aJ 1 cJ], .agg #[.int .i64 2, .slice bJ 3 dJ]]) (.agg #[.slice aJ 1 cJ]) (.agg #[.int .i64 2, .slice bJ 3 dJ])) W := by
  subst hl
  unfold hq3f
  refine wpAnyH_ready (rs := [6]) (by kernel_rfl) (by simp) ?_
  refine (AllReadyH.cons (o := hq3o6) rfl (fun K hK => ?_) AllReadyH.nil)
  rw [if_pos (by rfl)]
  unfold hq3o6
  go_simp
  have hg := World.grownBy_alloc W (.cells #[.slice none 0 0] 27) none
  have z := BoxZ.new W
  have l_z := World.grownBy.size HG
  replace gJ := gJ.grown hg
  replace mJ := mJ.grown hg
  replace y := y.grown hg
  replace HG := World.grownBy.trans HG hg
  obtain ⟨U, hU⟩ : ∃ U, W.alloc (.cells #[.slice none 0 0] 27) = U := ⟨_, rfl⟩
  rw [hU] at HG gJ mJ y z ⊢
  clear hU hg
  refine hK.out _ _ (hq3S HB.out HG) (fun hHeld => ?_)
  clear hK K
  try simp only [sA, sB, sC]
  exact hq32 hp (by kernel_rfl) HB HG gJ mJ z l_z y l_y HQ

theorem hq35 (hp : ∀ c a d v w, Q (.panic c) (Act.put a d v) w → Q (.panic c) a w) {a0 : Option Addr} {c0 : Nat} {aJ : Option Addr} {cJ : Nat} {bJ : Option Addr} {dJ : Nat} (hl : L = #[true, true, true, true, true, true, false, false, false, false]) (HB : Hid (XB V b1 2 a1 2 c1 hM)) (HG : V.grownBy W none) (gJ : GatesW W aJ cJ hN) (mJ : CellsW W bJ dJ hT) (HQ : Hid (hq3F Q V b1 b2 b3 a1 c1)) :
    wpAnyH Tryz.prog .any hq3Ops Q (hq3P V b1 a1 c1) 4 L (hq3f t b1 b2 b3 a1 c1 (t 4) (t 5) (.tuple #[.agg #[.slice aJ 1 cJ], .agg #[.int .i64 2, .slice bJ 3 dJ]]) (.agg #[.slice a0 1 c0]) (.agg #[.int .i64 2, .slice a1 2 c1]) (.tuple #[.agg #[.slice aJ 1 cJ], .agg #[.int .i64 2, .slice bJ 3 dJ]]) (.agg #[.slice aJ 1 cJ]) (.agg #[.int .i64 2, .slice bJ 3 dJ])) W := by
  subst hl
  unfold hq3f
  refine wpAnyH_ready (rs := [6, 7]) (by kernel_rfl) (by simp) ?_
  refine (AllReadyH.cons (o := hq3o6) rfl (fun K hK => ?_) (AllReadyH.cons (o := hq3o7) rfl (fun K hK => ?_) AllReadyH.nil))
  · rw [if_pos (by rfl)]
    unfold hq3o6
    go_simp
    have hg := World.grownBy_alloc W (.cells #[.slice none 0 0] 27) none
    have z := BoxZ.new W
    have l_z := World.grownBy.size HG
    replace gJ := gJ.grown hg
    replace mJ := mJ.grown hg
    replace HG := World.grownBy.trans HG hg
    obtain ⟨U, hU⟩ : ∃ U, W.alloc (.cells #[.slice none 0 0] 27) = U := ⟨_, rfl⟩
    rw [hU] at HG gJ mJ z ⊢
    clear hU hg
    refine hK.out _ _ (hq3S HB.out HG) (fun hHeld => ?_)
    clear hK K
    try simp only [sA, sB, sC]
    exact hq33 hp (by kernel_rfl) HB HG gJ mJ z l_z HQ
  · rw [if_pos (by rfl)]
    unfold hq3o7
    go_simp
    have hg := World.grownBy_alloc W (.cells #[.int .i64 0, .slice none 0 0] 35) none
    have y := XZ.new W
    have l_y := World.grownBy.size HG
    replace gJ := gJ.grown hg
    replace mJ := mJ.grown hg
    replace HG := World.grownBy.trans HG hg
    obtain ⟨U, hU⟩ : ∃ U, W.alloc (.cells #[.int .i64 0, .slice none 0 0] 35) = U := ⟨_, rfl⟩
    rw [hU] at HG gJ mJ y ⊢
    clear hU hg
    refine hK.out _ _ (hq3S HB.out HG) (fun hHeld => ?_)
    clear hK K
    try simp only [sA, sB, sC]
    exact hq34 hp (by kernel_rfl) HB HG gJ mJ y l_y HQ

theorem hq36 (hp : ∀ c a d v w, Q (.panic c) (Act.put a d v) w → Q (.panic c) a w) {a0 : Option Addr} {c0 : Nat} {p6 : Nat} {p7 : Nat} (hl : L = #[true, true, false, false, false, false, true, true, false, false]) (HB : Hid (XB V b1 2 a1 2 c1 hM)) (HG : V.grownBy W none) (k0 : GatesW W a0 c0 hN) (z : BoxZ W p6) (l_z : V.heap.size ≤ p6) (y : XZ W p7) (l_y : V.heap.size ≤ p7) (HQ : Hid (hq3F Q V b1 b2 b3 a1 c1)) :
    wpAnyH Tryz.prog .any hq3Ops Q (hq3P V b1 a1 c1) 6 L (hq3f t b1 b2 b3 a1 c1 (.pointer (some ⟨p6, 0, none⟩)) (.pointer (some ⟨p7, 0, none⟩)) (t 23) (.agg #[.slice a0 1 c0]) (.agg #[.int .i64 2, .slice a1 2 c1]) (t 26) (t 27) (t 28)) W := by
  subst hl
  unfold hq3f
  refine wpAnyH_ready (rs := [2]) (by kernel_rfl) (by simp) ?_
  refine (AllReadyH.cons (o := hq3o2) rfl (fun K hK => ?_) AllReadyH.nil)
  rw [if_pos (by rfl)]
  unfold hq3o2
  go_simp
  go_at_call 72
  refine (h15_st_at k0 (HB.out.grown HG).2.2.2).mono ?_
  rintro e U ⟨aJ, cJ, bJ, dJ, rfl, gJ, mJ, g⟩
  replace z := z.grown g
  replace y := y.grown g
  replace HG := World.grownBy.trans HG g
  clear g
  go_wp2_with fail
  refine hK.out _ _ (hq3S HB.out HG) (fun hHeld => ?_)
  clear hK K
  try simp only [sA, sB, sC]
  refine tk 3 hq3o3 ?_ rfl (by kernel_rfl) (fun c a w h => hp c a _ _ w h) (by rfl) ?_ hHeld ?_
  rotate_left 1
  · (intro W hSW; unfold hq3P at hSW; unfold hq3o3; first | (go_simp; done) | (go_simp; with_reducible rfl))
  try simp only [Act.put, sA, sB, sC]
  refine tk 4 hq3o4 ?_ rfl (by kernel_rfl) (fun c a w h => hp c a _ _ w h) (by rfl) ?_ hHeld ?_
  rotate_left 1
  · (intro W hSW; unfold hq3P at hSW; unfold hq3o4; first | (go_simp; done) | (go_simp; with_reducible rfl))
  try simp only [Act.put, sA, sB, sC]
  refine tk 5 hq3o5 ?_ rfl (by kernel_rfl) (fun c a w h => hp c a _ _ w h) (by rfl) ?_ hHeld ?_
  rotate_left 1
  · (intro W hSW; unfold hq3P at hSW; unfold hq3o5; first | (go_simp; done) | (go_simp; with_reducible rfl))
  try simp only [Act.put, sA, sB, sC]
  exact hq32 hp (by kernel_rfl) HB HG gJ mJ z l_z y l_y HQ

theorem hq37 (hp : ∀ c a d v w, Q (.panic c) (Act.put a d v) w → Q (.panic c) a w) {a0 : Option Addr} {c0 : Nat} {p6 : Nat} (hl : L = #[true, true, false, false, false, false, true, false, false, false]) (HB : Hid (XB V b1 2 a1 2 c1 hM)) (HG : V.grownBy W none) (k0 : GatesW W a0 c0 hN) (z : BoxZ W p6) (l_z : V.heap.size ≤ p6) (HQ : Hid (hq3F Q V b1 b2 b3 a1 c1)) :
    wpAnyH Tryz.prog .any hq3Ops Q (hq3P V b1 a1 c1) 7 L (hq3f t b1 b2 b3 a1 c1 (.pointer (some ⟨p6, 0, none⟩)) (t 5) (t 23) (.agg #[.slice a0 1 c0]) (.agg #[.int .i64 2, .slice a1 2 c1]) (t 26) (t 27) (t 28)) W := by
  subst hl
  unfold hq3f
  refine wpAnyH_ready (rs := [2, 7]) (by kernel_rfl) (by simp) ?_
  refine (AllReadyH.cons (o := hq3o2) rfl (fun K hK => ?_) (AllReadyH.cons (o := hq3o7) rfl (fun K hK => ?_) AllReadyH.nil))
  · rw [if_pos (by rfl)]
    unfold hq3o2
    go_simp
    go_at_call 72
    refine (h15_st_at k0 (HB.out.grown HG).2.2.2).mono ?_
    rintro e U ⟨aJ, cJ, bJ, dJ, rfl, gJ, mJ, g⟩
    replace z := z.grown g
    replace HG := World.grownBy.trans HG g
    clear g
    go_wp2_with fail
    refine hK.out _ _ (hq3S HB.out HG) (fun hHeld => ?_)
    clear hK K
    try simp only [sA, sB, sC]
    refine tk 3 hq3o3 ?_ rfl (by kernel_rfl) (fun c a w h => hp c a _ _ w h) (by rfl) ?_ hHeld ?_
    rotate_left 1
    · (intro W hSW; unfold hq3P at hSW; unfold hq3o3; first | (go_simp; done) | (go_simp; with_reducible rfl))
    try simp only [Act.put, sA, sB, sC]
    refine tk 4 hq3o4 ?_ rfl (by kernel_rfl) (fun c a w h => hp c a _ _ w h) (by rfl) ?_ hHeld ?_
    rotate_left 1
    · (intro W hSW; unfold hq3P at hSW; unfold hq3o4; first | (go_simp; done) | (go_simp; with_reducible rfl))
    try simp only [Act.put, sA, sB, sC]
    refine tk 5 hq3o5 ?_ rfl (by kernel_rfl) (fun c a w h => hp c a _ _ w h) (by rfl) ?_ hHeld ?_
    rotate_left 1
    · (intro W hSW; unfold hq3P at hSW; unfold hq3o5; first | (go_simp; done) | (go_simp; with_reducible rfl))
    try simp only [Act.put, sA, sB, sC]
    exact hq33 hp (by kernel_rfl) HB HG gJ mJ z l_z HQ
  · rw [if_pos (by rfl)]
    unfold hq3o7
    go_simp
    have hg := World.grownBy_alloc W (.cells #[.int .i64 0, .slice none 0 0] 35) none
    have y := XZ.new W
    have l_y := World.grownBy.size HG
    replace k0 := k0.grown hg
    replace z := z.grown hg
    replace HG := World.grownBy.trans HG hg
    obtain ⟨U, hU⟩ : ∃ U, W.alloc (.cells #[.int .i64 0, .slice none 0 0] 35) = U := ⟨_, rfl⟩
    rw [hU] at HG k0 z y ⊢
    clear hU hg
    refine hK.out _ _ (hq3S HB.out HG) (fun hHeld => ?_)
    clear hK K
    try simp only [sA, sB, sC]
    exact hq36 hp (by kernel_rfl) HB HG k0 z l_z y l_y HQ

theorem hq38 (hp : ∀ c a d v w, Q (.panic c) (Act.put a d v) w → Q (.panic c) a w) {a0 : Option Addr} {c0 : Nat} {p7 : Nat} (hl : L = #[true, true, false, false, false, false, false, true, false, false]) (HB : Hid (XB V b1 2 a1 2 c1 hM)) (HG : V.grownBy W none) (k0 : GatesW W a0 c0 hN) (y : XZ W p7) (l_y : V.heap.size ≤ p7) (HQ : Hid (hq3F Q V b1 b2 b3 a1 c1)) :
    wpAnyH Tryz.prog .any hq3Ops Q (hq3P V b1 a1 c1) 7 L (hq3f t b1 b2 b3 a1 c1 (t 4) (.pointer (some ⟨p7, 0, none⟩)) (t 23) (.agg #[.slice a0 1 c0]) (.agg #[.int .i64 2, .slice a1 2 c1]) (t 26) (t 27) (t 28)) W := by
  subst hl
  unfold hq3f
  refine wpAnyH_ready (rs := [2, 6]) (by kernel_rfl) (by simp) ?_
  refine (AllReadyH.cons (o := hq3o2) rfl (fun K hK => ?_) (AllReadyH.cons (o := hq3o6) rfl (fun K hK => ?_) AllReadyH.nil))
  · rw [if_pos (by rfl)]
    unfold hq3o2
    go_simp
    go_at_call 72
    refine (h15_st_at k0 (HB.out.grown HG).2.2.2).mono ?_
    rintro e U ⟨aJ, cJ, bJ, dJ, rfl, gJ, mJ, g⟩
    replace y := y.grown g
    replace HG := World.grownBy.trans HG g
    clear g
    go_wp2_with fail
    refine hK.out _ _ (hq3S HB.out HG) (fun hHeld => ?_)
    clear hK K
    try simp only [sA, sB, sC]
    refine tk 3 hq3o3 ?_ rfl (by kernel_rfl) (fun c a w h => hp c a _ _ w h) (by rfl) ?_ hHeld ?_
    rotate_left 1
    · (intro W hSW; unfold hq3P at hSW; unfold hq3o3; first | (go_simp; done) | (go_simp; with_reducible rfl))
    try simp only [Act.put, sA, sB, sC]
    refine tk 4 hq3o4 ?_ rfl (by kernel_rfl) (fun c a w h => hp c a _ _ w h) (by rfl) ?_ hHeld ?_
    rotate_left 1
    · (intro W hSW; unfold hq3P at hSW; unfold hq3o4; first | (go_simp; done) | (go_simp; with_reducible rfl))
    try simp only [Act.put, sA, sB, sC]
    refine tk 5 hq3o5 ?_ rfl (by kernel_rfl) (fun c a w h => hp c a _ _ w h) (by rfl) ?_ hHeld ?_
    rotate_left 1
    · (intro W hSW; unfold hq3P at hSW; unfold hq3o5; first | (go_simp; done) | (go_simp; with_reducible rfl))
    try simp only [Act.put, sA, sB, sC]
    exact hq34 hp (by kernel_rfl) HB HG gJ mJ y l_y HQ
  · rw [if_pos (by rfl)]
    unfold hq3o6
    go_simp
    have hg := World.grownBy_alloc W (.cells #[.slice none 0 0] 27) none
    have z := BoxZ.new W
    have l_z := World.grownBy.size HG
    replace k0 := k0.grown hg
    replace y := y.grown hg
    replace HG := World.grownBy.trans HG hg
    obtain ⟨U, hU⟩ : ∃ U, W.alloc (.cells #[.slice none 0 0] 27) = U := ⟨_, rfl⟩
    rw [hU] at HG k0 y z ⊢
    clear hU hg
    refine hK.out _ _ (hq3S HB.out HG) (fun hHeld => ?_)
    clear hK K
    try simp only [sA, sB, sC]
    exact hq36 hp (by kernel_rfl) HB HG k0 z l_z y l_y HQ

theorem hq39 (hp : ∀ c a d v w, Q (.panic c) (Act.put a d v) w → Q (.panic c) a w) {a0 : Option Addr} {c0 : Nat} (hl : L = #[true, true, false, false, false, false, false, false, false, false]) (HB : Hid (XB V b1 2 a1 2 c1 hM)) (HG : V.grownBy W none) (k0 : GatesW W a0 c0 hN) (HQ : Hid (hq3F Q V b1 b2 b3 a1 c1)) :
    wpAnyH Tryz.prog .any hq3Ops Q (hq3P V b1 a1 c1) 8 L (hq3f t b1 b2 b3 a1 c1 (t 4) (t 5) (t 23) (.agg #[.slice a0 1 c0]) (.agg #[.int .i64 2, .slice a1 2 c1]) (t 26) (t 27) (t 28)) W := by
  subst hl
  unfold hq3f
  refine wpAnyH_ready (rs := [2, 6, 7]) (by kernel_rfl) (by simp) ?_
  refine (AllReadyH.cons (o := hq3o2) rfl (fun K hK => ?_) (AllReadyH.cons (o := hq3o6) rfl (fun K hK => ?_) (AllReadyH.cons (o := hq3o7) rfl (fun K hK => ?_) AllReadyH.nil)))
  · rw [if_pos (by rfl)]
    unfold hq3o2
    go_simp
    go_at_call 72
    refine (h15_st_at k0 (HB.out.grown HG).2.2.2).mono ?_
    rintro e U ⟨aJ, cJ, bJ, dJ, rfl, gJ, mJ, g⟩
    replace HG := World.grownBy.trans HG g
    clear g
    go_wp2_with fail
    refine hK.out _ _ (hq3S HB.out HG) (fun hHeld => ?_)
    clear hK K
    try simp only [sA, sB, sC]
    refine tk 3 hq3o3 ?_ rfl (by kernel_rfl) (fun c a w h => hp c a _ _ w h) (by rfl) ?_ hHeld ?_
    rotate_left 1
    · (intro W hSW; unfold hq3P at hSW; unfold hq3o3; first | (go_simp; done) | (go_simp; with_reducible rfl))
    try simp only [Act.put, sA, sB, sC]
    refine tk 4 hq3o4 ?_ rfl (by kernel_rfl) (fun c a w h => hp c a _ _ w h) (by rfl) ?_ hHeld ?_
    rotate_left 1
    · (intro W hSW; unfold hq3P at hSW; unfold hq3o4; first | (go_simp; done) | (go_simp; with_reducible rfl))
    try simp only [Act.put, sA, sB, sC]
    refine tk 5 hq3o5 ?_ rfl (by kernel_rfl) (fun c a w h => hp c a _ _ w h) (by rfl) ?_ hHeld ?_
    rotate_left 1
    · (intro W hSW; unfold hq3P at hSW; unfold hq3o5; first | (go_simp; done) | (go_simp; with_reducible rfl))
    try simp only [Act.put, sA, sB, sC]
    exact hq35 hp (by kernel_rfl) HB HG gJ mJ HQ
  · rw [if_pos (by rfl)]
    unfold hq3o6
    go_simp
    have hg := World.grownBy_alloc W (.cells #[.slice none 0 0] 27) none
    have z := BoxZ.new W
    have l_z := World.grownBy.size HG
    replace k0 := k0.grown hg
    replace HG := World.grownBy.trans HG hg
    obtain ⟨U, hU⟩ : ∃ U, W.alloc (.cells #[.slice none 0 0] 27) = U := ⟨_, rfl⟩
    rw [hU] at HG k0 z ⊢
    clear hU hg
    refine hK.out _ _ (hq3S HB.out HG) (fun hHeld => ?_)
    clear hK K
    try simp only [sA, sB, sC]
    exact hq37 hp (by kernel_rfl) HB HG k0 z l_z HQ
  · rw [if_pos (by rfl)]
    unfold hq3o7
    go_simp
    have hg := World.grownBy_alloc W (.cells #[.int .i64 0, .slice none 0 0] 35) none
    have y := XZ.new W
    have l_y := World.grownBy.size HG
    replace k0 := k0.grown hg
    replace HG := World.grownBy.trans HG hg
    obtain ⟨U, hU⟩ : ∃ U, W.alloc (.cells #[.int .i64 0, .slice none 0 0] 35) = U := ⟨_, rfl⟩
    rw [hU] at HG k0 y ⊢
    clear hU hg
    refine hK.out _ _ (hq3S HB.out HG) (fun hHeld => ?_)
    clear hK K
    try simp only [sA, sB, sC]
    exact hq38 hp (by kernel_rfl) HB HG k0 y l_y HQ

theorem hq310 (hp : ∀ c a d v w, Q (.panic c) (Act.put a d v) w → Q (.panic c) a w) {p6 : Nat} {p7 : Nat} (hl : L = #[false, true, false, false, false, false, true, true, false, false]) (HB : Hid (XB V b1 2 a1 2 c1 hM)) (HG : V.grownBy W none) (z : BoxZ W p6) (l_z : V.heap.size ≤ p6) (y : XZ W p7) (l_y : V.heap.size ≤ p7) (HQ : Hid (hq3F Q V b1 b2 b3 a1 c1)) :
    wpAnyH Tryz.prog .any hq3Ops Q (hq3P V b1 a1 c1) 7 L (hq3f t b1 b2 b3 a1 c1 (.pointer (some ⟨p6, 0, none⟩)) (.pointer (some ⟨p7, 0, none⟩)) (t 23) (t 24) (.agg #[.int .i64 2, .slice a1 2 c1]) (t 26) (t 27) (t 28)) W := by
  subst hl
  unfold hq3f
  refine wpAnyH_ready (rs := [0]) (by kernel_rfl) (by simp) ?_
  refine (AllReadyH.cons (o := hq3o0) rfl (fun K hK => ?_) AllReadyH.nil)
  rw [if_pos (by rfl)]
  unfold hq3o0
  go_simp
  go_at_call 21
  refine (h15_new_at W).mono ?_
  rintro e U ⟨a0, c0, rfl, k0, g⟩
  replace z := z.grown g
  replace y := y.grown g
  replace HG := World.grownBy.trans HG g
  clear g
  go_wp2_with fail
  refine hK.out _ _ (hq3S HB.out HG) (fun hHeld => ?_)
  clear hK K
  try simp only [sA, sB]
  exact hq36 hp (by kernel_rfl) HB HG k0 z l_z y l_y HQ

theorem hq311 (hp : ∀ c a d v w, Q (.panic c) (Act.put a d v) w → Q (.panic c) a w) {p6 : Nat} (hl : L = #[false, true, false, false, false, false, true, false, false, false]) (HB : Hid (XB V b1 2 a1 2 c1 hM)) (HG : V.grownBy W none) (z : BoxZ W p6) (l_z : V.heap.size ≤ p6) (HQ : Hid (hq3F Q V b1 b2 b3 a1 c1)) :
    wpAnyH Tryz.prog .any hq3Ops Q (hq3P V b1 a1 c1) 8 L (hq3f t b1 b2 b3 a1 c1 (.pointer (some ⟨p6, 0, none⟩)) (t 5) (t 23) (t 24) (.agg #[.int .i64 2, .slice a1 2 c1]) (t 26) (t 27) (t 28)) W := by
  subst hl
  unfold hq3f
  refine wpAnyH_ready (rs := [0, 7]) (by kernel_rfl) (by simp) ?_
  refine (AllReadyH.cons (o := hq3o0) rfl (fun K hK => ?_) (AllReadyH.cons (o := hq3o7) rfl (fun K hK => ?_) AllReadyH.nil))
  · rw [if_pos (by rfl)]
    unfold hq3o0
    go_simp
    go_at_call 21
    refine (h15_new_at W).mono ?_
    rintro e U ⟨a0, c0, rfl, k0, g⟩
    replace z := z.grown g
    replace HG := World.grownBy.trans HG g
    clear g
    go_wp2_with fail
    refine hK.out _ _ (hq3S HB.out HG) (fun hHeld => ?_)
    clear hK K
    try simp only [sA, sB]
    exact hq37 hp (by kernel_rfl) HB HG k0 z l_z HQ
  · rw [if_pos (by rfl)]
    unfold hq3o7
    go_simp
    have hg := World.grownBy_alloc W (.cells #[.int .i64 0, .slice none 0 0] 35) none
    have y := XZ.new W
    have l_y := World.grownBy.size HG
    replace z := z.grown hg
    replace HG := World.grownBy.trans HG hg
    obtain ⟨U, hU⟩ : ∃ U, W.alloc (.cells #[.int .i64 0, .slice none 0 0] 35) = U := ⟨_, rfl⟩
    rw [hU] at HG z y ⊢
    clear hU hg
    refine hK.out _ _ (hq3S HB.out HG) (fun hHeld => ?_)
    clear hK K
    try simp only [sA, sB, sC]
    exact hq310 hp (by kernel_rfl) HB HG z l_z y l_y HQ

theorem hq312 (hp : ∀ c a d v w, Q (.panic c) (Act.put a d v) w → Q (.panic c) a w) {p7 : Nat} (hl : L = #[false, true, false, false, false, false, false, true, false, false]) (HB : Hid (XB V b1 2 a1 2 c1 hM)) (HG : V.grownBy W none) (y : XZ W p7) (l_y : V.heap.size ≤ p7) (HQ : Hid (hq3F Q V b1 b2 b3 a1 c1)) :
    wpAnyH Tryz.prog .any hq3Ops Q (hq3P V b1 a1 c1) 8 L (hq3f t b1 b2 b3 a1 c1 (t 4) (.pointer (some ⟨p7, 0, none⟩)) (t 23) (t 24) (.agg #[.int .i64 2, .slice a1 2 c1]) (t 26) (t 27) (t 28)) W := by
  subst hl
  unfold hq3f
  refine wpAnyH_ready (rs := [0, 6]) (by kernel_rfl) (by simp) ?_
  refine (AllReadyH.cons (o := hq3o0) rfl (fun K hK => ?_) (AllReadyH.cons (o := hq3o6) rfl (fun K hK => ?_) AllReadyH.nil))
  · rw [if_pos (by rfl)]
    unfold hq3o0
    go_simp
    go_at_call 21
    refine (h15_new_at W).mono ?_
    rintro e U ⟨a0, c0, rfl, k0, g⟩
    replace y := y.grown g
    replace HG := World.grownBy.trans HG g
    clear g
    go_wp2_with fail
    refine hK.out _ _ (hq3S HB.out HG) (fun hHeld => ?_)
    clear hK K
    try simp only [sA, sB]
    exact hq38 hp (by kernel_rfl) HB HG k0 y l_y HQ
  · rw [if_pos (by rfl)]
    unfold hq3o6
    go_simp
    have hg := World.grownBy_alloc W (.cells #[.slice none 0 0] 27) none
    have z := BoxZ.new W
    have l_z := World.grownBy.size HG
    replace y := y.grown hg
    replace HG := World.grownBy.trans HG hg
    obtain ⟨U, hU⟩ : ∃ U, W.alloc (.cells #[.slice none 0 0] 27) = U := ⟨_, rfl⟩
    rw [hU] at HG y z ⊢
    clear hU hg
    refine hK.out _ _ (hq3S HB.out HG) (fun hHeld => ?_)
    clear hK K
    try simp only [sA, sB, sC]
    exact hq310 hp (by kernel_rfl) HB HG z l_z y l_y HQ

theorem hq313 (hp : ∀ c a d v w, Q (.panic c) (Act.put a d v) w → Q (.panic c) a w)  (hl : L = #[false, true, false, false, false, false, false, false, false, false]) (HB : Hid (XB V b1 2 a1 2 c1 hM)) (HG : V.grownBy W none)  (HQ : Hid (hq3F Q V b1 b2 b3 a1 c1)) :
    wpAnyH Tryz.prog .any hq3Ops Q (hq3P V b1 a1 c1) 9 L (hq3f t b1 b2 b3 a1 c1 (t 4) (t 5) (t 23) (t 24) (.agg #[.int .i64 2, .slice a1 2 c1]) (t 26) (t 27) (t 28)) W := by
  subst hl
  unfold hq3f
  refine wpAnyH_ready (rs := [0, 6, 7]) (by kernel_rfl) (by simp) ?_
  refine (AllReadyH.cons (o := hq3o0) rfl (fun K hK => ?_) (AllReadyH.cons (o := hq3o6) rfl (fun K hK => ?_) (AllReadyH.cons (o := hq3o7) rfl (fun K hK => ?_) AllReadyH.nil)))
  · rw [if_pos (by rfl)]
    unfold hq3o0
    go_simp
    go_at_call 21
    refine (h15_new_at W).mono ?_
    rintro e U ⟨a0, c0, rfl, k0, g⟩
    replace HG := World.grownBy.trans HG g
    clear g
    go_wp2_with fail
    refine hK.out _ _ (hq3S HB.out HG) (fun hHeld => ?_)
    clear hK K
    try simp only [sA, sB]
    exact hq39 hp (by kernel_rfl) HB HG k0 HQ
  · rw [if_pos (by rfl)]
    unfold hq3o6
    go_simp
    have hg := World.grownBy_alloc W (.cells #[.slice none 0 0] 27) none
    have z := BoxZ.new W
    have l_z := World.grownBy.size HG
    replace HG := World.grownBy.trans HG hg
    obtain ⟨U, hU⟩ : ∃ U, W.alloc (.cells #[.slice none 0 0] 27) = U := ⟨_, rfl⟩
    rw [hU] at HG  z ⊢
    clear hU hg
    refine hK.out _ _ (hq3S HB.out HG) (fun hHeld => ?_)
    clear hK K
    try simp only [sA, sB, sC]
    exact hq311 hp (by kernel_rfl) HB HG z l_z HQ
  · rw [if_pos (by rfl)]
    unfold hq3o7
    go_simp
    have hg := World.grownBy_alloc W (.cells #[.int .i64 0, .slice none 0 0] 35) none
    have y := XZ.new W
    have l_y := World.grownBy.size HG
    replace HG := World.grownBy.trans HG hg
    obtain ⟨U, hU⟩ : ∃ U, W.alloc (.cells #[.int .i64 0, .slice none 0 0] 35) = U := ⟨_, rfl⟩
    rw [hU] at HG  y ⊢
    clear hU hg
    refine hK.out _ _ (hq3S HB.out HG) (fun hHeld => ?_)
    clear hK K
    try simp only [sA, sB, sC]
    exact hq312 hp (by kernel_rfl) HB HG y l_y HQ

theorem hq3_all {t0 t4 t5 t6 t7 t8 t9 t10 t11 t12 t13 t14 t15 t16 t17 t18 t19 t20 t21 t22 t23 t24 t25 t26 t27 t28 t29 t30 t31 t32 t33 t34 t35 t36 t37 t38 t39 t40 t41 t42 t43 t44 t45 t46 t47 t48 t49 t50 t51 t52 t53 t54 t55 t56 t57 t58 t59 t60 t61 t62 t63 t64 t65 t66 t67 t68 t69 t70 t71 t72 t73 t74 t75 t76 t77 t78 t79 t80 t81 t82 t83 t84 t85 t86 t87 t88 t89 t90 t91 t92 t93 : Value} (hp : ∀ c a d v w, Q (.panic c) (Act.put a d v) w → Q (.panic c) a w) (HB : Hid (XB V b1 2 a1 2 c1 hM)) (HQ : Hid (hq3F Q V b1 b2 b3 a1 c1)) :
    (Code.region 3 hq3Ops true).wp Tryz.prog Q ⟨#[t0, .pointer (some ⟨b1, 0, none⟩), .pointer (some ⟨b2, 0, none⟩), .pointer (some ⟨b3, 0, none⟩), t4, t5, t6, t7, t8, t9, t10, t11, t12, t13, t14, t15, t16, t17, t18, t19, t20, t21, t22, t23, t24, t25, t26, t27, t28, t29, t30, t31, t32, t33, t34, t35, t36, t37, t38, t39, t40, t41, t42, t43, t44, t45, t46, t47, t48, t49, t50, t51, t52, t53, t54, t55, t56, t57, t58, t59, t60, t61, t62, t63, t64, t65, t66, t67, t68, t69, t70, t71, t72, t73, t74, t75, t76, t77, t78, t79, t80, t81, t82, t83, t84, t85, t86, t87, t88, t89, t90, t91, t92, t93], []⟩ V := by
  have HG := ((⟨rfl, rfl, rfl, Nat.le_refl _, fun _ _ _ => rfl⟩ : V.grownBy V.drew none))
  refine wp_region_held_drew (S := (hq3P V b1 a1 c1)) (by kernel_rfl) (hq3S HB.out HG) (fun hHeld => ?_)
  refine tk 1 hq3o1 ?_ rfl (by kernel_rfl) (fun c a w h => hp c a _ _ w h) (by rfl) ?_ hHeld ?_
  rotate_left 1
  · (intro W hSW; unfold hq3P at hSW; unfold hq3o1; first | (go_simp; done) | (go_simp; with_reducible rfl))
  try simp only [Act.put, sA, sB, sC]
  exact hq313 (t := fun k => List.getD [t0, undef, undef, undef, t4, t5, t6, t7, t8, t9, t10, t11, t12, t13, t14, t15, t16, t17, t18, t19, t20, t21, t22, t23, t24, t25, t26, t27, t28, t29, t30, t31, t32, t33, t34, t35, t36, t37, t38, t39, t40, t41, t42, t43, t44, t45, t46, t47, t48, t49, t50, t51, t52, t53, t54, t55, t56, t57, t58, t59, t60, t61, t62, t63, t64, t65, t66, t67, t68, t69, t70, t71, t72, t73, t74, t75, t76, t77, t78, t79, t80, t81, t82, t83, t84, t85, t86, t87, t88, t89, t90, t91, t92, t93] k undef) hp (by kernel_rfl) HB HG HQ
end
abbrev hq4o0 : Oper := { dst := some 30, op := Op.call { callee := Callee.value (Operand.func 21), args := #[], argTypes := #[] }, type := 27, pos := "law.go:21", after := #[], guard := none }
abbrev hq4o1 : Oper := { dst := some 31, op := Op.load 35 (Operand.tmp 1), type := 35, pos := "law.go:21", after := #[], guard := none }
abbrev hq4o2 : Oper := { dst := some 32, op := Op.call { callee := Callee.value (Operand.func 36), args := #[Operand.tmp 30, Operand.const (Value.int IntKind.i64 3), Operand.tmp 31], argTypes := #[27, 3, 35] }, type := 54, pos := "law.go:21", after := #[{ on := 0, ground := Ground.data }, { on := 1, ground := Ground.data }, { on := 0, ground := Ground.chain }], guard := none }
abbrev hq4o3 : Oper := { dst := some 29, op := Op.move (Operand.tmp 32), type := 54, pos := "law.go:21", after := #[{ on := 2, ground := Ground.data }], guard := none }
abbrev hq4o4 : Oper := { dst := some 33, op := Op.extract (Operand.tmp 29) 0, type := 27, pos := "law.go:21", after := #[{ on := 3, ground := Ground.data }], guard := none }
abbrev hq4o5 : Oper := { dst := some 34, op := Op.extract (Operand.tmp 29) 1, type := 3, pos := "law.go:21", after := #[{ on := 3, ground := Ground.data }, { on := 7, ground := Ground.gcOnly Departure.lateStores }], guard := none }
abbrev hq4o6 : Oper := { dst := some 6, op := Op.alloc 27, type := 0, pos := "law.go:21", after := #[], guard := none }
abbrev hq4o7 : Oper := { dst := none, op := Op.store 27 (Operand.tmp 6) (Operand.tmp 33), type := 0, pos := "law.go:21", after := #[{ on := 6, ground := Ground.data }, { on := 4, ground := Ground.data }, { on := 2, ground := Ground.chain }, { on := 0, ground := Ground.phase }, { on := 1, ground := Ground.phase }, { on := 2, ground := Ground.phase }, { on := 3, ground := Ground.phase }, { on := 4, ground := Ground.phase }, { on := 5, ground := Ground.textOnly Departure.lateStores }, { on := 6, ground := Ground.phase }], guard := none }
abbrev hq4o8 : Oper := { dst := some 7, op := Op.assign (Operand.tmp 34), type := 3, pos := "law.go:21", after := #[{ on := 5, ground := Ground.data }, { on := 7, ground := Ground.chain }, { on := 0, ground := Ground.phase }, { on := 1, ground := Ground.phase }, { on := 2, ground := Ground.phase }, { on := 3, ground := Ground.phase }, { on := 4, ground := Ground.phase }, { on := 5, ground := Ground.phase }, { on := 6, ground := Ground.phase }, { on := 7, ground := Ground.phase }], guard := none }
def hq4Ops : Array Oper := #[hq4o0, hq4o1, hq4o2, hq4o3, hq4o4, hq4o5, hq4o6, hq4o7, hq4o8]
def hq4P (V : World) (b1 : Nat) (a1 : Option Addr) (c1 : Nat) : World → Prop := (fun Wh : World => V.grownBy Wh none ∧ Wh.cell? ⟨b1, 0, none⟩ = some (.int .i64 2) ∧ Wh.cell? ⟨b1, 1, none⟩ = some (.slice a1 2 c1))
theorem hq4S {V W : World} {b1 : Nat} {a1 : Option Addr} {c1 : Nat} (h : XB V b1 2 a1 2 c1 hM) (HG : V.grownBy W none) : (hq4P V b1 a1 c1) W := ⟨HG, (h.grown HG).1, (h.grown HG).2.1⟩
def hq4F (Q : Exit → Act → World → Prop) (V : World) (b1 b2 b3 b4 b5 : Nat) (_a1 : Option Addr) (_c1 : Nat) : Prop := ∀ (aJ : Option Addr) (cJ : Nat) (p6 : Nat) (u0 u8 u9 u10 u11 u12 u13 u14 u15 u16 u17 u18 u19 u20 u21 u22 u23 u24 u25 u26 u27 u28 u29 u30 u31 u32 u33 u34 u35 u36 u37 u38 u39 u40 u41 u42 u43 u44 u45 u46 u47 u48 u49 u50 u51 u52 u53 u54 u55 u56 u57 u58 u59 u60 u61 u62 u63 u64 u65 u66 u67 u68 u69 u70 u71 u72 u73 u74 u75 u76 u77 u78 u79 u80 u81 u82 u83 u84 u85 u86 u87 u88 u89 u90 u91 u92 u93 : Value) (W : World), V.grownBy W none → V.heap.size ≤ p6 → CB W p6 aJ cJ hN → Q .normal ⟨#[u0, .pointer (some ⟨b1, 0, none⟩), .pointer (some ⟨b2, 0, none⟩), .pointer (some ⟨b3, 0, none⟩), .pointer (some ⟨b4, 0, none⟩), .pointer (some ⟨b5, 0, none⟩), .pointer (some ⟨p6, 0, none⟩), .int .i64 0, u8, u9, u10, u11, u12, u13, u14, u15, u16, u17, u18, u19, u20, u21, u22, u23, u24, u25, u26, u27, u28, u29, u30, u31, u32, u33, u34, u35, u36, u37, u38, u39, u40, u41, u42, u43, u44, u45, u46, u47, u48, u49, u50, u51, u52, u53, u54, u55, u56, u57, u58, u59, u60, u61, u62, u63, u64, u65, u66, u67, u68, u69, u70, u71, u72, u73, u74, u75, u76, u77, u78, u79, u80, u81, u82, u83, u84, u85, u86, u87, u88, u89, u90, u91, u92, u93], []⟩ W
def hq4f (t : Nat → Value) (b1 b2 b3 b4 b5 : Nat) (_a1 : Option Addr) (_c1 : Nat) (v6 v7 v29 v30 v31 v32 v33 v34 : Value) : Act := ⟨#[t 0, .pointer (some ⟨b1, 0, none⟩), .pointer (some ⟨b2, 0, none⟩), .pointer (some ⟨b3, 0, none⟩), .pointer (some ⟨b4, 0, none⟩), .pointer (some ⟨b5, 0, none⟩), v6, v7, t 8, t 9, t 10, t 11, t 12, t 13, t 14, t 15, t 16, t 17, t 18, t 19, t 20, t 21, t 22, t 23, t 24, t 25, t 26, t 27, t 28, v29, v30, v31, v32, v33, v34, t 35, t 36, t 37, t 38, t 39, t 40, t 41, t 42, t 43, t 44, t 45, t 46, t 47, t 48, t 49, t 50, t 51, t 52, t 53, t 54, t 55, t 56, t 57, t 58, t 59, t 60, t 61, t 62, t 63, t 64, t 65, t 66, t 67, t 68, t 69, t 70, t 71, t 72, t 73, t 74, t 75, t 76, t 77, t 78, t 79, t 80, t 81, t 82, t 83, t 84, t 85, t 86, t 87, t 88, t 89, t 90, t 91, t 92, t 93], []⟩
section
variable {Q : Exit → Act → World → Prop} {V W : World} {b1 b2 b3 b4 b5 : Nat} {a1 : Option Addr} {c1 : Nat} {L : Array Bool} {t : Nat → Value}
theorem hq40 (_hp : ∀ c a d v w, Q (.panic c) (Act.put a d v) w → Q (.panic c) a w) {a0 : Option Addr} {c0 : Nat} {aJ : Option Addr} {cJ : Nat} {p6 : Nat} (hl : L = #[true, true, true, true, true, true, true, true, true]) (_HB : Hid (XB V b1 2 a1 2 c1 hM)) (HG : V.grownBy W none) (l_z : V.heap.size ≤ p6) (cb : CB W p6 aJ cJ hN) (HQ : Hid (hq4F Q V b1 b2 b3 b4 b5 a1 c1)) :
    wpAnyH Tryz.prog .any hq4Ops Q (hq4P V b1 a1 c1) 0 L (hq4f t b1 b2 b3 b4 b5 a1 c1 (.pointer (some ⟨p6, 0, none⟩)) (.int .i64 0) (.tuple #[.agg #[.slice aJ 1 cJ], .int .i64 0]) (.agg #[.slice a0 1 c0]) (.agg #[.int .i64 2, .slice a1 2 c1]) (.tuple #[.agg #[.slice aJ 1 cJ], .int .i64 0]) (.agg #[.slice aJ 1 cJ]) (.int .i64 0)) W := by
  subst hl
  unfold hq4f
  refine wpAnyH_done (by kernel_rfl) ?_ _
  exact HQ.out _ _ _ _ _ _ _ _ _ _ _ _ _ _ _ _ _ _ _ _ _ _ _ _ _ _ _ _ _ _ _ _ _ _ _ _ _ _ _ _ _ _ _ _ _ _ _ _ _ _ _ _ _ _ _ _ _ _ _ _ _ _ _ _ _ _ _ _ _ _ _ _ _ _ _ _ _ _ _ _ _ _ _ _ _ _ _ _ _ _ _ HG l_z cb

theorem hq41 (hp : ∀ c a d v w, Q (.panic c) (Act.put a d v) w → Q (.panic c) a w) {a0 : Option Addr} {c0 : Nat} {aJ : Option Addr} {cJ : Nat} {p6 : Nat} (hl : L = #[true, true, true, true, true, true, true, false, false]) (HB : Hid (XB V b1 2 a1 2 c1 hM)) (HG : V.grownBy W none) (gJ : GatesW W aJ cJ hN) (z : BoxZ W p6) (l_z : V.heap.size ≤ p6) (HQ : Hid (hq4F Q V b1 b2 b3 b4 b5 a1 c1)) :
    wpAnyH Tryz.prog .any hq4Ops Q (hq4P V b1 a1 c1) 2 L (hq4f t b1 b2 b3 b4 b5 a1 c1 (.pointer (some ⟨p6, 0, none⟩)) (t 7) (.tuple #[.agg #[.slice aJ 1 cJ], .int .i64 0]) (.agg #[.slice a0 1 c0]) (.agg #[.int .i64 2, .slice a1 2 c1]) (.tuple #[.agg #[.slice aJ 1 cJ], .int .i64 0]) (.agg #[.slice aJ 1 cJ]) (.int .i64 0)) W := by
  subst hl
  unfold hq4f
  refine wpAnyH_ready (rs := [7]) (by kernel_rfl) (by simp) ?_
  refine (AllReadyH.cons (o := hq4o7) rfl (fun K hK => ?_) AllReadyH.nil)
  rw [if_pos (by rfl)]
  unfold hq4o7
  have z0 := z.1
  have zf := z.2
  go_simp
  have cb := (show CB (W.setCell ⟨p6, 0, none⟩ (.slice aJ 1 cJ)) p6 aJ cJ hN from CB.put gJ z.1 z.2)
  replace HG := grown_own HG (grown_set W p6 0 (.slice aJ 1 cJ)) (fun k e => by cases e; exact l_z)
  clear gJ z
  obtain ⟨U, hU⟩ : ∃ U, W.setCell ⟨p6, 0, none⟩ (.slice aJ 1 cJ) = U := ⟨_, rfl⟩
  rw [hU] at HG cb ⊢
  clear hU
  refine hK.out _ _ (hq4S HB.out HG) (fun hHeld => ?_)
  clear hK K
  try simp only [sA, sB, sC]
  refine tk 8 hq4o8 ?_ rfl (by kernel_rfl) (fun c a w h => hp c a _ _ w h) (by rfl) ?_ hHeld ?_
  rotate_left 1
  · (intro W hSW; unfold hq4P at hSW; unfold hq4o8; first | (go_simp; done) | (go_simp; with_reducible rfl))
  try simp only [Act.put, sA, sB, sC]
  exact hq40 hp (by kernel_rfl) HB HG l_z cb HQ

theorem hq42 (hp : ∀ c a d v w, Q (.panic c) (Act.put a d v) w → Q (.panic c) a w) {a0 : Option Addr} {c0 : Nat} {aJ : Option Addr} {cJ : Nat} (hl : L = #[true, true, true, true, true, true, false, false, false]) (HB : Hid (XB V b1 2 a1 2 c1 hM)) (HG : V.grownBy W none) (gJ : GatesW W aJ cJ hN) (HQ : Hid (hq4F Q V b1 b2 b3 b4 b5 a1 c1)) :
    wpAnyH Tryz.prog .any hq4Ops Q (hq4P V b1 a1 c1) 3 L (hq4f t b1 b2 b3 b4 b5 a1 c1 (t 6) (t 7) (.tuple #[.agg #[.slice aJ 1 cJ], .int .i64 0]) (.agg #[.slice a0 1 c0]) (.agg #[.int .i64 2, .slice a1 2 c1]) (.tuple #[.agg #[.slice aJ 1 cJ], .int .i64 0]) (.agg #[.slice aJ 1 cJ]) (.int .i64 0)) W := by
  subst hl
  unfold hq4f
  refine wpAnyH_ready (rs := [6]) (by kernel_rfl) (by simp) ?_
  refine (AllReadyH.cons (o := hq4o6) rfl (fun K hK => ?_) AllReadyH.nil)
  rw [if_pos (by rfl)]
  unfold hq4o6
  go_simp
  have hg := World.grownBy_alloc W (.cells #[.slice none 0 0] 27) none
  have z := BoxZ.new W
  have l_z := World.grownBy.size HG
  replace gJ := gJ.grown hg
  replace HG := World.grownBy.trans HG hg
  obtain ⟨U, hU⟩ : ∃ U, W.alloc (.cells #[.slice none 0 0] 27) = U := ⟨_, rfl⟩
  rw [hU] at HG gJ z ⊢
  clear hU hg
  refine hK.out _ _ (hq4S HB.out HG) (fun hHeld => ?_)
  clear hK K
  try simp only [sA, sB, sC]
  exact hq41 hp (by kernel_rfl) HB HG gJ z l_z HQ

theorem hq43 (hp : ∀ c a d v w, Q (.panic c) (Act.put a d v) w → Q (.panic c) a w) {a0 : Option Addr} {c0 : Nat} {p6 : Nat} (hl : L = #[true, true, false, false, false, false, true, false, false]) (HB : Hid (XB V b1 2 a1 2 c1 hM)) (HG : V.grownBy W none) (k0 : GatesW W a0 c0 hN) (z : BoxZ W p6) (l_z : V.heap.size ≤ p6) (HQ : Hid (hq4F Q V b1 b2 b3 b4 b5 a1 c1)) :
    wpAnyH Tryz.prog .any hq4Ops Q (hq4P V b1 a1 c1) 6 L (hq4f t b1 b2 b3 b4 b5 a1 c1 (.pointer (some ⟨p6, 0, none⟩)) (t 7) (t 29) (.agg #[.slice a0 1 c0]) (.agg #[.int .i64 2, .slice a1 2 c1]) (t 32) (t 33) (t 34)) W := by
  subst hl
  unfold hq4f
  refine wpAnyH_ready (rs := [2]) (by kernel_rfl) (by simp) ?_
  refine (AllReadyH.cons (o := hq4o2) rfl (fun K hK => ?_) AllReadyH.nil)
  rw [if_pos (by rfl)]
  unfold hq4o2
  go_simp
  go_at_call 36
  refine (h15_ac_at k0 (HB.out.grown HG).2.2.2).mono ?_
  rintro e U ⟨aJ, cJ, rfl, gJ, g⟩
  replace z := z.grown g
  replace HG := World.grownBy.trans HG g
  clear g
  go_wp2_with fail
  refine hK.out _ _ (hq4S HB.out HG) (fun hHeld => ?_)
  clear hK K
  try simp only [sA, sB, sC]
  refine tk 3 hq4o3 ?_ rfl (by kernel_rfl) (fun c a w h => hp c a _ _ w h) (by rfl) ?_ hHeld ?_
  rotate_left 1
  · (intro W hSW; unfold hq4P at hSW; unfold hq4o3; first | (go_simp; done) | (go_simp; with_reducible rfl))
  try simp only [Act.put, sA, sB, sC]
  refine tk 4 hq4o4 ?_ rfl (by kernel_rfl) (fun c a w h => hp c a _ _ w h) (by rfl) ?_ hHeld ?_
  rotate_left 1
  · (intro W hSW; unfold hq4P at hSW; unfold hq4o4; first | (go_simp; done) | (go_simp; with_reducible rfl))
  try simp only [Act.put, sA, sB, sC]
  refine tk 5 hq4o5 ?_ rfl (by kernel_rfl) (fun c a w h => hp c a _ _ w h) (by rfl) ?_ hHeld ?_
  rotate_left 1
  · (intro W hSW; unfold hq4P at hSW; unfold hq4o5; first | (go_simp; done) | (go_simp; with_reducible rfl))
  try simp only [Act.put, sA, sB, sC]
  exact hq41 hp (by kernel_rfl) HB HG gJ z l_z HQ

theorem hq44 (hp : ∀ c a d v w, Q (.panic c) (Act.put a d v) w → Q (.panic c) a w) {a0 : Option Addr} {c0 : Nat} (hl : L = #[true, true, false, false, false, false, false, false, false]) (HB : Hid (XB V b1 2 a1 2 c1 hM)) (HG : V.grownBy W none) (k0 : GatesW W a0 c0 hN) (HQ : Hid (hq4F Q V b1 b2 b3 b4 b5 a1 c1)) :
    wpAnyH Tryz.prog .any hq4Ops Q (hq4P V b1 a1 c1) 7 L (hq4f t b1 b2 b3 b4 b5 a1 c1 (t 6) (t 7) (t 29) (.agg #[.slice a0 1 c0]) (.agg #[.int .i64 2, .slice a1 2 c1]) (t 32) (t 33) (t 34)) W := by
  subst hl
  unfold hq4f
  refine wpAnyH_ready (rs := [2, 6]) (by kernel_rfl) (by simp) ?_
  refine (AllReadyH.cons (o := hq4o2) rfl (fun K hK => ?_) (AllReadyH.cons (o := hq4o6) rfl (fun K hK => ?_) AllReadyH.nil))
  · rw [if_pos (by rfl)]
    unfold hq4o2
    go_simp
    go_at_call 36
    refine (h15_ac_at k0 (HB.out.grown HG).2.2.2).mono ?_
    rintro e U ⟨aJ, cJ, rfl, gJ, g⟩
    replace HG := World.grownBy.trans HG g
    clear g
    go_wp2_with fail
    refine hK.out _ _ (hq4S HB.out HG) (fun hHeld => ?_)
    clear hK K
    try simp only [sA, sB, sC]
    refine tk 3 hq4o3 ?_ rfl (by kernel_rfl) (fun c a w h => hp c a _ _ w h) (by rfl) ?_ hHeld ?_
    rotate_left 1
    · (intro W hSW; unfold hq4P at hSW; unfold hq4o3; first | (go_simp; done) | (go_simp; with_reducible rfl))
    try simp only [Act.put, sA, sB, sC]
    refine tk 4 hq4o4 ?_ rfl (by kernel_rfl) (fun c a w h => hp c a _ _ w h) (by rfl) ?_ hHeld ?_
    rotate_left 1
    · (intro W hSW; unfold hq4P at hSW; unfold hq4o4; first | (go_simp; done) | (go_simp; with_reducible rfl))
    try simp only [Act.put, sA, sB, sC]
    refine tk 5 hq4o5 ?_ rfl (by kernel_rfl) (fun c a w h => hp c a _ _ w h) (by rfl) ?_ hHeld ?_
    rotate_left 1
    · (intro W hSW; unfold hq4P at hSW; unfold hq4o5; first | (go_simp; done) | (go_simp; with_reducible rfl))
    try simp only [Act.put, sA, sB, sC]
    exact hq42 hp (by kernel_rfl) HB HG gJ HQ
  · rw [if_pos (by rfl)]
    unfold hq4o6
    go_simp
    have hg := World.grownBy_alloc W (.cells #[.slice none 0 0] 27) none
    have z := BoxZ.new W
    have l_z := World.grownBy.size HG
    replace k0 := k0.grown hg
    replace HG := World.grownBy.trans HG hg
    obtain ⟨U, hU⟩ : ∃ U, W.alloc (.cells #[.slice none 0 0] 27) = U := ⟨_, rfl⟩
    rw [hU] at HG k0 z ⊢
    clear hU hg
    refine hK.out _ _ (hq4S HB.out HG) (fun hHeld => ?_)
    clear hK K
    try simp only [sA, sB, sC]
    exact hq43 hp (by kernel_rfl) HB HG k0 z l_z HQ

theorem hq45 (hp : ∀ c a d v w, Q (.panic c) (Act.put a d v) w → Q (.panic c) a w) {p6 : Nat} (hl : L = #[false, true, false, false, false, false, true, false, false]) (HB : Hid (XB V b1 2 a1 2 c1 hM)) (HG : V.grownBy W none) (z : BoxZ W p6) (l_z : V.heap.size ≤ p6) (HQ : Hid (hq4F Q V b1 b2 b3 b4 b5 a1 c1)) :
    wpAnyH Tryz.prog .any hq4Ops Q (hq4P V b1 a1 c1) 7 L (hq4f t b1 b2 b3 b4 b5 a1 c1 (.pointer (some ⟨p6, 0, none⟩)) (t 7) (t 29) (t 30) (.agg #[.int .i64 2, .slice a1 2 c1]) (t 32) (t 33) (t 34)) W := by
  subst hl
  unfold hq4f
  refine wpAnyH_ready (rs := [0]) (by kernel_rfl) (by simp) ?_
  refine (AllReadyH.cons (o := hq4o0) rfl (fun K hK => ?_) AllReadyH.nil)
  rw [if_pos (by rfl)]
  unfold hq4o0
  go_simp
  go_at_call 21
  refine (h15_new_at W).mono ?_
  rintro e U ⟨a0, c0, rfl, k0, g⟩
  replace z := z.grown g
  replace HG := World.grownBy.trans HG g
  clear g
  go_wp2_with fail
  refine hK.out _ _ (hq4S HB.out HG) (fun hHeld => ?_)
  clear hK K
  try simp only [sA, sB]
  exact hq43 hp (by kernel_rfl) HB HG k0 z l_z HQ

theorem hq46 (hp : ∀ c a d v w, Q (.panic c) (Act.put a d v) w → Q (.panic c) a w)  (hl : L = #[false, true, false, false, false, false, false, false, false]) (HB : Hid (XB V b1 2 a1 2 c1 hM)) (HG : V.grownBy W none)  (HQ : Hid (hq4F Q V b1 b2 b3 b4 b5 a1 c1)) :
    wpAnyH Tryz.prog .any hq4Ops Q (hq4P V b1 a1 c1) 8 L (hq4f t b1 b2 b3 b4 b5 a1 c1 (t 6) (t 7) (t 29) (t 30) (.agg #[.int .i64 2, .slice a1 2 c1]) (t 32) (t 33) (t 34)) W := by
  subst hl
  unfold hq4f
  refine wpAnyH_ready (rs := [0, 6]) (by kernel_rfl) (by simp) ?_
  refine (AllReadyH.cons (o := hq4o0) rfl (fun K hK => ?_) (AllReadyH.cons (o := hq4o6) rfl (fun K hK => ?_) AllReadyH.nil))
  · rw [if_pos (by rfl)]
    unfold hq4o0
    go_simp
    go_at_call 21
    refine (h15_new_at W).mono ?_
    rintro e U ⟨a0, c0, rfl, k0, g⟩
    replace HG := World.grownBy.trans HG g
    clear g
    go_wp2_with fail
    refine hK.out _ _ (hq4S HB.out HG) (fun hHeld => ?_)
    clear hK K
    try simp only [sA, sB]
    exact hq44 hp (by kernel_rfl) HB HG k0 HQ
  · rw [if_pos (by rfl)]
    unfold hq4o6
    go_simp
    have hg := World.grownBy_alloc W (.cells #[.slice none 0 0] 27) none
    have z := BoxZ.new W
    have l_z := World.grownBy.size HG
    replace HG := World.grownBy.trans HG hg
    obtain ⟨U, hU⟩ : ∃ U, W.alloc (.cells #[.slice none 0 0] 27) = U := ⟨_, rfl⟩
    rw [hU] at HG  z ⊢
    clear hU hg
    refine hK.out _ _ (hq4S HB.out HG) (fun hHeld => ?_)
    clear hK K
    try simp only [sA, sB, sC]
    exact hq45 hp (by kernel_rfl) HB HG z l_z HQ

theorem hq4_all {t0 t6 t7 t8 t9 t10 t11 t12 t13 t14 t15 t16 t17 t18 t19 t20 t21 t22 t23 t24 t25 t26 t27 t28 t29 t30 t31 t32 t33 t34 t35 t36 t37 t38 t39 t40 t41 t42 t43 t44 t45 t46 t47 t48 t49 t50 t51 t52 t53 t54 t55 t56 t57 t58 t59 t60 t61 t62 t63 t64 t65 t66 t67 t68 t69 t70 t71 t72 t73 t74 t75 t76 t77 t78 t79 t80 t81 t82 t83 t84 t85 t86 t87 t88 t89 t90 t91 t92 t93 : Value} (hp : ∀ c a d v w, Q (.panic c) (Act.put a d v) w → Q (.panic c) a w) (HB : Hid (XB V b1 2 a1 2 c1 hM)) (HQ : Hid (hq4F Q V b1 b2 b3 b4 b5 a1 c1)) :
    (Code.region 4 hq4Ops true).wp Tryz.prog Q ⟨#[t0, .pointer (some ⟨b1, 0, none⟩), .pointer (some ⟨b2, 0, none⟩), .pointer (some ⟨b3, 0, none⟩), .pointer (some ⟨b4, 0, none⟩), .pointer (some ⟨b5, 0, none⟩), t6, t7, t8, t9, t10, t11, t12, t13, t14, t15, t16, t17, t18, t19, t20, t21, t22, t23, t24, t25, t26, t27, t28, t29, t30, t31, t32, t33, t34, t35, t36, t37, t38, t39, t40, t41, t42, t43, t44, t45, t46, t47, t48, t49, t50, t51, t52, t53, t54, t55, t56, t57, t58, t59, t60, t61, t62, t63, t64, t65, t66, t67, t68, t69, t70, t71, t72, t73, t74, t75, t76, t77, t78, t79, t80, t81, t82, t83, t84, t85, t86, t87, t88, t89, t90, t91, t92, t93], []⟩ V := by
  have HG := ((⟨rfl, rfl, rfl, Nat.le_refl _, fun _ _ _ => rfl⟩ : V.grownBy V.drew none))
  refine wp_region_held_drew (S := (hq4P V b1 a1 c1)) (by kernel_rfl) (hq4S HB.out HG) (fun hHeld => ?_)
  refine tk 1 hq4o1 ?_ rfl (by kernel_rfl) (fun c a w h => hp c a _ _ w h) (by rfl) ?_ hHeld ?_
  rotate_left 1
  · (intro W hSW; unfold hq4P at hSW; unfold hq4o1; first | (go_simp; done) | (go_simp; with_reducible rfl))
  try simp only [Act.put, sA, sB, sC]
  exact hq46 (t := fun k => List.getD [t0, undef, undef, undef, undef, undef, t6, t7, t8, t9, t10, t11, t12, t13, t14, t15, t16, t17, t18, t19, t20, t21, t22, t23, t24, t25, t26, t27, t28, t29, t30, t31, t32, t33, t34, t35, t36, t37, t38, t39, t40, t41, t42, t43, t44, t45, t46, t47, t48, t49, t50, t51, t52, t53, t54, t55, t56, t57, t58, t59, t60, t61, t62, t63, t64, t65, t66, t67, t68, t69, t70, t71, t72, t73, t74, t75, t76, t77, t78, t79, t80, t81, t82, t83, t84, t85, t86, t87, t88, t89, t90, t91, t92, t93] k undef) hp (by kernel_rfl) HB HG HQ
end
end Go.Proofs.YthdhmflodiincaaGreat

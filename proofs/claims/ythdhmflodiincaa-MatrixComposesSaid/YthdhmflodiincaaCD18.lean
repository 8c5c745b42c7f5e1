/- Texts of the proof: RL QS18. -/
import Derived.Test.YthdhmflodiincaaCD12
import Derived.Test.YthdhmflodiincaaCD08
import Derived.Test.YthdhmflodiincaaCD01
import Derived.Test.YthdhmflodiincaaCD00
import Derived.Laws.StructEq
import Derived.Deep.DeepCutAuto
set_option maxRecDepth 100000
set_option maxHeartbeats 8000000
namespace Go.Proofs.Ythdhmflodiincaa
open Lib (hid)
open Go.RowKit Go.Maps

theorem eqd71 (d : Nat) (x0 x1 y0 y1 : Int) (w : World) : (Op.equalIn (d + 2) 71 (.agg #[.int .i64 x0, .int .i64 x1]) (.agg #[.int .i64 y0, .int .i64 y1])).run Try.prog w = .ok (decide ((x0, x1) = (y0, y1))) w := by
 rw [Op.equalIn]
 simp only [Sem.run_bind, run_underlying Try.underlying71, Result.andThen_ok]
 have hst : Try.prog.stoodInHeld 71 = false := by kernel_rfl
 have hp : ∀ W : World, (program).run Try.prog W = .ok Try.prog W := fun W => rfl
 simp only [hp, Result.andThen_ok, hst, Bool.false_eq_true, if_false]
 have he := fun (x y : Int) (W : World) => eqI3 d x y W
 by_cases h0 : x0 = y0
 ·
  simp [part, go_sem, h0, he]
  by_cases h1 : x1 = y1 <;> simp [h1]
 · simp [part, go_sem, h0, he]
theorem eq71 (g h : Cl) (U : World) : (Op.equalIn 10000 71 (.agg #[.int .i64 g.1, .int .i64 g.2]) (.agg #[.int .i64 h.1, .int .i64 h.2])).run Try.prog U = .ok (decide (g = h)) U := eqd71 9998 g.1 g.2 h.1 h.2 U
theorem rsame_calls (gs hs : List Cl) (ar br : Int) (a : Option Addr) (c : Nat) (b : Option Addr) (d : Nat) (w : World) (h1 : CellsW w a c gs) (h2 : CellsW w b d hs) (hl : gs.length ≤ 2000) (_hl2 : hs.length ≤ 2000) :
  Calls Try.prog 27 #[.agg #[.int .i64 ar, .slice a gs.length c], .agg #[.int .i64 br, .slice b hs.length d]] w fun e w' => e = .returned (.bool (decide (ar = br) && decide (gs = hs))) ∧ w.grownBy w' none := by
 obtain ⟨n, hn⟩ : ∃ n, gs.length = n := ⟨_, rfl⟩
 obtain ⟨m, hm⟩ : ∃ m, hs.length = m := ⟨_, rfl⟩
 have hg1 := gAl w (.cells #[.int .i64 ar, .slice a n c] 26) none
 have e1 := one_cells w (.int .i64 ar) (.slice a n c) 26
 obtain ⟨W1, hW1⟩ : ∃ W, w.alloc (.cells #[.int .i64 ar, .slice a n c] 26) = W := ⟨_, rfl⟩
 rw [hW1] at hg1 e1
 have hg2 := gAl W1 (.cells #[.int .i64 br, .slice b m d] 26) none
 have e2 := one_cells W1 (.int .i64 br) (.slice b m d) 26
 obtain ⟨W2, hW2⟩ : ∃ W, W1.alloc (.cells #[.int .i64 br, .slice b m d] 26) = W := ⟨_, rfl⟩
 rw [hW2] at hg2 e2
 have q1 := hg2.cell e1.2.2.1 (by simp)
 have q2 := e2.2.2.1
 have q3 := hg2.cell e1.2.1 (by simp)
 have q4 := e2.2.1
 have HQ := hid (And.intro q1 q2)
 have HG := hid (gT hg1 hg2)
 have HA := hid ((h1.grown hg1).grown hg2)
 have HB := hid ((h2.grown hg1).grown hg2)
 have HN := hid (And.intro hn hm)
 rw [hn] at hl ⊢
 rw [hm] at _hl2 ⊢
 clear h1 h2 hg1 hg2 e1 e2 hn hm
 by_cases har : ¬ ar = br
 ·
  have fa : (ar == br) = false := by simpa using har
  have fb : (ar != br) = true := by simpa using har
  have HR := hid (show (decide (ar = br) && decide (gs = hs)) = false from by rw [decide_eq_false har]; rfl)
  clear har
  go_enter Try.func27, Try.ntmps27
  go_wp2_with fail
  go_ret
  exact ⟨by rw [HR.out]; rfl, HG.out⟩
 replace har := Decidable.not_not.1 har
 have fa : (ar == br) = true := by simpa using har
 have fb : (ar != br) = false := by simpa using har
 have hda : decide (ar = br) = true := decide_eq_true har
 rw [hda, Bool.true_and]
 clear har hda
 by_cases hnm : n = m
 ·
  have fe : (((n : Nat) : Int) == ((m : Nat) : Int)) = true := by simp [hnm]
  have fe2 : (n == m) = true := by simp [hnm]
  have HNM := hid hnm; clear hnm
  go_enter Try.func27, Try.ntmps27
  go_wp2_with fail
  clear q1 q2 q3 q4 hW1 hW2
  go_loopg [5] n (fun g s wr => ∃ k : Nat, s = .int .i64 (k : Int) ∧ g = n - k ∧ k ≤ n ∧ (∀ j : Nat, j < k → gs[j]? = hs[j]?) ∧ W2.grownBy wr none)
  case atStart => exact ⟨0, rfl, rfl, Nat.zero_le _, fun j hj => by omega, grown_refl _ _⟩
  case round =>
   obtain ⟨k, rfl, hgk, hk, heq, hgr⟩ := hrel
   have HI := hid (And.intro hgk heq); clear hgk heq
   have q1 := hgr.cell HQ.out.1 (by simp)
   have q2 := hgr.cell HQ.out.2 (by simp)
   have HGR := hid hgr; clear hgr
   by_cases hkn : k < n
   ·
    have f1 : decide (k < n) = true := decide_eq_true hkn
    have hk1 : IntKind.i64.wrap ((k : Int) + 1) = ((k + 1 : Nat) : Int) := by rw [IntWalk.i64_in _ (by omega)]; omega
    have hjn : (k : Int) < (n : Int) := by omega
    have hjm : (k : Int) < (m : Int) := by have := HNM.out; omega
    have hj0 : (0 : Int) ≤ (k : Int) := by omega
    obtain ⟨g, hg⟩ : ∃ g, gs[k]? = some g := ⟨_, List.getElem?_eq_getElem (by rw [HN.out.1]; omega)⟩
    obtain ⟨h, hh⟩ : ∃ h, hs[k]? = some h := ⟨_, List.getElem?_eq_getElem (by rw [HN.out.2]; have := HNM.out; omega)⟩
    obtain ⟨ba, oa, rfl, x0, x1⟩ := (HA.out.grown HGR.out).at hg
    obtain ⟨bb, ob, rfl, y0, y1⟩ := (HB.out.grown HGR.out).at hh
    have HGH := hid (And.intro hg hh); clear hg hh
    by_cases hgh : g = h
    ·
     have he : ∀ U : World, (Op.equalIn 10000 71 (.agg #[.int .i64 g.1, .int .i64 g.2]) (.agg #[.int .i64 h.1, .int .i64 h.2])).run Try.prog U = .ok true U := fun U => by rw [eq71 g h U, decide_eq_true hgh]
     have HS := hid (show ∀ j : Nat, j < k + 1 → gs[j]? = hs[j]? from fun j hj => by
      by_cases hjk : j = k
      · subst hjk; rw [HGH.out.1, HGH.out.2, hgh]
      · exact HI.out.2 j (by omega))
     have HQQ := hid hgh; clear hgh
     go_wp2_with fail
     go_quiet (fail)
     go_wp2_with fail
     go_roundg (n - (k + 1))
     case measure => rw [HI.out.1]; omega
     case rel => exact ⟨k + 1, rfl, rfl, by omega, HS.out, gT HGR.out (grown_drewN wr nq none)⟩
    ·
     have he : ∀ U : World, (Op.equalIn 10000 71 (.agg #[.int .i64 g.1, .int .i64 g.2]) (.agg #[.int .i64 h.1, .int .i64 h.2])).run Try.prog U = .ok false U := fun U => by rw [eq71 g h U, decide_eq_false hgh]
     have HR := hid (show decide (gs = hs) = false from decide_eq_false fun e => hgh (by have h1 := HGH.out.1; have h2 := HGH.out.2; rw [e, h2] at h1; injection h1 with h1; exact h1.symm))
     have HQQ := hid hgh; clear hgh
     go_wp2_with fail
     go_quiet (fail)
     go_wp2_with fail
     go_ret
     exact ⟨by rw [HR.out]; rfl, gT HG.out (gT HGR.out (grown_drewN wr nq none))⟩
   ·
    have f1 : decide (k < n) = false := decide_eq_false hkn
    have HR := hid (show decide (gs = hs) = true from decide_eq_true (ext_upto (by rw [HN.out.1, HN.out.2]; exact HNM.out) (fun j hj => HI.out.2 j (by rw [HN.out.1] at hj; omega))))
    go_wp2_with fail
    go_ret
    exact ⟨by rw [HR.out]; rfl, gT HG.out HGR.out⟩
 ·
  have fe : (((n : Nat) : Int) == ((m : Nat) : Int)) = false := beqF (by omega)
  have fe2 : (n == m) = false := by simp [hnm]
  have HR := hid (show decide (gs = hs) = false from decide_eq_false fun e => hnm (by rw [← HN.out.1, ← HN.out.2, e]))
  clear hnm
  go_enter Try.func27, Try.ntmps27
  go_wp2_with fail
  go_ret
  exact ⟨by rw [HR.out]; rfl, HG.out⟩
end Go.Proofs.Ythdhmflodiincaa
namespace Go.Proofs.Ythdhmflodiincaa
open Lib (hid)
open Go.RowKit Go.Shelf Go.Maps

abbrev qs18o0 : Oper := { dst := some 37, op := Op.load 24 (Operand.tmp 36), type := 24, pos := "matrix.go:51", after := #[{ on := 0, ground := Ground.data }], guard := none }
abbrev qs18o1 : Oper := { dst := some 47, op := Op.call { callee := Callee.value (Operand.func 75), args := #[Operand.tmp 42, Operand.tmp 44, Operand.tmp 46], argTypes := #[86, 3, 3] }, type := 3, pos := "matrix.go:51", after := #[{ on := 6, ground := Ground.data }, { on := 8, ground := Ground.data }, { on := 10, ground := Ground.data }], guard := none }
abbrev qs18o2 : Oper := { dst := some 48, op := Op.call { callee := Callee.value (Operand.func 74), args := #[Operand.tmp 37, Operand.tmp 38, Operand.tmp 47], argTypes := #[24, 3, 3] }, type := 24, pos := "matrix.go:51", after := #[{ on := 1, ground := Ground.data }, { on := 2, ground := Ground.data }, { on := 11, ground := Ground.data }, { on := 11, ground := Ground.chain }], guard := none }
abbrev qs18o3 : Oper := { dst := some 49, op := Op.fieldAddr 26 (Operand.tmp 9) 1, type := 0, pos := "matrix.go:51", after := #[{ on := 0, ground := Ground.phase }, { on := 1, ground := Ground.phase }, { on := 2, ground := Ground.phase }, { on := 3, ground := Ground.phase }, { on := 4, ground := Ground.phase }, { on := 5, ground := Ground.phase }, { on := 6, ground := Ground.phase }, { on := 7, ground := Ground.phase }, { on := 8, ground := Ground.phase }, { on := 9, ground := Ground.phase }, { on := 10, ground := Ground.phase }, { on := 11, ground := Ground.phase }, { on := 12, ground := Ground.phase }], guard := none }
abbrev qs18o4 : Oper := { dst := none, op := Op.store 24 (Operand.tmp 49) (Operand.tmp 48), type := 0, pos := "matrix.go:51", after := #[{ on := 13, ground := Ground.data }, { on := 12, ground := Ground.data }, { on := 12, ground := Ground.chain }, { on := 0, ground := Ground.phase }, { on := 1, ground := Ground.phase }, { on := 2, ground := Ground.phase }, { on := 3, ground := Ground.phase }, { on := 4, ground := Ground.phase }, { on := 5, ground := Ground.phase }, { on := 6, ground := Ground.phase }, { on := 7, ground := Ground.phase }, { on := 8, ground := Ground.phase }, { on := 9, ground := Ground.phase }, { on := 10, ground := Ground.phase }, { on := 11, ground := Ground.phase }, { on := 12, ground := Ground.phase }], guard := none }
attribute [local go_sem] Oper.semAt_some
theorem resM18 (tmps : Array Value) (w : World) (b c : Nat) (a : Option Addr) (n d : Nat) (x y : Value) (ht : tmps.getD 6 undef = .pointer (some ⟨b, 0, none⟩)) (hu : tmps.getD 7 undef = .pointer (some ⟨c, 0, none⟩)) (h0 : w.cell? ⟨b, 0, none⟩ = some (.slice a n d)) (h1 : w.cell? ⟨c, 0, none⟩ = some x) (h2 : w.cell? ⟨c, 1, none⟩ = some y) :
  (results Try.f18 tmps).run Try.prog w = .ok (.tuple #[.agg #[.slice a n d], .agg #[x, y]]) w := by
 have ht' : tmps[6]?.getD undef = .pointer (some ⟨b, 0, none⟩) := by simpa using ht
 have hu' : tmps[7]?.getD undef = .pointer (some ⟨c, 0, none⟩) := by simpa using hu
 simp [results, ht', hu', go_sem, h0, h1, h2, Result.andThen]
def unionZ (z : Mg) : Pr Int := if z.2.2.2.1 = true then (if z.2.2.2.2 = true then orP z.2.1 z.2.2.1 else .ret z.2.1) else .ret z.2.2.1
def unionZF (m : List Cl) (z : Mg) : Pr (List Cl) := (unionZ z).bind fun r => .ret (keptM m z.1 r)
theorem munion_calls (gs : List Gt) (a b : List Cl) (ar br : Int) (gF : List Gt) (mF : List Cl) (xa : Option Addr) (xc : Nat) (aa : Option Addr) (na ca : Nat) (ba : Option Addr) (nb cb : Nat) (w : World)
  (eF : (munionP a b).run gs = (gF, mF)) (h : GatesW w xa xc gs) (hma : CellsW w aa ca a) (hna : a.length = na) (hmb : CellsW w ba cb b) (hnb : b.length = nb) (hG : Good gs) (hMa : Mat gs a) (hMb : Mat gs b) (hl : gs.length + 2 * (na + nb) ≤ 880) (hla : na ≤ 200) (hlb : nb ≤ 200) :
  Calls Try.prog 18 #[.agg #[.slice xa gs.length xc], .agg #[.int .i64 ar, .slice aa na ca], .agg #[.int .i64 br, .slice ba nb cb]] w (AnsM w gF ar mF) := by
 obtain ⟨ng, hng⟩ : ∃ n, gs.length = n := ⟨_, rfl⟩
 have hb5 := b5 w (.slice xa ng xc) (.int .i64 ar) (.slice aa na ca) (.int .i64 br) (.slice ba nb cb)
 obtain ⟨W5, hW5⟩ : ∃ z, w5 w (.slice xa ng xc) (.int .i64 ar) (.slice aa na ca) (.int .i64 br) (.slice ba nb cb) = z := ⟨_, rfl⟩
 rw [hW5] at hb5
 unfold w5 at hW5
 rw [hng] at hl ⊢
 have HB := hid hb5
 have HN := hid (And.intro hng (And.intro hna hnb))
 have HL := hid (And.intro hl (And.intro hla hlb))
 have HE := hid eF
 have HGM := hid (And.intro hG (And.intro hMa hMb))
 have HC := hid (And.intro h (And.intro hma hmb))
 have HNB := hid (fun (U : World) (hU : W5.grownBy U none) => newb_calls gs xa xc U (h.grown (gT hb5.g hU)))
 rw [hng] at HNB
 have z0 := HB.out.c
 have z1 := HB.out.a0
 have z2 := HB.out.a1
 have z3 := HB.out.b0
 have z4 := HB.out.b1
 clear hb5 hng eF h hma hna hmb hnb hG hMa hMb hl hla hlb
 refine (callsIn_wide (n := 3)).1 ?_
 refine callsIn_of_wp_marks Try.func18 rfl trivial ?_ rfl
 simp only [Try.ntmps18, List.size_toArray, List.length_cons, List.length_nil, Nat.reduceAdd, Nat.reduceSub, Array.replicate_succ, Array.replicate_zero, List.push_toArray, List.append_toArray, List.nil_append, List.cons_append]
 refine wpIn_wide.2 ?_
 go_wp2_with fail
 clear hW5 z0 z1 z2 z3 z4
 refine (HNB.out W5 (grown_refl _ _)).mono ?_
 rintro e V1 ⟨q, p, rfl, hp, hq, hpq, hq0, hgx, hg1⟩
 have hgA := gAl V1 (.cells #[.pointer (some ⟨q, 0, none⟩)] 77) none
 have hc8 := (one_cell V1 (.pointer (some ⟨q, 0, none⟩)) 77).2.1
 obtain ⟨V2, hV2⟩ : ∃ z, V1.alloc (.cells #[.pointer (some ⟨q, 0, none⟩)] 77) = z := ⟨_, rfl⟩
 have hs2 : V2.heap.size = V1.heap.size + 1 := by rw [← hV2]; simp
 rw [hV2] at hgA hc8
 have hmb := MB.made V2 ar
 have hgB := gAl V2 (.cells #[.int .i64 ar, .slice none 0 0] 26) none
 obtain ⟨V3, hV3⟩ : ∃ z, V2.alloc (.cells #[.int .i64 ar, .slice none 0 0] 26) = z := ⟨_, rfl⟩
 have hs3 : V3.heap.size = V2.heap.size + 1 := by rw [← hV3]; simp
 rw [hV3] at hmb hgB
 obtain ⟨b8, hb8⟩ : ∃ z, V1.heap.size = z := ⟨_, rfl⟩
 obtain ⟨m, hm⟩ : ∃ z, V2.heap.size = z := ⟨_, rfl⟩
 have HST := hid (show MSt w p q m ar gs [] V3 from ⟨⟨0, ((hgx.grown hgA).grown hgB).own⟩, hgB.cell (hgA.cell hq0 (by simp)) (by simp), by rw [← hm]; exact hmb, gT HB.out.g (gT hg1 (gT hgA hgB)), ⟨by have := HB.out.sz; omega, by rw [← hm, hs2]; have := hgx.p_lt; omega, by have := HB.out.sz; omega⟩, fun k hk hb => by
   have h1 := ((hgx.grown hgA).grown hgB).own_in hk
   have h2 := hmb.own_lt (by rw [hm]; exact hb)
   have h3 := hgx.p_lt
   have h1' : k = p := h1
   omega, fun e => hpq (((hgx.grown hgA).grown hgB).own_in e).symm, fun e => by
   have h2 := hmb.own_lt (by rw [hm]; exact e)
   have h3 : q < V1.heap.size := lies_lt hq0
   omega⟩)
 have HSZ := hid (And.intro hs2 (And.intro hs3 (And.intro hb8 (And.intro hm (show W5.heap.size ≤ V1.heap.size from hg1.size)))))
 have HG3 := hid (gT hg1 (gT hgA hgB))
 have HC8 := hid (show V3.cell? ⟨b8, 0, none⟩ = some (.pointer (some ⟨q, 0, none⟩)) from by rw [← hb8]; exact hgB.cell hc8 (by simp))
 have HGX := hid ((hgx.grown hgA).grown hgB)
 have HPQ := hid (And.intro hp (And.intro hq (And.intro hpq (And.intro hgx.p_lt (show q < V1.heap.size from lies_lt hq0)))))
 have HGA := hid (gT hg1 hgA)
 have z1 := HGA.out.cell HB.out.a0 (by simp)
 have y1 := HG3.out.cell HB.out.a0 (by simp)
 have y2 := HG3.out.cell HB.out.a1 (by simp)
 have y3 := HG3.out.cell HB.out.b0 (by simp)
 have y4 := HG3.out.cell HB.out.b1 (by simp)
 have HV3 := hid hV3
 clear hp hq hpq hq0 hgx hg1 hgA hc8 hs2 hmb hgB hs3 hV3
 go_upto_region 3 with fail
 rw [HV3.out]
 clear hV2 hb8 hm z1 HV3
 go_wp2_with fail
 clear y1 y2 y3 y4
 refine (merged_calls _ _ _ _ _ _ _ _ V3).mono ?_
 rintro e V4 ⟨rfl, hV4⟩
 have hc4 := merged_cells ar br aa ba na nb ca cb V3
 have g4 : V3.grownBy V4 none := by rw [hV4]; exact (gAl _ _ none).trans (gAl _ _ none)
 rw [← hV4] at hc4
 have HC4 := hid (And.intro hc4 g4)
 clear hc4 g4 hV4
 go_wp2_with fail
 have HST4 := hid (msafe_keep (B := p) HST.out (Quiet.of_none HC4.out.2) (Nat.le_refl _)).1
 have HOC := hid (show ∀ k, OwnC p V4 k → k = p from fun k hk => by
  obtain ⟨hi0, h0⟩ := HST.out.gx
  have h1 := h0.own_kept (fun o v hv => HC4.out.2.cell hv (by simp)) hk
  exact HGX.out.own_in h1)
 have HOB := hid (show ∀ k, OwnB m V4 k → m ≤ k from fun k hk => (HST4.out.mb.own_lt hk).1)
 have HLI := hid (show LoopI w V4 p q m ar unionZF gs [] V4 from ⟨⟨gs, [], HST4.out, rfl, HGM.out.1, List.prefix_refl _, Nat.le_refl _, Nat.le_refl _⟩, fun b hb => ⟨rfl, hb⟩⟩)
 have HS4 := hid (show V4.heap.size = m + 3 from by have h1 := HC4.out.1.2.2; have h2 := HSZ.out; omega)
 have HWS := hid (show w.heap.size + 5 ≤ p ∧ p < b8 ∧ b8 + 1 = m ∧ w.heap.size + 5 ≤ q ∧ q < b8 from by have h1 := HB.out.sz; have h2 := HSZ.out; have h3 := HPQ.out; omega)
 have HGW := hid (gT HB.out.g (gT HG3.out HC4.out.2))
 refine wpIn_wide.1 (rangeYesA (n := 3) (vals := mgV) (gf := 114) (lb := #[.pointer (some ⟨V3.heap.size, 0, none⟩), .pointer (some ⟨V3.heap.size + 1, 0, none⟩)]) rfl rfl rfl trivial (enters_of Try.func114 (by kernel_rfl) rfl) (fun _ => rfl)
  (caps := fun b => b < w.heap.size) (xs := mg a b) (fun U g => merged_gives a b aa ba ca cb V3.heap.size (V3.heap.size + 1) w.heap.size U (gT HGW.out g).size (HC.out.2.1.span.grown (gT HGW.out g)) (HC.out.2.2.span.grown (gT HGW.out g))
   (by rw [HN.out.2.1]; exact g.cell HC4.out.1.1 (by simp)) (by rw [HN.out.2.2]; exact g.cell HC4.out.1.2.1 (by simp)) (by rw [HN.out.2.1]; have := HL.out; omega) (by rw [HN.out.2.2]; have := HL.out; omega))
  (LoopI w V4 p q m ar unionZF gs) (SafeM p m) (fun _ _ h => h.1) (loopI_abide (by have := HS4.out; have := HWS.out; omega) (Nat.le_refl _)) (fun b hb => ⟨by have := HS4.out; have := HWS.out; omega, fun e => by have := HOC.out b e; have := HWS.out; omega, fun e => by have := HOB.out b e; have := HWS.out; omega⟩) HLI.out ?round ?done)
 case round =>
  intro l' pre x V hF hpre
  obtain ⟨k, ra, rb, ia, ib⟩ := x
  simp only [mgV]
  have HF := hid hF
  have HPRE := hid hpre
  clear hF hpre
  gi_wp2_with fail
  refine ⟨gAl V _ none, fun W2 hq => ?_⟩
  obtain ⟨hI2, hbp, c0, c1, c2, c3⟩ := HF.out.begin hq (by have := HS4.out; have := HWS.out; omega) (Nat.le_refl _)
  obtain ⟨bp, hbpe⟩ : ∃ z, V.heap.size = z := ⟨_, rfl⟩
  rw [hbpe] at hbp c0 c1 c2 c3 ⊢
  obtain ⟨⟨g, l, hst, hrun, hgd, hpx, hgl, hll⟩, hlow⟩ := hI2
  have hs8 := hlow b8 ⟨by have := HS4.out; have := HWS.out; omega, fun e => by have := HOC.out b8 e; have := HWS.out; omega, fun e => by have := HOB.out b8 e; have := HWS.out; omega⟩
  have HK8 := hid (show W2.cell? ⟨b8, 0, none⟩ = some (.pointer (some ⟨q, 0, none⟩)) from (World.cell?_of_block (a := ⟨b8, 0, none⟩) hs8.1).trans (HC4.out.2.cell HC8.out (by simp)))
  have HSF := hid (show SafeM p m W2 b8 ∧ SafeM p m W2 q ∧ SafeM p m W2 bp from ⟨hs8.2, ⟨lies_lt hst.q0, hst.nq.1, hst.nq.2⟩, hbp⟩)
  have HK := hid (And.intro c0 c1)
  obtain ⟨nl, hnl⟩ : ∃ z, l.length = z := ⟨_, rfl⟩
  obtain ⟨ma, mc, hm1, hmo⟩ := hst.mb.row
  rw [hnl] at hm1 hmo
  have HM1 := hid hm1
  have HMO := hid hmo
  have HNL := hid hnl
  have HRUN := hid hrun
  have HLOW := hid hlow
  have HGD := hid (And.intro hgd hpx)
  have hml := mg_len HGM.out.2.1.1 HGM.out.2.2.1
  have hpl := HPRE.out.length_le
  rw [List.length_append, List.length_singleton] at hpl
  have HBD := hid (show nl ≤ pre.length ∧ pre.length + 1 ≤ na + nb ∧ g.length ≤ gs.length + 2 * pre.length ∧ gs.length + 2 * (na + nb) ≤ 880 ∧ na + nb ≤ 400 from by have h1 := HN.out; have h2 := HL.out; rw [← h1.1] at h2; omega)
  have hok := mg_ok HGM.out.1 HGM.out.2.1 HGM.out.2.2 (HPRE.out.subset (List.mem_append_right _ (List.mem_singleton.2 rfl)))
  have hoa : Ok g ra := by have h1 := hok.1; have h2 := hpx.length_le; unfold Ok at h1 ⊢; simp only at h1; omega
  have hob : Ok g rb := by have h1 := hok.2; have h2 := hpx.length_le; unfold Ok at h1 ⊢; simp only at h1; omega
  have HRA := hid (show ra ≤ 9223372036854775807 from by unfold Ok at hoa; have := HBD.out; omega)
  have HRB := hid (show rb ≤ 9223372036854775807 from by unfold Ok at hob; have := HBD.out; omega)
  have HST2 := hid hst
  have HSTD := hid hst.drew
  clear hq hbpe hbp hst hrun hgd hpx hgl hll hlow hs8 hnl hmo hml hpl hok
  cases ia with
  | true =>
   cases ib with
   | true =>
    obtain ⟨qq, hqq⟩ : ∃ z, orC g ra rb = z := ⟨_, rfl⟩
    obtain ⟨g1, r⟩ := qq
    have h1 := step_or HGD.out.1 ra rb
    have h3 := @or_len g ra rb
    rw [hqq] at h1 h3
    have h3' : g1.length ≤ g.length + 1 := h3
    have HFX := hid (show (unionZF l (k, ra, rb, true, true)).run g = (g1, keptM l k r) from by show ((orC g ra rb).1, keptM l k (orC g ra rb).2) = _; rw [hqq])
    have HNX := hid (show Good g1 ∧ gs <+: g1 ∧ g1.length ≤ gs.length + 2 * (pre.length + 1) from ⟨h1.good, HGD.out.2.trans h1.pre, by have := HBD.out; omega⟩)
    have HQQ := hid hqq
    obtain ⟨hi, hgx⟩ := HSTD.out.gx
    have HGX2 := hid hgx
    clear hqq h1 h3 h3' hgx hoa hob c0 c1
    gi_wp2_with fail
    clear c2 c3 hm1
    have HS := hid (fun (Wh : World) (hWh : Saved (SafeM p m) W2 Wh) => (⟨hWh, hWh.cell HSF.out.1 HK8.out, hWh.cell HSF.out.2.1 HST2.out.q0, hWh.cell HSF.out.2.2 HK.out.1, hWh.cell HSF.out.2.2 HK.out.2⟩ : (fun Wh : World => Saved (SafeM p m) W2 Wh ∧ Wh.cell? ⟨b8, 0, none⟩ = some (.pointer (some ⟨q, 0, none⟩)) ∧ Wh.cell? ⟨q, 0, none⟩ = some (.pointer (some ⟨p, 0, none⟩)) ∧ Wh.cell? ⟨bp, 0, none⟩ = some (.int .i64 ra) ∧ Wh.cell? ⟨bp, 1, none⟩ = some (.int .i64 rb)) Wh))
    have hdr : Saved (SafeM p m) W2 W2.drew := Saved.drew p m W2
    refine wpIn_region_held_round (S := (fun Wh : World => Saved (SafeM p m) W2 Wh ∧ Wh.cell? ⟨b8, 0, none⟩ = some (.pointer (some ⟨q, 0, none⟩)) ∧ Wh.cell? ⟨q, 0, none⟩ = some (.pointer (some ⟨p, 0, none⟩)) ∧ Wh.cell? ⟨bp, 0, none⟩ = some (.int .i64 ra) ∧ Wh.cell? ⟨bp, 1, none⟩ = some (.int .i64 rb))) (by kernel_rfl) (by kernel_rfl) (by rintro ⟨_, _, h⟩; exact h) (HS.out _ hdr) (fun hH => ?_)
    refine tq 0 ({ dst := some 36, op := Op.fieldAddr 26 (Operand.tmp 9) 1, type := 0, pos := "matrix.go:51", after := #[], guard := none }) ?_ ?_ hH ?_
    rotate_left 1
    · (intro W h; (try dsimp only at h); go_simp <;> with_reducible rfl)
    try simp only [Act.put, sA, sB, sC]
    refine tq 2 ({ dst := some 38, op := Op.move (Operand.tmp 10), type := 3, pos := "matrix.go:51", after := #[], guard := none }) ?_ ?_ hH ?_
    rotate_left 1
    · (intro W h; (try dsimp only at h); go_simp <;> with_reducible rfl)
    try simp only [Act.put, sA, sB, sC]
    refine tq 3 ({ dst := some 39, op := Op.load 77 (Operand.tmp 8), type := 77, pos := "matrix.go:51", after := #[], guard := none }) ?_ ?_ hH ?_
    rotate_left 1
    · (intro W h; (try dsimp only at h); go_simp <;> with_reducible rfl)
    try simp only [Act.put, sA, sB, sC]
    refine tq 4 ({ dst := some 40, op := Op.nilCheck (Operand.tmp 39), type := 0, pos := "matrix.go:51", after := #[{ on := 3, ground := Ground.data }], guard := none }) ?_ ?_ hH ?_
    rotate_left 1
    · (intro W h; (try dsimp only at h); go_simp <;> with_reducible rfl)
    try simp only [Act.put, sA, sB, sC]
    refine tq 5 ({ dst := some 41, op := Op.fieldAddr 88 (Operand.tmp 40) 0, type := 0, pos := "matrix.go:51", after := #[{ on := 4, ground := Ground.data }], guard := none }) ?_ ?_ hH ?_
    rotate_left 1
    · (intro W h; (try dsimp only at h); go_simp <;> with_reducible rfl)
    try simp only [Act.put, sA, sB, sC]
    refine tq 6 ({ dst := some 42, op := Op.load 86 (Operand.tmp 41), type := 86, pos := "matrix.go:51", after := #[{ on := 5, ground := Ground.data }], guard := none }) ?_ ?_ hH ?_
    rotate_left 1
    · (intro W h; (try dsimp only at h); go_simp <;> with_reducible rfl)
    try simp only [Act.put, sA, sB, sC]
    refine tq 7 ({ dst := some 43, op := Op.fieldAddr 83 (Operand.tmp 11) 0, type := 0, pos := "matrix.go:51", after := #[], guard := none }) ?_ ?_ hH ?_
    rotate_left 1
    · (intro W h; (try dsimp only at h); go_simp <;> with_reducible rfl)
    try simp only [Act.put, sA, sB, sC]
    refine tq 8 ({ dst := some 44, op := Op.load 3 (Operand.tmp 43), type := 3, pos := "matrix.go:51", after := #[{ on := 7, ground := Ground.data }], guard := none }) ?_ ?_ hH ?_
    rotate_left 1
    · (intro W h; (try dsimp only at h); go_simp <;> with_reducible rfl)
    try simp only [Act.put, sA, sB, sC]
    refine tq 9 ({ dst := some 45, op := Op.fieldAddr 83 (Operand.tmp 11) 1, type := 0, pos := "matrix.go:51", after := #[], guard := none }) ?_ ?_ hH ?_
    rotate_left 1
    · (intro W h; (try dsimp only at h); go_simp <;> with_reducible rfl)
    try simp only [Act.put, sA, sB, sC]
    refine tq 10 ({ dst := some 46, op := Op.load 3 (Operand.tmp 45), type := 3, pos := "matrix.go:51", after := #[{ on := 9, ground := Ground.data }], guard := none }) ?_ ?_ hH ?_
    rotate_left 1
    · (intro W h; (try dsimp only at h); go_simp <;> with_reducible rfl)
    try simp only [Act.put, sA, sB, sC]
    refine wpAnyH_ready (rs := [1, 11]) (by kernel_rfl) (by simp) ?_
    refine (AllReadyH.cons (o := qs18o0) rfl (fun K hK => ?_) (AllReadyH.cons (o := qs18o1) rfl (fun K hK => ?_) AllReadyH.nil))
    ·
     rw [if_pos (by rfl)]
     have k1 := (show (World.drew W2).cell? ⟨m, 1, none⟩ = some (.slice ma nl mc) from HM1.out)
     go_simp
     clear k1
     refine hK.out _ _ (HS.out _ hdr) (fun hH => ?_)
     clear hK K
     try simp only [Act.put, sA, sB, sC]
     refine wpAnyH_ready (rs := [11]) (by kernel_rfl) (by simp) ?_
     refine (AllReadyH.cons (o := qs18o1) rfl (fun K hK => ?_) AllReadyH.nil)
     rw [if_pos (by rfl)]
     go_simp
     go_at_call 75
     refine (gor_c g ra rb p g1 r HQQ.out HGD.out.1 (by have := HBD.out; omega) HRA.out HRB.out (OwnC p (World.drew W2)) (World.drew W2) hi HGX2.out).mono ?_
     rintro e wM ⟨rfl, hi2, hgx2, hof2⟩
     have hs3 := HSTD.out.step hgx2 hof2
     have hv3 := Saved.trans hdr hs3.2
     have hm3 := hof2.cell (show (World.drew W2).cell? ⟨m, 1, none⟩ = some (.slice ma nl mc) from HM1.out) (fun e => HSTD.out.apart m e (.inl rfl))
     go_wp2_with fail
     refine hK.out _ _ (HS.out _ hv3) (fun hH => ?_)
     clear hK K
     try simp only [Act.put, sA, sB, sC]
     refine wpAnyH_ready (rs := [12]) (by kernel_rfl) (by simp) ?_
     refine (AllReadyH.cons (o := qs18o2) rfl (fun K hK => ?_) AllReadyH.nil)
     rw [if_pos (by rfl)]
     have hm3l : wM.cell? ⟨m, 1, none⟩ = some (.slice ma l.length mc) := by rw [HNL.out]; exact hm3
     go_simp
     go_at_call 74
     refine (kept_calls (m + 1) l ma nl mc k r wM (by have h9 := hs3.1.mb.rowOf hm3l; rw [HNL.out] at h9; exact h9) HNL.out (by have := HBD.out; omega) hs3.1.mb.lt).mono ?_
     rintro e wK ⟨ka, kn, kc, rfl, hko, hkl, hkg, hka⟩
     rw [← HNL.out] at hkg hka
     have hv4 := hs3.1.kept0 hm3l hkg
     have hvk := Saved.trans hv3 hv4.1
     go_wp2_with fail
     refine hK.out _ _ (HS.out _ hvk) (fun hH => ?_)
     clear hK K
     try simp only [Act.put, sA, sB, sC]
     refine tq 13 qs18o3 ?_ ?_ hH ?_
     rotate_left 1
     · (intro W h; (try dsimp only at h); go_simp <;> with_reducible rfl)
     try simp only [Act.put, sA, sB, sC]
     refine wpAnyH_ready (rs := [14]) (by kernel_rfl) (by simp) ?_
     refine (AllReadyH.cons (o := qs18o4) rfl (fun K hK => ?_) AllReadyH.nil)
     rw [if_pos (by rfl)]
     have k1 := hv4.2.1
     have kf := hv4.2.2
     go_simp
     clear k1 kf
     have hs5 := hs3.1.kept hm3l hkl hkg hko hka
     have hvS := Saved.trans hv3 hs5.2
     refine hK.out _ _ (HS.out _ hvS) (fun hH => ?_)
     clear hK K
     try simp only [Act.put, sA, sB, sC]
     refine wpAnyH_done (by kernel_rfl) ?_ _
     have hEND := hvS
     clear hH
     exact ⟨LoopI.next HLOW.out hs5.1 hvS HRUN.out (HFX.out) HNX.out.1 HNX.out.2.1 HNX.out.2.2 (by have h9 := kept_len l k r; have := HNL.out; have := HBD.out; omega), hvS⟩
    ·
     rw [if_pos (by rfl)]
     go_simp
     go_at_call 75
     refine (gor_c g ra rb p g1 r HQQ.out HGD.out.1 (by have := HBD.out; omega) HRA.out HRB.out (OwnC p (World.drew W2)) (World.drew W2) hi HGX2.out).mono ?_
     rintro e wM ⟨rfl, hi2, hgx2, hof2⟩
     have hs3 := HSTD.out.step hgx2 hof2
     have hv3 := Saved.trans hdr hs3.2
     have hm3 := hof2.cell (show (World.drew W2).cell? ⟨m, 1, none⟩ = some (.slice ma nl mc) from HM1.out) (fun e => HSTD.out.apart m e (.inl rfl))
     go_wp2_with fail
     refine hK.out _ _ (HS.out _ hv3) (fun hH => ?_)
     clear hK K
     try simp only [Act.put, sA, sB, sC]
     refine wpAnyH_ready (rs := [1]) (by kernel_rfl) (by simp) ?_
     refine (AllReadyH.cons (o := qs18o0) rfl (fun K hK => ?_) AllReadyH.nil)
     rw [if_pos (by rfl)]
     have k1 := hm3
     go_simp
     clear k1
     refine hK.out _ _ (HS.out _ hv3) (fun hH => ?_)
     clear hK K
     try simp only [Act.put, sA, sB, sC]
     refine wpAnyH_ready (rs := [12]) (by kernel_rfl) (by simp) ?_
     refine (AllReadyH.cons (o := qs18o2) rfl (fun K hK => ?_) AllReadyH.nil)
     rw [if_pos (by rfl)]
     have hm3l : wM.cell? ⟨m, 1, none⟩ = some (.slice ma l.length mc) := by rw [HNL.out]; exact hm3
     go_simp
     go_at_call 74
     refine (kept_calls (m + 1) l ma nl mc k r wM (by have h9 := hs3.1.mb.rowOf hm3l; rw [HNL.out] at h9; exact h9) HNL.out (by have := HBD.out; omega) hs3.1.mb.lt).mono ?_
     rintro e wK ⟨ka, kn, kc, rfl, hko, hkl, hkg, hka⟩
     rw [← HNL.out] at hkg hka
     have hv4 := hs3.1.kept0 hm3l hkg
     have hvk := Saved.trans hv3 hv4.1
     go_wp2_with fail
     refine hK.out _ _ (HS.out _ hvk) (fun hH => ?_)
     clear hK K
     try simp only [Act.put, sA, sB, sC]
     refine tq 13 qs18o3 ?_ ?_ hH ?_
     rotate_left 1
     · (intro W h; (try dsimp only at h); go_simp <;> with_reducible rfl)
     try simp only [Act.put, sA, sB, sC]
     refine wpAnyH_ready (rs := [14]) (by kernel_rfl) (by simp) ?_
     refine (AllReadyH.cons (o := qs18o4) rfl (fun K hK => ?_) AllReadyH.nil)
     rw [if_pos (by rfl)]
     have k1 := hv4.2.1
     have kf := hv4.2.2
     go_simp
     clear k1 kf
     have hs5 := hs3.1.kept hm3l hkl hkg hko hka
     have hvS := Saved.trans hv3 hs5.2
     refine hK.out _ _ (HS.out _ hvS) (fun hH => ?_)
     clear hK K
     try simp only [Act.put, sA, sB, sC]
     refine wpAnyH_done (by kernel_rfl) ?_ _
     have hEND := hvS
     clear hH
     exact ⟨LoopI.next HLOW.out hs5.1 hvS HRUN.out (HFX.out) HNX.out.1 HNX.out.2.1 HNX.out.2.2 (by have h9 := kept_len l k r; have := HNL.out; have := HBD.out; omega), hvS⟩
   | false =>
    have y1 := HK.out.1
    gi_wp2_with fail
    clear y1 hm1 c2 c3
    refine ⟨trivial, (CallsIn.inRound l' (callsIn_wide.2 (kept_calls (m + 1) l ma nl mc k ra W2 HMO.out HNL.out (by have := HBD.out; omega) HST2.out.mb.lt))).mono ?_⟩
    rintro e wK ⟨ka, kn, kc, rfl, hko, hkl, hkg, hka⟩
    have hm3l : W2.cell? ⟨m, 1, none⟩ = some (.slice ma l.length mc) := by rw [HNL.out]; exact HM1.out
    rw [← HNL.out] at hkg hka
    have hv4 := HST2.out.kept0 hm3l hkg
    have HS5 := hid (HST2.out.kept hm3l hkl hkg hko hka)
    have HV4 := hid hv4
    clear hko hkl hkg hka hm3l hv4
    have k1 := HV4.out.2.1
    have kf := HV4.out.2.2
    gi_wp2_with fail
    exact ⟨LoopI.next HLOW.out HS5.out.1 HS5.out.2 HRUN.out (show (unionZF l (k, ra, rb, true, false)).run g = (g, keptM l k ra) from rfl) HGD.out.1 HGD.out.2 (by have := HBD.out; omega) (by have h9 := kept_len l k ra; have := HNL.out; have := HBD.out; omega), HS5.out.2⟩
  | false =>
   cases ib with
   | true =>
    have y1 := HK.out.2
    gi_wp2_with fail
    clear y1 hm1 c2 c3
    refine ⟨trivial, (CallsIn.inRound l' (callsIn_wide.2 (kept_calls (m + 1) l ma nl mc k rb W2 HMO.out HNL.out (by have := HBD.out; omega) HST2.out.mb.lt))).mono ?_⟩
    rintro e wK ⟨ka, kn, kc, rfl, hko, hkl, hkg, hka⟩
    have hm3l : W2.cell? ⟨m, 1, none⟩ = some (.slice ma l.length mc) := by rw [HNL.out]; exact HM1.out
    rw [← HNL.out] at hkg hka
    have hv4 := HST2.out.kept0 hm3l hkg
    have HS5 := hid (HST2.out.kept hm3l hkl hkg hko hka)
    have HV4 := hid hv4
    clear hko hkl hkg hka hm3l hv4
    have k1 := HV4.out.2.1
    have kf := HV4.out.2.2
    gi_wp2_with fail
    exact ⟨LoopI.next HLOW.out HS5.out.1 HS5.out.2 HRUN.out (show (unionZF l (k, ra, rb, false, true)).run g = (g, keptM l k rb) from rfl) HGD.out.1 HGD.out.2 (by have := HBD.out; omega) (by have h9 := kept_len l k rb; have := HNL.out; have := HBD.out; omega), HS5.out.2⟩
   | false =>
    have y1 := HK.out.2
    gi_wp2_with fail
    clear y1 hm1 c2 c3
    refine ⟨trivial, (CallsIn.inRound l' (callsIn_wide.2 (kept_calls (m + 1) l ma nl mc k rb W2 HMO.out HNL.out (by have := HBD.out; omega) HST2.out.mb.lt))).mono ?_⟩
    rintro e wK ⟨ka, kn, kc, rfl, hko, hkl, hkg, hka⟩
    have hm3l : W2.cell? ⟨m, 1, none⟩ = some (.slice ma l.length mc) := by rw [HNL.out]; exact HM1.out
    rw [← HNL.out] at hkg hka
    have hv4 := HST2.out.kept0 hm3l hkg
    have HS5 := hid (HST2.out.kept hm3l hkl hkg hko hka)
    have HV4 := hid hv4
    clear hko hkl hkg hka hm3l hv4
    have k1 := HV4.out.2.1
    have kf := HV4.out.2.2
    gi_wp2_with fail
    exact ⟨LoopI.next HLOW.out HS5.out.1 HS5.out.2 HRUN.out (show (unionZF l (k, ra, rb, false, false)).run g = (g, keptM l k rb) from rfl) HGD.out.1 HGD.out.2 (by have := HBD.out; omega) (by have h9 := kept_len l k rb; have := HNL.out; have := HBD.out; omega), HS5.out.2⟩
 case done =>
  intro D V hD hF hsD hdef
  obtain ⟨⟨g, l, hst, hrun, hgd, hpx, hgl, hll⟩, hlow⟩ := hF
  have e0 := (unionZ_run a b unionZ (unionF a b) HGM.out.2.1.1 HGM.out.2.2.1 (fun _ => rfl) gs).symm.trans hrun
  have e9 : (munionP a b).run gs = (g, l) := e0
  rw [HE.out] at e9
  injection e9 with e1 e2
  subst e1 e2
  clear e0 hrun HE
  obtain ⟨g, hgg⟩ : ∃ z, z = gF := ⟨_, rfl⟩
  obtain ⟨l, hll2⟩ : ∃ z, z = mF := ⟨_, rfl⟩
  rw [← hgg] at hst hgd hpx hgl ⊢
  rw [← hll2] at hst hll ⊢
  have HGG := hid (And.intro hgg hll2)
  clear hgg hll2
  have hml := mg_len HGM.out.2.1.1 HGM.out.2.2.1
  obtain ⟨b6, hb6⟩ : ∃ z, w.heap.size + 3 = z := ⟨_, rfl⟩
  obtain ⟨b7, hb7⟩ : ∃ z, w.heap.size + 4 = z := ⟨_, rfl⟩
  have HWB := hid (show w.heap.size ≤ b6 ∧ b6 < b7 ∧ b7 < p ∧ p < b8 ∧ b8 < m ∧ b7 < q ∧ q < b8 ∧ m + 3 ≤ D ∧ p ≠ q from by have h1 := HWS.out; have h2 := HS4.out; have h3 := HPQ.out; omega)
  have hsafe : ∀ k, w.heap.size + 5 ≤ p → k < V4.heap.size → k ≠ p → k < m → SafeM p m V4 k := fun k _ h1 h2 h3 => ⟨h1, fun e => h2 (HOC.out k e), fun e => by have := HOB.out k e; omega⟩
  have h8 := hlow b8 (hsafe b8 (by have := HWS.out; omega) (by have := HS4.out; have := HWS.out; omega) (by have := HWB.out; omega) (by have := HWB.out; omega))
  have h6 := hlow b6 (hsafe b6 (by have := HWS.out; omega) (by have := HS4.out; have := HWB.out; omega) (by have := HWB.out; omega) (by have := HWB.out; omega))
  have h7 := hlow b7 (hsafe b7 (by have := HWS.out; omega) (by have := HS4.out; have := HWB.out; omega) (by have := HWB.out; omega) (by have := HWB.out; omega))
  have hg54 := gT HG3.out HC4.out.2
  have H8 := hid (show V.cell? ⟨b8, 0, none⟩ = some (.pointer (some ⟨q, 0, none⟩)) from (World.cell?_of_block (a := ⟨b8, 0, none⟩) h8.1).trans (HC4.out.2.cell HC8.out (by simp)))
  have hrc : ∀ b o v, W5.cell? ⟨b, o, none⟩ = some v → W5.frozen? ⟨b, o, none⟩ = false → V.heap[b]? = V4.heap[b]? → Rc V b o v := fun b o v h1 h2 h3 => ⟨(World.cell?_of_block (a := ⟨b, o, none⟩) h3).trans (hg54.cell h1 (by simp)), (World.frozen?_of_block (a := ⟨b, o, none⟩) h3).trans ((grown_frozen hg54 (lies_lt h1) o).trans h2)⟩
  have R6 := hid (hrc b6 0 _ (by rw [← hb6]; exact HB.out.r) (by rw [← hb6]; exact HB.out.rf) h6.1)
  have R70 := hid (hrc b7 0 _ (by rw [← hb7]; exact HB.out.s0) (by rw [← hb7]; exact HB.out.sf0) h7.1)
  have R71 := hid (hrc b7 1 _ (by rw [← hb7]; exact HB.out.s1) (by rw [← hb7]; exact HB.out.sf1) h7.1)
  have HTY := hid (show Ty26 V b7 from (show Ty26 V4 b7 from (show Ty26 W5 b7 from by rw [← hb7]; exact HB.out.ty).grown hg54 (by simp)).of h7.1)
  obtain ⟨hi, hgx⟩ := hst.gx
  have HGX2 := hid hgx
  have HNO := hid (show ¬ OwnC p V b7 from h7.2.2.1)
  have HST := hid hst
  obtain ⟨nl, hnl⟩ : ∃ z, l.length = z := ⟨_, rfl⟩
  obtain ⟨ma, mc, hm1, hmo⟩ := hst.mb.row
  have HROW := hid (show Span (m + 1) V.heap.size V (fun W => CellsW W ma mc l) from by obtain ⟨a9, c9, e9, hs9⟩ := cells_span hmo; cases e9; exact hs9)
  rw [hnl] at hm1
  have HM1 := hid hm1
  have HNL := hid hnl
  have HFG := hid (show w.grownBy V.drew none from gT hst.grown ⟨rfl, rfl, rfl, Nat.le_refl _, fun _ _ _ => rfl⟩)
  have HD := hid (show w.heap.size ≤ D ∧ D < V.heap.size ∧ V.heap[D]? = some (.deferred (some [])) from ⟨by have := HWS.out; have := HS4.out; omega, hsD.1, hdef⟩)
  have HBD := hid (show g.length ≤ 1000 from by have h1 := HN.out; have h2 := HL.out; omega)
  clear hst hgd hpx hgl hll hlow hml hsafe h8 h6 h7 hg54 hrc hgx hm1 hmo hnl hdef hsD hD
  have e7 : w.heap.size + 1 + 1 + 1 + 1 = b7 := hb7
  have e6 : w.heap.size + 1 + 1 + 1 = b6 := hb6
  rw [e7, e6]
  clear e7 e6 hb6 hb7
  go_wp2_with fail
  refine wp_onlyN ?_
  have r6 := R6.out
  have r70 := R70.out
  have r71 := R71.out
  have hx : GX p (OwnC p V) V.drew g hi := HGX2.out.grown ⟨rfl, rfl, rfl, Nat.le_refl _, fun _ _ _ => rfl⟩
  have hty : Ty26 V.drew b7 := HTY.out
  replace r6 : Rc V.drew b6 0 _ := r6
  replace r70 : Rc V.drew b7 0 _ := r70
  replace r71 : Rc V.drew b7 1 _ := r71
  have HS := hid (fun (Wh : World) (hWh : FinA w V (fun k => k = b8 ∨ k = q ∨ k = m ∨ k = D) (m + 1) ma mc l Wh) => (⟨(World.cell?_of_block (a := ⟨b8, 0, none⟩) (hWh.kp b8 (.inl rfl) (lies_lt H8.out))).trans H8.out, (World.cell?_of_block (a := ⟨q, 0, none⟩) (hWh.kp q (.inr (.inl rfl)) (lies_lt HST.out.q0))).trans HST.out.q0, (World.cell?_of_block (a := ⟨m, 0, none⟩) (hWh.kp m (.inr (.inr (.inl rfl))) HST.out.mb.lt)).trans HST.out.mb.c0, (World.cell?_of_block (a := ⟨m, 1, none⟩) (hWh.kp m (.inr (.inr (.inl rfl))) HST.out.mb.lt)).trans HM1.out⟩ : (fun Wh : World => Wh.cell? ⟨b8, 0, none⟩ = some (.pointer (some ⟨q, 0, none⟩)) ∧ Wh.cell? ⟨q, 0, none⟩ = some (.pointer (some ⟨p, 0, none⟩)) ∧ Wh.cell? ⟨m, 0, none⟩ = some (.int .i64 ar) ∧ Wh.cell? ⟨m, 1, none⟩ = some (.slice ma nl mc)) Wh))
  have hdr : FinA w V (fun k => k = b8 ∨ k = q ∨ k = m ∨ k = D) (m + 1) ma mc l V.drew := ⟨fun _ _ _ => rfl, HROW.out, HFG.out⟩
  refine wp_region_held_drew (S := (fun Wh : World => Wh.cell? ⟨b8, 0, none⟩ = some (.pointer (some ⟨q, 0, none⟩)) ∧ Wh.cell? ⟨q, 0, none⟩ = some (.pointer (some ⟨p, 0, none⟩)) ∧ Wh.cell? ⟨m, 0, none⟩ = some (.int .i64 ar) ∧ Wh.cell? ⟨m, 1, none⟩ = some (.slice ma nl mc))) (by kernel_rfl) (HS.out _ hdr) (fun hH => ?_)
  refine tq 0 ({ dst := some 60, op := Op.load 77 (Operand.tmp 8), type := 77, pos := "matrix.go:58", after := #[], guard := none }) ?_ ?_ hH ?_
  rotate_left 1
  · (intro W h; (try dsimp only at h); go_simp <;> with_reducible rfl)
  try simp only [Act.put, sA, sB, sC]
  refine tq 1 ({ dst := some 61, op := Op.nilCheck (Operand.tmp 60), type := 0, pos := "matrix.go:58", after := #[{ on := 0, ground := Ground.data }], guard := none }) ?_ ?_ hH ?_
  rotate_left 1
  · (intro W h; (try dsimp only at h); go_simp <;> with_reducible rfl)
  try simp only [Act.put, sA, sB, sC]
  refine tq 2 ({ dst := some 62, op := Op.fieldAddr 88 (Operand.tmp 61) 0, type := 0, pos := "matrix.go:58", after := #[{ on := 1, ground := Ground.data }], guard := none }) ?_ ?_ hH ?_
  rotate_left 1
  · (intro W h; (try dsimp only at h); go_simp <;> with_reducible rfl)
  try simp only [Act.put, sA, sB, sC]
  refine tq 3 ({ dst := some 63, op := Op.load 86 (Operand.tmp 62), type := 86, pos := "matrix.go:58", after := #[{ on := 2, ground := Ground.data }], guard := none }) ?_ ?_ hH ?_
  rotate_left 1
  · (intro W h; (try dsimp only at h); go_simp <;> with_reducible rfl)
  try simp only [Act.put, sA, sB, sC]
  refine tq 5 ({ dst := some 65, op := Op.load 26 (Operand.tmp 9), type := 26, pos := "matrix.go:58", after := #[{ on := 6, ground := Ground.gcOnly Departure.lateStores }], guard := none }) ?_ ?_ hH ?_
  rotate_left 1
  · (intro W h; (try dsimp only at h); go_simp <;> with_reducible rfl)
  try simp only [Act.put, sA, sB, sC]
  refine wpAnyH_ready (rs := [4]) (by kernel_rfl) (by simp) ?_
  refine (AllReadyH.cons (o := { dst := some 64, op := Op.call { callee := Callee.value (Operand.func 76), args := #[Operand.tmp 63], argTypes := #[86] }, type := 30, pos := "matrix.go:58", after := #[{ on := 3, ground := Ground.data }], guard := none }) rfl (fun K hK => ?_) AllReadyH.nil)
  rw [if_pos (by rfl)]
  go_simp
  go_at_call 76
  refine (gcircuit_off g p (OwnC p V) _ hi hx (by have := HBD.out; omega)).mono ?_
  rintro e wM ⟨ca1, cc1, rfl, hsp, hof⟩
  have hf := hdr.step hof (fun k e => by have e' : k = p := e; have := HWB.out; refine ⟨by omega, ?_, by omega⟩; rintro (h | h | h | h) <;> omega)
  replace r6 := r6.step hof (fun e => by have e' : b6 = p := e; have := HWB.out; omega)
  replace r70 := r70.step hof (fun e => by have e' : b7 = p := e; have := HWB.out; omega)
  replace r71 := r71.step hof (fun e => by have e' : b7 = p := e; have := HWB.out; omega)
  clear hof hx hty
  go_wp2_with fail
  refine hK.out _ _ (HS.out _ hf) (fun hH => ?_)
  clear hK K
  try simp only [Act.put, sA, sB, sC]
  refine wpAnyH_ready (rs := [6]) (by kernel_rfl) (by simp) ?_
  refine (AllReadyH.cons (o := { dst := none, op := Op.store 30 (Operand.tmp 6) (Operand.tmp 64), type := 0, pos := "matrix.go:58", after := #[{ on := 4, ground := Ground.data }, { on := 4, ground := Ground.chain }, { on := 0, ground := Ground.phase }, { on := 1, ground := Ground.phase }, { on := 2, ground := Ground.phase }, { on := 3, ground := Ground.phase }, { on := 4, ground := Ground.phase }, { on := 5, ground := Ground.textOnly Departure.lateStores }], guard := none }) rfl (fun K hK => ?_) AllReadyH.nil)
  rw [if_pos (by rfl)]
  have k1 := r6.1
  have kf := r6.2
  go_simp
  clear k1 kf
  have hof := off_set wM b6 0 (.slice ca1 g.length cc1)
  have hf6 := hf.step hof (fun k e => by have e' : k = b6 := e; have := HWB.out; refine ⟨by omega, ?_, by omega⟩; rintro (h | h | h | h) <;> omega)
  replace r6 := r6.set (.slice ca1 g.length cc1)
  replace r70 := r70.step hof (fun e => by have e' : b7 = b6 := e; have := HWB.out; omega)
  replace r71 := r71.step hof (fun e => by have e' : b7 = b6 := e; have := HWB.out; omega)
  replace hsp := hsp.away hof (fun k e => by have e' : k = b6 := e; have := HWB.out; omega)
  clear hof
  refine hK.out _ _ (HS.out _ hf6) (fun hH => ?_)
  clear hK K
  try simp only [Act.put, sA, sB, sC]
  refine wpAnyH_ready (rs := [7]) (by kernel_rfl) (by simp) ?_
  refine (AllReadyH.cons (o := { dst := none, op := Op.store 26 (Operand.tmp 7) (Operand.tmp 65), type := 0, pos := "matrix.go:58", after := #[{ on := 5, ground := Ground.data }, { on := 6, ground := Ground.chain }, { on := 0, ground := Ground.phase }, { on := 1, ground := Ground.phase }, { on := 2, ground := Ground.phase }, { on := 3, ground := Ground.phase }, { on := 4, ground := Ground.phase }, { on := 5, ground := Ground.phase }, { on := 6, ground := Ground.phase }], guard := none }) rfl (fun K hK => ?_) AllReadyH.nil)
  rw [if_pos (by rfl)]
  have k1 := r70.1
  have kf := r70.2
  have k2 := r71.1
  have kg := r71.2
  go_simp
  clear k1 kf k2 kg
  have hof := off_set2 (World.setCell wM ⟨b6, 0, none⟩ (.slice ca1 g.length cc1)) b7 (.int .i64 ar) (.slice ma nl mc)
  have hf7 := hf6.step hof (fun k e => by have e' : k = b7 := e; have := HWB.out; refine ⟨by omega, ?_, by omega⟩; rintro (h | h | h | h) <;> omega)
  replace r6 := r6.step hof (fun e => by have e' : b6 = b7 := e; have := HWB.out; omega)
  replace r70 := (r70.set (.int .i64 ar)).other (o' := 1) (by decide) (.slice ma nl mc)
  replace r71 := (r71.other (o' := 0) (by decide) (.int .i64 ar)).set (.slice ma nl mc)
  replace hsp := hsp.away hof (fun k e => by have e' : k = b7 := e; have := HWB.out; omega)
  clear hof
  refine hK.out _ _ (HS.out _ hf7) (fun hH => ?_)
  clear hK K
  try simp only [Act.put, sA, sB, sC]
  refine wpAnyH_done (by kernel_rfl) ?_ _
  have hEND := hf7
  clear hH
  simp only [onlyN]
  go_wp2_with fail
  have hdD := (hEND.kp D (.inr (.inr (.inr rfl))) HD.out.2.1).trans HD.out.2.2
  have hqf := Quiet.put (B := 0) (.deferred none) (Nat.zero_le _) hdD rfl
  exact ⟨by simp, .inl ⟨D, _, rfl, run_takeDeferred hdD, _, resM18 _ _ b6 b7 _ _ _ _ _ rfl rfl (hqf.cell r6.1) (hqf.cell r70.1) (hqf.cell r71.1), (show AnsM w gF ar mF _ _ from by rw [← HGG.out.1, ← HGG.out.2]; exact ⟨ca1, cc1, ma, nl, mc, rfl, HNL.out, hsp.here.quiet hqf, hEND.row.here.quiet hqf, grown_own hEND.gw (grownBy_putObj' _ D (.deferred none)) (fun x e => by cases e; have := HD.out.1; have := HWB.out; omega)⟩)⟩⟩
end Go.Proofs.Ythdhmflodiincaa

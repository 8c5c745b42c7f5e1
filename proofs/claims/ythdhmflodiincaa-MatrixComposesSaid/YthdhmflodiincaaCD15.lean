/- Texts of the proof: QX RZ RK RD KJ. -/
import Derived.Test.YthdhmflodiincaaCD00
import Derived.Test.YthdhmflodiincaaCD12
import Derived.Deep.DeepCutAuto
import Derived.Test.YthdhmflodiincaaCD13
import Derived.Test.YthdhmflodiincaaCD02
import Derived.Test.YthdhmflodiincaaCD05
import Derived.Test.YthdhmflodiincaaCD10
import Derived.Test.YthdhmflodiincaaCD14
import Derived.Test.YthdhmflodiincaaCD04
import Derived.Test.YthdhmflodiincaaCD08
import Derived.Maps.RangeWalk
set_option maxRecDepth 100000
set_option maxHeartbeats 8000000
namespace Go.Proofs.Ythdhmflodiincaa
open Lib (hid)
open Go.RowKit Go.Maps
set_option maxRecDepth 100000

def w3 (w : World) (x0 a0 a1 : Value) : World := ((w.alloc (.cells #[x0] 30)).alloc (.cells #[a0, a1] 26)).alloc (.cells #[.slice none 0 0] 30)
structure B3 (w W : World) (x0 a0 a1 : Value) : Prop where
 g : w.grownBy W none
 sz : W.heap.size = w.heap.size + 3
 c : W.cell? ⟨w.heap.size, 0, none⟩ = some x0
 a0 : W.cell? ⟨w.heap.size + 1, 0, none⟩ = some a0
 a1 : W.cell? ⟨w.heap.size + 1, 1, none⟩ = some a1
 r : W.cell? ⟨w.heap.size + 2, 0, none⟩ = some (.slice none 0 0)
 rf : W.frozen? ⟨w.heap.size + 2, 0, none⟩ = false
theorem b3 (w : World) (x0 a0 a1 : Value) : B3 w (w3 w x0 a0 a1) x0 a0 a1 := by
 unfold w3
 exact ⟨((gAl w _ none).trans (gAl _ _ none)).trans (gAl _ _ none), by simp, by go_simp, by go_simp, by go_simp, by go_simp, by go_simp⟩
theorem resM30 (tmps : Array Value) (w : World) (b : Nat) (a : Option Addr) (n d : Nat) (x : Value) (ht : tmps.getD 4 undef = .pointer (some ⟨b, 0, none⟩)) (hu : tmps.getD 5 undef = x) (h0 : w.cell? ⟨b, 0, none⟩ = some (.slice a n d)) :
  (results Try.f30 tmps).run Try.prog w = .ok (.tuple #[.agg #[.slice a n d], x]) w := by
 have ht' : tmps[4]?.getD undef = .pointer (some ⟨b, 0, none⟩) := by simpa using ht
 have hu' : tmps[5]?.getD undef = x := by simpa using hu
 simp [results, ht', hu', go_sem, h0, Result.andThen]
theorem msome_calls (gs : List Gt) (m : List Cl) (ar : Int) (gF : List Gt) (rF : Int) (xa : Option Addr) (xc : Nat) (aa : Option Addr) (na ca : Nat) (w : World)
  (eF : (foldP orF (m.map (·.2)) 1).run gs = (gF, rF)) (h : GatesW w xa xc gs) (hma : CellsW w aa ca m) (hna : m.length = na) (hG : Good gs) (ho : ∀ x ∈ m, Ok gs x.2) (hl : gs.length + na ≤ 880) (hla : na ≤ 200) :
  Calls Try.prog 30 #[.agg #[.slice xa gs.length xc], .agg #[.int .i64 ar, .slice aa na ca]] w (Ans w gF rF) := by
 obtain ⟨ng, hng⟩ : ∃ n, gs.length = n := ⟨_, rfl⟩
 have hb3 := b3 w (.slice xa ng xc) (.int .i64 ar) (.slice aa na ca)
 obtain ⟨W3, hW3⟩ : ∃ z, w3 w (.slice xa ng xc) (.int .i64 ar) (.slice aa na ca) = z := ⟨_, rfl⟩
 rw [hW3] at hb3
 unfold w3 at hW3
 rw [hng] at hl ⊢
 have HB := hid hb3
 have HN := hid (And.intro hng hna)
 have HL := hid (And.intro hl hla)
 have HE := hid eF
 have HGM := hid (And.intro hG ho)
 have HNB := hid (fun (U : World) (hU : W3.grownBy U none) => newb_calls gs xa xc U (h.grown (gT hb3.g hU)))
 rw [hng] at HNB
 have HRF := hid (fun (U : World) (hU : w.grownBy U none) => references_new m ar aa ca U (hma.grown hU) (by rw [hna]; omega))
 rw [hna] at HRF
 have hmf : ∀ (fn : Fn) (first cap : Array Value) (w : World), (Instr.makeFunc fn first cap).run Try.prog w = .ok (.func fn first cap) w := fun _ _ _ _ => rfl
 have z0 := HB.out.c
 clear hb3 hng eF h hma hna hG ho hl hla
 go_enter Try.func30, Try.ntmps30
 go_wp2_with fail
 clear hW3 z0
 refine (HNB.out W3 (grown_refl _ _)).mono ?_
 rintro e V ⟨q, p, rfl, hp, hq, hpq, hq0, hgx, hg1⟩
 have HQ0 := hid hq0
 have HGX := hid hgx
 have HG1 := hid hg1
 have HWB := hid (show W3.heap.size = w.heap.size + 3 ∧ w.heap.size + 3 ≤ p ∧ w.heap.size + 3 ≤ q ∧ p ≠ q ∧ p < V.heap.size ∧ q < V.heap.size from by have h1 := HB.out.sz; have h2 := hgx.p_lt; have h3 : q < V.heap.size := lies_lt hq0; omega)
 have HA := hid (And.intro (hg1.cell HB.out.a0 (by simp)) (hg1.cell HB.out.a1 (by simp)))
 clear hp hq hpq hgx hg1
 have y0 := HA.out.1
 have y1 := HA.out.2
 have HGD := hid (show w.grownBy V.drew none from gT (gT HB.out.g HG1.out) ⟨rfl, rfl, rfl, Nat.le_refl _, fun _ _ _ => rfl⟩)
 have HLF := hid (show gF.length ≤ 1000 from by
  have h1 := (most_foldP (f := orF) (c := 1) (fun s x => most_orP s x) (m.map (·.2)) 1)
  have h2 := Pr.len _ gs h1
  rw [HE.out, List.length_map] at h2
  have h3 := HL.out
  have h4 := HN.out
  simp only at h2
  omega)
 go_wp2_with fail
 clear y0 y1 hq0
 refine wp_onlyN ?_
 have HS := hid (fun (Wh : World) (hWh : Off (fun k => k = p) V Wh) => (⟨hWh, hWh.cell HQ0.out (fun e => by have e' : q = p := e; have := HWB.out; omega), hWh.cell HA.out.1 (fun e => by have e' : w.heap.size + 1 = p := e; have := HWB.out; omega), hWh.cell HA.out.2 (fun e => by have e' : w.heap.size + 1 = p := e; have := HWB.out; omega)⟩ : (fun Wh : World => Off (fun k => k = p) V Wh ∧ Wh.cell? ⟨q, 0, none⟩ = some (.pointer (some ⟨p, 0, none⟩)) ∧ Wh.cell? ⟨w.heap.size + 1, 0, none⟩ = some (.int .i64 ar) ∧ Wh.cell? ⟨w.heap.size + 1, 1, none⟩ = some (.slice aa na ca)) Wh))
 have hdr : Off (fun k => k = p) V V.drew := Off.of (show V.grownBy V.drew none from ⟨rfl, rfl, rfl, Nat.le_refl _, fun _ _ _ => rfl⟩) (fun k e => by cases e)
 refine wp_region_held_drew (S := (fun Wh : World => Off (fun k => k = p) V Wh ∧ Wh.cell? ⟨q, 0, none⟩ = some (.pointer (some ⟨p, 0, none⟩)) ∧ Wh.cell? ⟨w.heap.size + 1, 0, none⟩ = some (.int .i64 ar) ∧ Wh.cell? ⟨w.heap.size + 1, 1, none⟩ = some (.slice aa na ca))) (by kernel_rfl) (HS.out _ hdr) (fun hH => ?_)
 refine tq 0 ({ dst := some 10, op := Op.move (Operand.tmp 6), type := 77, pos := "matrix.go:194", after := #[], guard := none }) ?_ ?_ hH ?_
 rotate_left 1
 · (intro W h; (try dsimp only at h); go_simp <;> with_reducible rfl)
 try simp only [Act.put, sA, sB, sC]
 refine tq 1 ({ dst := some 11, op := Op.nilCheck (Operand.tmp 10), type := 0, pos := "matrix.go:194", after := #[{ on := 0, ground := Ground.data }], guard := none }) ?_ ?_ hH ?_
 rotate_left 1
 · (intro W h; (try dsimp only at h); go_simp <;> with_reducible rfl)
 try simp only [Act.put, sA, sB, sC]
 refine tq 2 ({ dst := some 12, op := Op.fieldAddr 88 (Operand.tmp 11) 0, type := 0, pos := "matrix.go:194", after := #[{ on := 1, ground := Ground.data }], guard := none }) ?_ ?_ hH ?_
 rotate_left 1
 · (intro W h; (try dsimp only at h); go_simp <;> with_reducible rfl)
 try simp only [Act.put, sA, sB, sC]
 refine tq 3 ({ dst := some 13, op := Op.load 86 (Operand.tmp 12), type := 86, pos := "matrix.go:194", after := #[{ on := 2, ground := Ground.data }], guard := none }) ?_ ?_ hH ?_
 rotate_left 1
 · (intro W h; (try dsimp only at h); go_simp <;> with_reducible rfl)
 try simp only [Act.put, sA, sB, sC]
 refine tq 4 ({ dst := some 14, op := Op.makeFunc (Fn.func 75) #[Operand.tmp 13] #[], type := 85, pos := "matrix.go:194", after := #[{ on := 3, ground := Ground.data }], guard := none }) ?_ ?_ hH ?_
 rotate_left 1
 · (intro W h; (try dsimp only at h); go_simp <;> with_reducible rfl)
 try simp only [Act.put, sA, sB, sC]
 refine tq 5 ({ dst := some 15, op := Op.load 26 (Operand.tmp 3), type := 26, pos := "matrix.go:194", after := #[], guard := none }) ?_ ?_ hH ?_
 rotate_left 1
 · (intro W h; (try dsimp only at h); go_simp <;> with_reducible rfl)
 try simp only [Act.put, sA, sB, sC]
 refine wpAnyH_ready (rs := [6]) (by kernel_rfl) (by simp) ?_
 refine (AllReadyH.cons (o := { dst := some 16, op := Op.call { callee := Callee.value (Operand.func 89), args := #[Operand.tmp 15], argTypes := #[26] }, type := 31, pos := "matrix.go:194", after := #[{ on := 5, ground := Ground.data }], guard := none }) rfl (fun K hK => ?_) AllReadyH.nil)
 rw [if_pos (by rfl)]
 go_simp
 go_at_call 89
 refine (HRF.out (World.drew V) HGD.out).mono ?_
 rintro e wR ⟨rb, rd, rfl, hir, hgr⟩
 have hvR := Off.trans (N := fun k => k = p) hdr (Off.of hgr (fun k e => by cases e)) (fun _ _ e => e)
 go_wp2_with fail
 refine hK.out _ _ (HS.out _ hvR) (fun hH => ?_)
 clear hK K
 try simp only [Act.put, sA, sB, sC]
 refine wpAnyH_ready (rs := [7]) (by kernel_rfl) (by simp) ?_
 refine (AllReadyH.cons (o := { dst := some 17, op := Op.call { callee := Callee.value (Operand.func 87), args := #[Operand.tmp 14, Operand.const (Value.int IntKind.i64 1), Operand.tmp 16], argTypes := #[85, 3, 31] }, type := 3, pos := "matrix.go:194", after := #[{ on := 4, ground := Ground.data }, { on := 6, ground := Ground.data }, { on := 6, ground := Ground.chain }], guard := none }) rfl (fun K hK => ?_) AllReadyH.nil)
 rw [if_pos (by rfl)]
 go_simp
 go_at_call 87
 refine (foldor_calls gs (m.map (·.2)) 1 gF rF na (by rw [List.length_map, HN.out.2]) HE.out p (fun k => k = p) wR 0 ((HGX.out.grown (⟨rfl, rfl, rfl, Nat.le_refl _, fun _ _ _ => rfl⟩ : V.grownBy V.drew none)).grown hgr) rb rd (hir (fun k => k = p) (fun k e => by have e' : k = p := e; have := HWB.out; show k < V.heap.size; omega)) HGM.out.1 (fun x hx => by obtain ⟨c, hc, rfl⟩ := List.mem_map.1 hx; exact HGM.out.2 c hc) (one_ok HGM.out.1).1 (by have := HL.out; have := HN.out; omega)).mono ?_
 rintro e wF ⟨rfl, hi, hgF, hoF⟩
 have hvF := hvR.trans hoF (fun _ _ e => e)
 go_wp2_with fail
 refine hK.out _ _ (HS.out _ hvF) (fun hH => ?_)
 clear hK K
 try simp only [Act.put, sA, sB, sC]
 refine tq 8 ({ dst := some 7, op := Op.assign (Operand.tmp 17), type := 3, pos := "matrix.go:194", after := #[{ on := 7, ground := Ground.data }, { on := 7, ground := Ground.chain }, { on := 0, ground := Ground.phase }, { on := 1, ground := Ground.phase }, { on := 2, ground := Ground.phase }, { on := 3, ground := Ground.phase }, { on := 4, ground := Ground.phase }, { on := 5, ground := Ground.phase }, { on := 6, ground := Ground.phase }, { on := 7, ground := Ground.phase }], guard := none }) ?_ ?_ hH ?_
 rotate_left 1
 · (intro W h; (try dsimp only at h); go_simp <;> with_reducible rfl)
 try simp only [Act.put, sA, sB, sC]
 refine wpAnyH_done (by kernel_rfl) ?_ _
 have hEND := hvF
 clear hH
 simp only [onlyN]
 have HOF := hid hvF
 have HGF := hid hgF
 clear hvF hgF hoF hvR hir hgr hEND hdr HS
 clear hmf
 have q0 := HOF.out.cell HQ0.out (fun e => by have e' : q = p := e; have := HWB.out; omega)
 go_wp2_with fail
 clear q0
 refine (gcircuit_off gF p _ wF _ HGF.out (by have := HLF.out; omega)).mono ?_
 rintro e wM ⟨ca1, cc1, rfl, hsp, hof⟩
 have HOM := hid (HOF.out.trans hof (fun _ _ e => e))
 have HSP := hid hsp
 have hrc : Rc wM (w.heap.size + 2) 0 (.slice none 0 0) := Rc.step (M := fun k => k = p) (show Rc V (w.heap.size + 2) 0 (.slice none 0 0) from ⟨HG1.out.cell HB.out.r (by simp), (grown_frozen HG1.out (lies_lt HB.out.r) 0).trans HB.out.rf⟩) HOM.out (fun e => by have e' : w.heap.size + 2 = p := e; have := HWB.out; omega)
 have HRC := hid hrc
 clear hsp hof hrc
 have k0 := HRC.out.1
 have kf := HRC.out.2
 go_wp2_with fail
 refine bodyPost_ret (resM30 _ _ (w.heap.size + 2) ca1 gF.length cc1 _ rfl rfl (HRC.out.set (.slice ca1 gF.length cc1)).1) rfl ⟨ca1, cc1, rfl, (HSP.out.away (off_set wM (w.heap.size + 2) 0 (.slice ca1 gF.length cc1)) (fun k e => by have e' : k = w.heap.size + 2 := e; have := HWB.out; omega)).here, ?_⟩
 exact grown_own (HOM.out.grown (gT HB.out.g HG1.out) (fun k e => by have e' : k = p := e; have := HWB.out; omega)) (grown_set wM (w.heap.size + 2) 0 (.slice ca1 gF.length cc1)) (fun x e => by cases e; exact Nat.le_add_right _ _)
theorem resM32 (tmps : Array Value) (w : World) (b : Nat) (a : Option Addr) (n d : Nat) (x : Value) (ht : tmps.getD 4 undef = .pointer (some ⟨b, 0, none⟩)) (hu : tmps.getD 5 undef = x) (h0 : w.cell? ⟨b, 0, none⟩ = some (.slice a n d)) :
  (results Try.f32 tmps).run Try.prog w = .ok (.tuple #[.agg #[.slice a n d], x]) w := by
 have ht' : tmps[4]?.getD undef = .pointer (some ⟨b, 0, none⟩) := by simpa using ht
 have hu' : tmps[5]?.getD undef = x := by simpa using hu
 simp [results, ht', hu', go_sem, h0, Result.andThen]
theorem mlone_calls (gs : List Gt) (m : List Cl) (ar : Int) (gF : List Gt) (rF : Int) (xa : Option Addr) (xc : Nat) (aa : Option Addr) (na ca : Nat) (w : World)
  (eF : (loneP (m.map (·.2))).run gs = (gF, rF)) (h : GatesW w xa xc gs) (hma : CellsW w aa ca m) (hna : m.length = na) (hG : Good gs) (ho : ∀ x ∈ m, Ok gs x.2) (hl : gs.length + 3 * na ≤ 880) (hla : na ≤ 200) :
  Calls Try.prog 32 #[.agg #[.slice xa gs.length xc], .agg #[.int .i64 ar, .slice aa na ca]] w (Ans w gF rF) := by
 obtain ⟨ng, hng⟩ : ∃ n, gs.length = n := ⟨_, rfl⟩
 have hb3 := b3 w (.slice xa ng xc) (.int .i64 ar) (.slice aa na ca)
 obtain ⟨W3, hW3⟩ : ∃ z, w3 w (.slice xa ng xc) (.int .i64 ar) (.slice aa na ca) = z := ⟨_, rfl⟩
 rw [hW3] at hb3
 unfold w3 at hW3
 rw [hng] at hl ⊢
 have HB := hid hb3
 have HN := hid (And.intro hng hna)
 have HL := hid (And.intro hl hla)
 have HE := hid eF
 have HGM := hid (And.intro hG ho)
 have HNB := hid (fun (U : World) (hU : W3.grownBy U none) => newb_calls gs xa xc U (h.grown (gT hb3.g hU)))
 rw [hng] at HNB
 have HRF := hid (fun (U : World) (hU : w.grownBy U none) => references_new m ar aa ca U (hma.grown hU) (by rw [hna]; omega))
 rw [hna] at HRF
 have hmf : ∀ (fn : Fn) (first cap : Array Value) (w : World), (Instr.makeFunc fn first cap).run Try.prog w = .ok (.func fn first cap) w := fun _ _ _ _ => rfl
 have z0 := HB.out.c
 clear hb3 hng eF h hma hna hG ho hl hla
 go_enter Try.func32, Try.ntmps32
 go_wp2_with fail
 clear hW3 z0
 refine (HNB.out W3 (grown_refl _ _)).mono ?_
 rintro e V ⟨q, p, rfl, hp, hq, hpq, hq0, hgx, hg1⟩
 have HQ0 := hid hq0
 have HGX := hid hgx
 have HG1 := hid hg1
 have HWB := hid (show W3.heap.size = w.heap.size + 3 ∧ w.heap.size + 3 ≤ p ∧ w.heap.size + 3 ≤ q ∧ p ≠ q ∧ p < V.heap.size ∧ q < V.heap.size from by have h1 := HB.out.sz; have h2 := hgx.p_lt; have h3 : q < V.heap.size := lies_lt hq0; omega)
 have HA := hid (And.intro (hg1.cell HB.out.a0 (by simp)) (hg1.cell HB.out.a1 (by simp)))
 clear hp hq hpq hgx hg1
 have y0 := HA.out.1
 have y1 := HA.out.2
 have HGD0 := hid (show w.grownBy V none from gT HB.out.g HG1.out)
 obtain ⟨l, hl⟩ : ∃ z, m.map (·.2) = z := ⟨_, rfl⟩
 have HLL := hid (show l.length = na from by rw [← hl, List.length_map, HN.out.2])
 have HLO := hid (show ∀ x ∈ l, Ok gs x from fun x hx => by rw [← hl] at hx; obtain ⟨c, hc, rfl⟩ := List.mem_map.1 hx; exact HGM.out.2 c hc)
 rw [hl] at HE HRF
 clear hl
 obtain ⟨qF, hqF⟩ : ∃ z, (foldP loneF l (1, 1)).run gs = z := ⟨_, rfl⟩
 have hsF := HE.out
 unfold loneP at hsF
 rw [Pr.run_bind, hqF] at hsF
 obtain ⟨gE, tE, sE⟩ := qF
 injection hsF with e1 e2
 have e1' : gE = gF := e1
 have e2' : notR tE = rF := e2
 subst e1' e2'
 have HEF := hid (show (foldP loneF (l.drop 0) (1, 1)).run gs = (gE, (tE, sE)) from hqF)
 have HLF := hid (show gE.length ≤ 1000 from by
  have hmm : ∀ (s : Int × Int) (x : Int), (loneF s x).most 3 := fun s x => by
   unfold loneF
   have a1 : ∀ t : Int, ((orP s.2 x).bind fun e => Pr.ret (t, e)).most (1 + 0) := fun t => Pr.most_bind (f := fun e => Pr.ret (t, e)) (n := 0) (fun _ => trivial) _ (most_orP _ _)
   have a2 : ∀ u : Int, ((orP s.1 u).bind fun t => (orP s.2 x).bind fun e => Pr.ret (t, e)).most (1 + (1 + 0)) := fun u => Pr.most_bind (n := 1 + 0) a1 _ (most_orP _ _)
   exact Pr.most_bind (n := 1 + (1 + 0)) a2 _ (most_andP _ _)
  have h1 := most_foldP hmm l (1, 1)
  have h2 := Pr.len _ gs h1
  rw [hqF] at h2
  have h3 := HL.out
  have h4 := HN.out
  have h5 := HLL.out
  simp only at h2
  omega)
 clear hqF e1 e2 HE hmf
 go_wp2_with fail
 clear y0 y1 hq0
 refine (HRF.out V HGD0.out).mono ?_
 rintro e wR ⟨rb, rd, rfl, hir, hgr⟩
 have HROW := hid (hir (fun k => k = p) (fun k e => by have e' : k = p := e; have := HWB.out; omega))
 have HVR := hid hgr
 have HWR := hid (show V.heap.size ≤ wR.heap.size from hgr.size)
 have HGX0 := hid ((HGX.out.grown hgr).wide (N := fun k => k = p ∨ wR.heap.size ≤ k) (hi' := 0) (fun k hk => .inl hk) (Int.le_refl _))
 clear hir hgr
 go_wp2_with fail
 go_loopg [7, 8, 16] na (fun gk s7 s8 s16 wr => ∃ (k : Nat) (t s : Int) (g : List Gt) (hi : Int), s7 = .int .i64 s ∧ s8 = .int .i64 t ∧ s16 = .int .i64 (k : Int) ∧ gk = na - k ∧ k ≤ na ∧ (foldP loneF (l.drop k) (t, s)).run g = (gE, (tE, sE)) ∧ Good g ∧ Ok g t ∧ Ok g s ∧ gs <+: g ∧ g.length ≤ gs.length + 3 * k ∧ GX p (fun k => k = p ∨ wR.heap.size ≤ k) wr g hi ∧ Off (fun k => k = p) wR wr)
 case atStart => exact ⟨0, 1, 1, gs, 0, rfl, rfl, rfl, rfl, Nat.zero_le _, HEF.out, HGM.out.1, (one_ok HGM.out.1).1, (one_ok HGM.out.1).1, List.prefix_refl _, Nat.le_refl _, HGX0.out, Off.refl _ _⟩
 case round =>
  obtain ⟨k, t, s, g, hi, rfl, rfl, rfl, hgk, hk, he, hg, hot, hos, hpx, hgl, hgx, hof⟩ := hrel
  have HI := hid hgk; clear hgk
  have HOF := hid hof
  have HQR := hid (hof.cell (HVR.out.cell HQ0.out (by simp)) (fun e => by have e' : q = p := e; have := HWB.out; omega))
  have HX0 := hid hgx
  by_cases hkn : k < na
  ·
   have f1 : decide (k < na) = true := decide_eq_true hkn
   have f2 : decide ((k : Int) < (na : Int)) = true := decide_eq_true (by omega)
   have hk1 : IntKind.i64.wrap ((k : Int) + 1) = ((k + 1 : Nat) : Int) := by rw [IntWalk.i64_in _ (by have := HL.out; omega)]; omega
   have hj0 : (0 : Int) ≤ (k : Int) := by omega
   have hj1 : (k : Int) < (na : Int) := by omega
   obtain ⟨x, hx⟩ : ∃ r, l[k]? = some r := ⟨_, List.getElem?_eq_getElem (by rw [HLL.out]; exact hkn)⟩
   obtain ⟨ba, oa, hba, x0⟩ := (HROW.out.off hof (N' := fun k => k = p) (fun k hk => .inl hk)).weak.at hx
   subst hba
   have hox : Ok g x := by have := HLO.out x (List.mem_of_getElem? hx); have := hpx.length_le; unfold Ok at *; omega
   have HBD := hid (show k + 1 ≤ na ∧ g.length ≤ gs.length + 3 * k ∧ gs.length + 3 * na ≤ 880 from by have h1 := HL.out; have h2 := HN.out; omega)
   obtain ⟨qa, hqa⟩ : ∃ z, andC g s x = z := ⟨_, rfl⟩
   obtain ⟨g1, u⟩ := qa
   have h1 := step_and hg s x
   have h2 := and_ok hg (by have := HBD.out; omega) hos hox
   have h3 := @and_len g s x
   rw [hqa] at h1 h2 h3
   have h3' : g1.length ≤ g.length + 1 := h3
   have ht1 : Ok g1 t := by have h9 := h1.pre.length_le; unfold Ok at hot ⊢; simp only at h9; omega
   obtain ⟨qb, hqb⟩ : ∃ z, orC g1 t u = z := ⟨_, rfl⟩
   obtain ⟨g2, t2⟩ := qb
   have h4 := step_or h1.good t u
   have h5 := or_ok h1.good (by have := HBD.out; omega) ht1 h2
   have h6 := @or_len g1 t u
   rw [hqb] at h4 h5 h6
   have h6' : g2.length ≤ g1.length + 1 := h6
   have hs2 : Ok g2 s := by have h9 := h1.pre.length_le; have h8 := h4.pre.length_le; unfold Ok at hos ⊢; simp only at h9 h8; omega
   have hx2 : Ok g2 x := by have h9 := h1.pre.length_le; have h8 := h4.pre.length_le; unfold Ok at hox ⊢; simp only at h9 h8; omega
   obtain ⟨qc, hqc⟩ : ∃ z, orC g2 s x = z := ⟨_, rfl⟩
   obtain ⟨g3, s2⟩ := qc
   have h7 := step_or h4.good s x
   have h8 := or_ok h4.good (by have := HBD.out; omega) hs2 hx2
   have h9 := @or_len g2 s x
   rw [hqc] at h7 h8 h9
   have h9' : g3.length ≤ g2.length + 1 := h9
   have hst : (loneF (t, s) x).run g = (g3, (t2, s2)) := by
    unfold loneF
    rw [Pr.run_bind, run_andP]
    show (((orP t (andC g s x).2).bind fun t => (orP s x).bind fun e => Pr.ret (t, e)).run (andC g s x).1) = _
    rw [hqa, Pr.run_bind]
    show (((orP s x).bind fun e => Pr.ret ((orC g1 t u).2, e)).run (orC g1 t u).1) = _
    rw [hqb, Pr.run_bind]
    show ((orC g2 s x).1, ((t2, (orC g2 s x).2) : Int × Int)) = _
    rw [hqc]
   rw [drop_at hx, run_foldP_cons, hst] at he
   have HNX := hid (And.intro he (And.intro h7.good (And.intro (show Ok g3 t2 from by have h10 := h7.pre.length_le; have h11 : Ok g2 t2 := h5; unfold Ok at h11 ⊢; simp only at h10; omega) (And.intro (show Ok g3 s2 from h8) (And.intro (hpx.trans (h1.pre.trans (h4.pre.trans h7.pre))) (show g3.length ≤ gs.length + 3 * (k + 1) from by have := HBD.out; omega))))))
   have HQ1 := hid hqa
   have HQ2 := hid hqb
   have HQ3 := hid hqc
   have HGD := hid (And.intro hg (show g.length ≤ 880 by have := HBD.out; omega))
   have HG1' := hid (show Good g1 ∧ g1.length ≤ 900 from ⟨h1.good, by have := HBD.out; omega⟩)
   have HG2 := hid (show Good g2 ∧ g2.length ≤ 900 from ⟨h4.good, by have := HBD.out; omega⟩)
   have HTL := hid (show t ≤ 9223372036854775807 ∧ u ≤ 9223372036854775807 from ⟨by unfold Ok at hot; have := HBD.out; omega, by have h10 : Ok g1 u := h2; unfold Ok at h10; have := HBD.out; omega⟩)
   have HSX := hid (show s ≤ 9223372036854775807 ∧ x ≤ 9223372036854775807 from ⟨by unfold Ok at hos; have := HBD.out; omega, by unfold Ok at hox; have := HBD.out; omega⟩)
   clear hx he hg hot hos hpx hgl hgx hof hox hqa h1 h2 h3 h3' ht1 hqb h4 h5 h6 h6' hs2 hx2 hqc h7 h8 h9 h9' hst
   go_wp2_with fail
   clear x0
   refine wp_onlyN ?_
   have HS := hid (fun (Wh : World) (hWh : Off (fun k => k = p ∨ wR.heap.size ≤ k) wr Wh) => (⟨hWh, hWh.cell HQR.out (fun e => by have := HWR.out; have := HWB.out; rcases e with e | e; (have e' : q = p := e; omega); (have e' : wR.heap.size ≤ q := e; omega))⟩ : (fun Wh : World => Off (fun k => k = p ∨ wR.heap.size ≤ k) wr Wh ∧ Wh.cell? ⟨q, 0, none⟩ = some (.pointer (some ⟨p, 0, none⟩))) Wh))
   have hdr : Off (fun k => k = p ∨ wR.heap.size ≤ k) wr wr.drew := Off.of (show wr.grownBy wr.drew none from ⟨rfl, rfl, rfl, Nat.le_refl _, fun _ _ _ => rfl⟩) (fun k e => by cases e)
   refine wp_region_held_drew (S := (fun Wh : World => Off (fun k => k = p ∨ wR.heap.size ≤ k) wr Wh ∧ Wh.cell? ⟨q, 0, none⟩ = some (.pointer (some ⟨p, 0, none⟩)))) (by kernel_rfl) (HS.out _ hdr) (fun hH => ?_)
   refine tq 0 ({ dst := some 20, op := Op.move (Operand.tmp 6), type := 77, pos := "matrix.go:203", after := #[], guard := none }) ?_ ?_ hH ?_
   rotate_left 1
   · (intro W h; (try dsimp only at h); go_simp <;> with_reducible rfl)
   try simp only [Act.put, sA, sB, sC]
   refine tq 1 ({ dst := some 21, op := Op.nilCheck (Operand.tmp 20), type := 0, pos := "matrix.go:203", after := #[{ on := 0, ground := Ground.data }], guard := none }) ?_ ?_ hH ?_
   rotate_left 1
   · (intro W h; (try dsimp only at h); go_simp <;> with_reducible rfl)
   try simp only [Act.put, sA, sB, sC]
   refine tq 2 ({ dst := some 22, op := Op.fieldAddr 88 (Operand.tmp 21) 0, type := 0, pos := "matrix.go:203", after := #[{ on := 1, ground := Ground.data }], guard := none }) ?_ ?_ hH ?_
   rotate_left 1
   · (intro W h; (try dsimp only at h); go_simp <;> with_reducible rfl)
   try simp only [Act.put, sA, sB, sC]
   refine tq 3 ({ dst := some 23, op := Op.load 86 (Operand.tmp 22), type := 86, pos := "matrix.go:203", after := #[{ on := 2, ground := Ground.data }], guard := none }) ?_ ?_ hH ?_
   rotate_left 1
   · (intro W h; (try dsimp only at h); go_simp <;> with_reducible rfl)
   try simp only [Act.put, sA, sB, sC]
   refine tq 4 ({ dst := some 24, op := Op.move (Operand.tmp 8), type := 3, pos := "matrix.go:203", after := #[], guard := none }) ?_ ?_ hH ?_
   rotate_left 1
   · (intro W h; (try dsimp only at h); go_simp <;> with_reducible rfl)
   try simp only [Act.put, sA, sB, sC]
   refine tq 5 ({ dst := some 25, op := Op.move (Operand.tmp 6), type := 77, pos := "matrix.go:203", after := #[], guard := none }) ?_ ?_ hH ?_
   rotate_left 1
   · (intro W h; (try dsimp only at h); go_simp <;> with_reducible rfl)
   try simp only [Act.put, sA, sB, sC]
   refine tq 6 ({ dst := some 26, op := Op.nilCheck (Operand.tmp 25), type := 0, pos := "matrix.go:203", after := #[{ on := 5, ground := Ground.data }], guard := none }) ?_ ?_ hH ?_
   rotate_left 1
   · (intro W h; (try dsimp only at h); go_simp <;> with_reducible rfl)
   try simp only [Act.put, sA, sB, sC]
   refine tq 7 ({ dst := some 27, op := Op.fieldAddr 88 (Operand.tmp 26) 0, type := 0, pos := "matrix.go:203", after := #[{ on := 6, ground := Ground.data }], guard := none }) ?_ ?_ hH ?_
   rotate_left 1
   · (intro W h; (try dsimp only at h); go_simp <;> with_reducible rfl)
   try simp only [Act.put, sA, sB, sC]
   refine tq 8 ({ dst := some 28, op := Op.load 86 (Operand.tmp 27), type := 86, pos := "matrix.go:203", after := #[{ on := 7, ground := Ground.data }], guard := none }) ?_ ?_ hH ?_
   rotate_left 1
   · (intro W h; (try dsimp only at h); go_simp <;> with_reducible rfl)
   try simp only [Act.put, sA, sB, sC]
   refine tq 9 ({ dst := some 29, op := Op.move (Operand.tmp 7), type := 3, pos := "matrix.go:203", after := #[], guard := none }) ?_ ?_ hH ?_
   rotate_left 1
   · (intro W h; (try dsimp only at h); go_simp <;> with_reducible rfl)
   try simp only [Act.put, sA, sB, sC]
   refine tq 10 ({ dst := some 30, op := Op.move (Operand.tmp 10), type := 3, pos := "matrix.go:203", after := #[], guard := none }) ?_ ?_ hH ?_
   rotate_left 1
   · (intro W h; (try dsimp only at h); go_simp <;> with_reducible rfl)
   try simp only [Act.put, sA, sB, sC]
   refine wpAnyH_ready (rs := [11]) (by kernel_rfl) (by simp) ?_
   refine (AllReadyH.cons (o := { dst := some 31, op := Op.call { callee := Callee.value (Operand.func 81), args := #[Operand.tmp 28, Operand.tmp 29, Operand.tmp 30], argTypes := #[86, 3, 3] }, type := 3, pos := "matrix.go:203", after := #[{ on := 8, ground := Ground.data }, { on := 9, ground := Ground.data }, { on := 10, ground := Ground.data }], guard := none }) rfl (fun K hK => ?_) AllReadyH.nil)
   rw [if_pos (by rfl)]
   go_simp
   go_at_call 81
   refine (gand_c g s x p g1 u HQ1.out HGD.out.1 (by have := HBD.out; omega) (fun k => k = p ∨ wR.heap.size ≤ k) (World.drew wr) hi (HX0.out.grown (⟨rfl, rfl, rfl, Nat.le_refl _, fun _ _ _ => rfl⟩ : wr.grownBy wr.drew none))).mono ?_
   rintro e wA ⟨rfl, hiA, hu, hoA⟩
   have hvA := hdr.trans hoA (fun _ _ e => e)
   replace hu := hu.wide (N := fun k => k = p ∨ wR.heap.size ≤ k) (fun k hk => hk.elim id (fun h => .inr (Nat.le_trans HOF.out.size h))) (Int.le_refl _)
   go_wp2_with fail
   refine hK.out _ _ (HS.out _ hvA) (fun hH => ?_)
   clear hK K
   try simp only [Act.put, sA, sB, sC]
   refine wpAnyH_ready (rs := [12]) (by kernel_rfl) (by simp) ?_
   refine (AllReadyH.cons (o := { dst := some 32, op := Op.call { callee := Callee.value (Operand.func 75), args := #[Operand.tmp 23, Operand.tmp 24, Operand.tmp 31], argTypes := #[86, 3, 3] }, type := 3, pos := "matrix.go:203", after := #[{ on := 3, ground := Ground.data }, { on := 4, ground := Ground.data }, { on := 11, ground := Ground.data }, { on := 11, ground := Ground.chain }], guard := none }) rfl (fun K hK => ?_) AllReadyH.nil)
   rw [if_pos (by rfl)]
   go_simp
   go_at_call 75
   refine (gor_c g1 t u p g2 t2 HQ2.out HG1'.out.1 (by have := HG1'.out; omega) HTL.out.1 HTL.out.2 (fun k => k = p ∨ wR.heap.size ≤ k) wA hiA hu).mono ?_
   rintro e wO ⟨rfl, hiO, hv, hoO⟩
   have hvO := hvA.trans hoO (fun _ _ e => e)
   have hszA := Nat.le_trans HOF.out.size hvA.size
   replace hv := hv.wide (N := fun k => k = p ∨ wR.heap.size ≤ k) (fun k hk => hk.elim id (fun h => .inr (Nat.le_trans hszA h))) (Int.le_refl _)
   clear hszA
   go_wp2_with fail
   refine hK.out _ _ (HS.out _ hvO) (fun hH => ?_)
   clear hK K
   try simp only [Act.put, sA, sB, sC]
   refine tq 13 ({ dst := some 8, op := Op.assign (Operand.tmp 32), type := 3, pos := "matrix.go:203", after := #[{ on := 12, ground := Ground.data }, { on := 12, ground := Ground.chain }, { on := 0, ground := Ground.phase }, { on := 1, ground := Ground.phase }, { on := 2, ground := Ground.phase }, { on := 3, ground := Ground.phase }, { on := 4, ground := Ground.phase }, { on := 5, ground := Ground.phase }, { on := 6, ground := Ground.phase }, { on := 7, ground := Ground.phase }, { on := 8, ground := Ground.phase }, { on := 9, ground := Ground.phase }, { on := 10, ground := Ground.phase }, { on := 11, ground := Ground.phase }, { on := 12, ground := Ground.phase }], guard := none }) ?_ ?_ hH ?_
   rotate_left 1
   · (intro W h; (try dsimp only at h); go_simp <;> with_reducible rfl)
   try simp only [Act.put, sA, sB, sC]
   refine wpAnyH_done (by kernel_rfl) ?_ _
   have hEND := hvO
   clear hH
   simp only [onlyN]
   have HVO := hid hvO
   have HV := hid hv
   clear hvO hv hoO hvA hu hoA hEND hdr HS
   have q0 := HVO.out.cell HQR.out (fun e => by have := HWR.out; have := HWB.out; rcases e with e | e; (have e' : q = p := e; omega); (have e' : wR.heap.size ≤ q := e; omega))
   go_wp2_with fail
   clear q0
   refine (gor_c g2 s x p g3 s2 HQ3.out HG2.out.1 (by have := HG2.out; omega) HSX.out.1 HSX.out.2 (fun k => k = p ∨ wR.heap.size ≤ k) wO hiO HV.out).mono ?_
   rintro e wS ⟨rfl, hiS, hgS, hoS⟩
   have HOO := hid (HVO.out.trans hoS (fun _ _ e => e))
   have HGS := hid (hgS.wide (N := fun k => k = p ∨ wR.heap.size ≤ k) (hi' := hiS) (fun k hk => hk.elim id (fun h => .inr (Nat.le_trans (Nat.le_trans HOF.out.size HVO.out.size) h))) (Int.le_refl _))
   have HOE := hid (HOF.out.trans HOO.out (fun k hk e => e.elim id (fun h => absurd hk (by omega))))
   clear hgS hoS
   go_wp2_with fail
   go_roundg (na - (k + 1))
   case measure => rw [HI.out]; omega
   case rel => exact ⟨k + 1, t2, s2, g3, hiS, rfl, rfl, rfl, rfl, by omega, HNX.out.1, HNX.out.2.1, HNX.out.2.2.1, HNX.out.2.2.2.1, HNX.out.2.2.2.2.1, HNX.out.2.2.2.2.2, HGS.out, HOE.out⟩
  ·
   have f1 : decide (k < na) = false := decide_eq_false hkn
   have f2 : decide ((k : Int) < (na : Int)) = false := decide_eq_false (by omega)
   rw [List.drop_of_length_le (by rw [HLL.out]; omega)] at he
   have e1 : g = gE := congrArg Prod.fst he
   have e2 : t = tE := congrArg (fun z => z.2.1) he
   have e3 : s = sE := congrArg (fun z => z.2.2) he
   have HTN := hid (show t ≤ 9223372036854775807 from by have h2 := HLF.out; rw [← e1] at h2; unfold Ok at hot; omega)
   have HGF := hid (show GX p (fun k => k = p ∨ wR.heap.size ≤ k) wr gE hi from by rw [← e1]; exact hgx)
   have HTE := hid e2
   have HOF2 := hid ((Off.of HVR.out (M := fun k => k = p) (fun k e => by cases e)).trans hof (fun _ _ e => e))
   clear hkn he hg hot hos hpx hgl hgx hof e1 e2 e3 HX0 HOF
   have q1 := HQR.out
   have q0 := HOF2.out.cell HQ0.out (fun e => by have e' : q = p := e; have := HWB.out; omega)
   go_wp2_with fail
   clear q0
   refine (gcircuit_off gE p _ wr _ HGF.out (by have := HLF.out; omega)).mono ?_
   rintro e wM ⟨ca1, cc1, rfl, hsp, hof⟩
   have HOM := hid (HOF2.out.trans hof (fun _ _ e => e))
   have HSP := hid hsp
   have hrc : Rc wM (w.heap.size + 2) 0 (.slice none 0 0) := Rc.step (M := fun k => k = p) (show Rc V (w.heap.size + 2) 0 (.slice none 0 0) from ⟨HG1.out.cell HB.out.r (by simp), (grown_frozen HG1.out (lies_lt HB.out.r) 0).trans HB.out.rf⟩) HOM.out (fun e => by have e' : w.heap.size + 2 = p := e; have := HWB.out; omega)
   have HRC := hid hrc
   clear hsp hof hrc
   have k0 := HRC.out.1
   have kf := HRC.out.2
   go_wp2_with (go_at_call 83; refine (not_at t HTN.out).mono ?_; rintro e w9 ⟨rfl, hw9⟩; rw [hw9]; clear hw9 w9)
   rw [← HTE.out]
   refine bodyPost_ret (resM32 _ _ (w.heap.size + 2) ca1 gE.length cc1 _ rfl rfl (HRC.out.set (.slice ca1 gE.length cc1)).1) rfl ⟨ca1, cc1, rfl, (HSP.out.away (off_set wM (w.heap.size + 2) 0 (.slice ca1 gE.length cc1)) (fun k e => by have e' : k = w.heap.size + 2 := e; have := HWB.out; omega)).here, ?_⟩
   exact grown_own (HOM.out.grown (gT HB.out.g HG1.out) (fun k e => by have e' : k = p := e; have := HWB.out; omega)) (grown_set wM (w.heap.size + 2) 0 (.slice ca1 gE.length cc1)) (fun x e => by cases e; exact Nat.le_add_right _ _)
end Go.Proofs.Ythdhmflodiincaa
namespace Go.Proofs.Ythdhmflodiincaa
open Lib (hid)

theorem madeC_next (refs : List Int) (raw : List Nat) (k : Nat) : madeC refs raw (k + 1) = madeC refs raw k ++ (if (raw.getD k 0) % 2 = 1 ∧ pickL refs (raw.getD k 0 / 2) ≠ 1 then [((k : Int), pickL refs (raw.getD k 0 / 2))] else []) := by
 unfold madeC
 rw [List.range_succ, List.filterMap_append, List.filterMap_cons, List.filterMap_nil]
 by_cases hc : (raw.getD k 0) % 2 = 1 ∧ pickL refs (raw.getD k 0 / 2) ≠ 1
 · rw [if_pos hc, if_pos hc]
 · rw [if_neg hc, if_neg hc]
theorem madeC_all (refs : List Int) (raw : List Nat) : ∀ k, UpM (madeC refs raw k) ∧ ∀ c ∈ madeC refs raw k, 0 ≤ c.1 ∧ c.1 < (k : Int) ∧ c.2 ≠ 1 ∧ ∃ n, c.2 = pickL refs n
 | 0 => ⟨by unfold UpM madeC; simp, fun c hc => by simp [madeC] at hc⟩
 | k + 1 => by
  obtain ⟨h1, h2⟩ := madeC_all refs raw k
  rw [madeC_next]
  by_cases hc : (raw.getD k 0) % 2 = 1 ∧ pickL refs (raw.getD k 0 / 2) ≠ 1
  ·
   rw [if_pos hc]
   refine ⟨?_, fun c hm => ?_⟩
   ·
    unfold UpM at h1 ⊢
    rw [List.map_append, List.pairwise_append]
    refine ⟨h1, by simp, fun x hx y hy => ?_⟩
    obtain ⟨c, hc', rfl⟩ := List.mem_map.1 hx
    simp at hy
    subst hy
    exact (h2 c hc').2.1
   ·
    rcases List.mem_append.1 hm with hm | hm
    ·
     have := h2 c hm
     exact ⟨this.1, by have := this.2.1; omega, this.2.2⟩
    ·
     rw [List.mem_singleton.1 hm]
     exact ⟨by show (0 : Int) ≤ (k : Int); omega, by show (k : Int) < ((k + 1 : Nat) : Int); omega, hc.2, _, rfl⟩
  ·
   rw [if_neg hc, List.append_nil]
   exact ⟨h1, fun c hm => by have := h2 c hm; exact ⟨this.1, by have := this.2.1; omega, this.2.2⟩⟩
theorem madeC_len (refs : List Int) (raw : List Nat) (k : Nat) : (madeC refs raw k).length ≤ k := by
 unfold madeC
 exact Nat.le_trans (List.length_filterMap_le _ _) (by simp)
theorem made_mat {g : List Gt} {refs : List Int} (hp : 1 ≤ g.length) (h : ∀ r ∈ refs, Ok g r) (raw : List Nat) (k : Nat) : Mat g (madeC refs raw k) :=
 ⟨(madeC_all refs raw k).1, fun c hc => by
  obtain ⟨_, _, h3, n, h4⟩ := (madeC_all refs raw k).2 c hc
  exact ⟨by rw [h4]; exact pick_ok hp h n, h3⟩⟩
end Go.Proofs.Ythdhmflodiincaa
namespace Go.Proofs.Ythdhmflodiincaa
open Lib (hid)
open Go.RowKit Go.Maps

def okC (ng : Nat) (before : Int) (x : Cl) : Bool := !(decide (x.1 ≤ before)) && (!(decide (x.2 < 0)) && (!(x.2 == 1) && !(decide (2 * (ng : Int) ≤ x.2))))
def validGo (ng : Nat) : Int → List Cl → Bool
 | _, [] => true
 | b, x :: m => okC ng b x && validGo ng x.1 m
def validM (ng : Nat) (ar : Int) (m : List Cl) : Bool := validGo ng (-1) m && (decide (1 ≤ ar) && decide (ar ≤ 3))
theorem validGo_step {ng : Nat} {b : Int} {m : List Cl} {k : Nat} {x : Cl} (h : m[k]? = some x) : validGo ng b (m.drop k) = (okC ng b x && validGo ng x.1 (m.drop (k + 1))) := by
 obtain ⟨hj, hv⟩ := List.getElem?_eq_some_iff.1 h
 rw [List.drop_eq_getElem_cons hj, hv]
 rfl
theorem mvalid_calls (gs : List Gt) (m : List Cl) (ar : Int) (xa : Option Addr) (xc : Nat) (ma : Option Addr) (mc : Nat) (w : World) (hm : CellsW w ma mc m) (hl : gs.length ≤ 1000) (hl2 : m.length ≤ 1000) :
  Calls Try.prog 16 #[.agg #[.slice xa gs.length xc], .agg #[.int .i64 ar, .slice ma m.length mc]] w fun e w' => e = .returned (.bool (validM gs.length ar m)) ∧ w.grownBy w' none := by
 obtain ⟨ng, hng⟩ : ∃ n, gs.length = n := ⟨_, rfl⟩
 obtain ⟨n, hn⟩ : ∃ n, m.length = n := ⟨_, rfl⟩
 have HN := hid hn
 have HM := hid hm
 rw [hng] at hl ⊢
 rw [hn] at hl2 ⊢
 clear hn hm hng
 have g1 := gAl w (.cells #[.slice xa ng xc] 30) none
 have c1 := one_cell w (.slice xa ng xc) 30
 obtain ⟨W1, hW1⟩ : ∃ z, w.alloc (.cells #[.slice xa ng xc] 30) = z := ⟨_, rfl⟩
 have s1 : W1.heap.size = w.heap.size + 1 := by rw [← hW1]; simp
 rw [hW1] at g1 c1
 have g2 := gAl W1 (.cells #[.int .i64 ar, .slice ma n mc] 26) none
 have c2 := one_cells W1 (.int .i64 ar) (.slice ma n mc) 26
 obtain ⟨W2, hW2⟩ : ∃ z, W1.alloc (.cells #[.int .i64 ar, .slice ma n mc] 26) = z := ⟨_, rfl⟩
 rw [hW2] at g2 c2
 have HG := hid (gT g1 g2)
 have HC := hid (show W2.cell? ⟨w.heap.size, 0, none⟩ = some (.slice xa ng xc) ∧ W2.cell? ⟨W1.heap.size, 0, none⟩ = some (.int .i64 ar) from ⟨g2.cell c1.2.1 (by simp), c2.2.1⟩)
 have y0 := c2.2.2.1
 obtain ⟨V, hV⟩ : ∃ z, validM ng ar m = z := ⟨_, rfl⟩
 have HV := hid hV
 rw [hV]
 clear g1 g2 c1 c2 s1 hV
 go_enter Try.func16, Try.ntmps16
 go_wp2_with fail
 clear hW1 hW2 y0
 go_loopg [5, 11] n (fun gk s5 s11 wr => ∃ (k : Nat) (bf : Int), s5 = .int .i64 bf ∧ s11 = .int .i64 (k : Int) ∧ gk = n - k ∧ k ≤ n ∧ W2.grownBy wr none ∧ (validGo ng bf (m.drop k) && (decide (1 ≤ ar) && decide (ar ≤ 3))) = V)
 case atStart => exact ⟨0, -1, rfl, rfl, rfl, Nat.zero_le _, grown_refl _ _, HV.out⟩
 case round =>
  obtain ⟨k, bf, rfl, rfl, hgk, hk, hgr, hval⟩ := hrel
  have HI := hid (And.intro hgk (And.intro hgr hval)); clear hgk hgr hval
  by_cases hkn : k < n
  ·
   have f1 : decide (k < n) = true := decide_eq_true hkn
   have f2 : decide ((k : Int) < (n : Int)) = true := decide_eq_true (by omega)
   have hk1 : IntKind.i64.wrap ((k : Int) + 1) = ((k + 1 : Nat) : Int) := by rw [IntWalk.i64_in _ (by omega)]; omega
   have hj0 : (0 : Int) ≤ (k : Int) := by omega
   have hj1 : (k : Int) < (n : Int) := by omega
   obtain ⟨x, hx⟩ : ∃ r, m[k]? = some r := ⟨_, List.getElem?_eq_getElem (by rw [HN.out]; exact hkn)⟩
   obtain ⟨ba, oa, rfl, x0, x1⟩ := (HM.out.grown (gT HG.out HI.out.2.1)).at hx
   have hval := HI.out.2.2
   rw [validGo_step hx] at hval
   have HVL := hid hval
   clear hx hval
   go_upto_region 5 with fail
   have g5 := gAl wr (.cells #[.int .i64 x.1, .int .i64 x.2] 71) none
   have hc5 := one_cells wr (.int .i64 x.1) (.int .i64 x.2) 71
   obtain ⟨U, hU⟩ : ∃ z, wr.alloc (.cells #[.int .i64 x.1, .int .i64 x.2] 71) = z := ⟨_, rfl⟩
   rw [hU] at g5 hc5 ⊢
   obtain ⟨bx, hbx⟩ : ∃ z, wr.heap.size = z := ⟨_, rfl⟩
   rw [hbx] at hc5 ⊢
   have z0 := hc5.2.1
   have z1 := hc5.2.2.1
   have z2 := (gT HI.out.2.1 g5).cell HC.out.1 (by simp)
   have HGU := hid (gT HI.out.2.1 g5)
   have hw2 : IntKind.i64.wrap (2 * (ng : Int)) = 2 * (ng : Int) := IntWalk.i64_in _ (by omega)
   clear hU hbx g5 hc5 x0 x1
   by_cases k1 : x.1 ≤ bf
   ·
    have e1 : decide (x.1 ≤ bf) = true := decide_eq_true k1
    have hV : V = false := by rw [← HVL.out]; unfold okC; rw [e1]; rfl
    subst hV
    go_wp2_with fail
    go_ret
    exact ⟨rfl, gT HG.out HGU.out⟩
   ·
    have e1 : decide (x.1 ≤ bf) = false := decide_eq_false k1
    by_cases k2 : x.2 < 0
    ·
     have e2 : decide (x.2 < 0) = true := decide_eq_true k2
     have hV : V = false := by rw [← HVL.out]; unfold okC; rw [e1, e2]; rfl
     subst hV
     go_wp2_with fail
     go_ret
     exact ⟨rfl, gT HG.out HGU.out⟩
    ·
     have e2 : decide (x.2 < 0) = false := decide_eq_false k2
     by_cases k3 : x.2 = 1
     ·
      have e3 : (x.2 == 1) = true := by rw [k3]; rfl
      have hV : V = false := by rw [← HVL.out]; unfold okC; rw [e1, e2, e3]; rfl
      subst hV
      go_wp2_with fail
      go_ret
      exact ⟨rfl, gT HG.out HGU.out⟩
     ·
      have e3 : (x.2 == 1) = false := by simpa using k3
      by_cases k4 : 2 * (ng : Int) ≤ x.2
      ·
       have e4 : decide (2 * (ng : Int) ≤ x.2) = true := decide_eq_true k4
       have hV : V = false := by rw [← HVL.out]; unfold okC; rw [e1, e2, e3, e4]; rfl
       subst hV
       go_wp2_with fail
       go_ret
       exact ⟨rfl, gT HG.out HGU.out⟩
      ·
       have e4 : decide (2 * (ng : Int) ≤ x.2) = false := decide_eq_false k4
       have HNX := hid (show (validGo ng x.1 (m.drop (k + 1)) && (decide (1 ≤ ar) && decide (ar ≤ 3))) = V from by rw [← HVL.out]; unfold okC; rw [e1, e2, e3, e4]; rfl)
       go_wp2_with fail
       go_roundg (n - (k + 1))
       case measure => rw [HI.out.1]; omega
       case rel => exact ⟨k + 1, x.1, rfl, rfl, rfl, by omega, HGU.out, HNX.out⟩
  ·
   have f1 : decide (k < n) = false := decide_eq_false hkn
   have f2 : decide ((k : Int) < (n : Int)) = false := decide_eq_false (by omega)
   have hval := HI.out.2.2
   rw [List.drop_of_length_le (by rw [HN.out]; omega)] at hval
   have hV : (decide (1 ≤ ar) && decide (ar ≤ 3)) = V := by rw [← hval]; rfl
   have y0 := HI.out.2.1.cell HC.out.2 (by simp)
   by_cases k1 : 1 ≤ ar
   ·
    have e1 : decide (1 ≤ ar) = true := decide_eq_true k1
    rw [e1] at hV
    go_wp2_with fail
    go_ret
    exact ⟨(by first | rfl | (rw [← hV]; rfl)), gT HG.out HI.out.2.1⟩
   ·
    have e1 : decide (1 ≤ ar) = false := decide_eq_false k1
    rw [e1] at hV
    go_wp2_with fail
    go_ret
    exact ⟨(by first | rfl | (rw [← hV]; rfl)), gT HG.out HI.out.2.1⟩
set_option maxRecDepth 100000

def wfK (k : Int) : Prop := (Lit.int .i64 k).wf = true
theorem keyed3 : Keyed Try.prog 3 := int_keyed Try.underlying3
def MapT (w : World) (b n : Nat) (T : Int → Bool) (t : Int → Int) : Prop :=
 ∃ D : DataW Unit, w.ownsMap Try.prog 3 (plainElem Try.prog 3) b n D ∧ ∀ k : Int, wfK k → Maps.has D (.int .i64 k) = T k ∧ (T k = true → ∀ z, D.atKey (.int .i64 k) z = .lit (.int .i64 (t k)))
theorem MapT.made (w : World) (t : Int → Int) : MapT (w.alloc (.map #[] 0)) w.heap.size 0 (fun _ => false) t :=
 ⟨.map [], World.ownsMap_made w _ _ _, fun k _ => ⟨by simp [Maps.has], fun h => by cases h⟩⟩
theorem MapT.kept {w w' : World} {b n : Nat} {T : Int → Bool} {t : Int → Int} {r : Option Nat} (h : MapT w b n T t) (hg : w.grownBy w' r) (hr : some b ≠ r) : MapT w' b n T t := by
 obtain ⟨D, hD, hk⟩ := h
 exact ⟨D, hD.kept hg hr, hk⟩
theorem MapT.lt {w : World} {b n : Nat} {T : Int → Bool} {t : Int → Int} (h : MapT w b n T t) : b < w.heap.size := by
 obtain ⟨D, ⟨es, clock, hb, _⟩, _⟩ := h
 exact (Array.getElem?_eq_some_iff.1 hb).1
theorem MapT.not_cells {w : World} {b n : Nat} {T : Int → Bool} {t : Int → Int} (h : MapT w b n T t) {o : Nat} {v : Value} : w.cell? ⟨b, o, none⟩ ≠ some v := fun hv => by
 obtain ⟨D, ⟨es, clock, hb, _⟩, _⟩ := h
 unfold World.cell? at hv
 rw [hb] at hv
 cases hv
theorem MapT.look {w : World} {b n : Nat} {T : Int → Bool} {t : Int → Int} (h : MapT w b n T t) {k : Int} (hk : wfK k) : ∃ c : Int, (Instr.lookup 102 (.map (some b)) (.int .i64 k) true).run Try.prog w = .ok (.tuple #[.int .i64 c, .bool (T k)]) w ∧ (T k = true → c = t k) := by
 obtain ⟨D, hD, ha⟩ := h
 obtain ⟨v, ps, hr, hv⟩ := hD.look_ok keyed3 Try.underlying102 (zero3 w) (plainElem_int Try.underlying3 (by decide)) (keyOf_int_mk Try.underlying3 hk)
 obtain ⟨c, rfl, hc, _⟩ := plainElem_int_inv Try.underlying3 hv
 refine ⟨c, by rw [hr, (ha k hk).1], fun hT => ?_⟩
 have h1 := (ha k hk).2 hT (.lit (.int .i64 0))
 have h2 := congrArg Prod.fst hc
 simp only at h2
 rw [h1] at h2
 injection h2 with h2
 injection h2 with _ h2
 exact h2.symm
theorem MapT.store {w : World} {b n : Nat} {T : Int → Bool} {t : Int → Int} (h : MapT w b n T t) (hl : n ≤ 1000000) {k v : Int} (hk : wfK k) (hv : wfK v) :
  ∃ w', (Instr.mapUpdate 102 (.map (some b)) (.int .i64 k) (.int .i64 v)).run Try.prog w = .ok () w' ∧ MapT w' b (n + 1) (fun j => j == k || T j) (fun j => if j = k then v else t j) ∧ w.grownBy w' (some b) := by
 obtain ⟨D, hD, ha⟩ := h
 have hkl := keyOf_int_mk Try.underlying3 hk
 obtain ⟨w', hr, ho, ht⟩ := hD.store keyed3 Try.underlying102 (by unfold maxLen; omega) hkl (plainElem_int Try.underlying3 hv)
 refine ⟨w', hr, ⟨_, ho, fun j hj => ?_⟩, ht.grown⟩
 by_cases e : j = k
 ·
  subst e
  refine ⟨by rw [Maps.has_put_same hD.isMap (keyed3.key hkl)]; simp, fun _ z => ?_⟩
  rw [Maps.atKey_put_same hD.isMap (keyed3.key hkl)]
  show _ = DataW.lit (.int .i64 (if j = j then v else t j))
  rw [if_pos rfl]
 ·
  have hne : (Lit.int .i64 j) ≠ (Lit.int .i64 k) := fun hh => e (by injection hh)
  have h1 := ha j hj
  refine ⟨by rw [Maps.has_put_other hne, h1.1]; simp [e], fun hT z => ?_⟩
  have hT' : T j = true := by simpa [e] using hT
  rw [Maps.atKey_put_other hne]
  show _ = DataW.lit (.int .i64 (if j = k then v else t j))
  rw [if_neg e]
  exact h1.2 hT' z
structure JSt (W0 : World) (p q s b : Nat) (g : List Gt) (n : Nat) (T : Int → Bool) (t : Int → Int) (W : World) : Prop where
 gx : ∃ hi, GX p (OwnC p W) W g hi
 s0 : W.cell? ⟨s, 0, none⟩ = some (.pointer (some ⟨q, 0, none⟩))
 q0 : W.cell? ⟨q, 0, none⟩ = some (.pointer (some ⟨p, 0, none⟩))
 mp : MapT W b n T t
 grown : W0.grownBy W none
 low : W0.heap.size ≤ p ∧ p < b
 nb : ¬ OwnC p W b
 nq : ¬ OwnC p W q ∧ ¬ OwnC p W s
def SafeJ (p b : Nat) (W : World) (k : Nat) : Prop := k < W.heap.size ∧ ¬ OwnC p W k ∧ k ≠ b
theorem Saved.cellJ {p b : Nat} {A B : World} (h : Saved (SafeJ p b) A B) {a : Addr} {v : Value} (hs : SafeJ p b A a.block) (hc : A.cell? a = some v) : B.cell? a = some v := (World.cell?_of_block (h _ hs).1).trans hc
theorem JSt.safe_s {W0 W : World} {p q s b : Nat} {g : List Gt} {n : Nat} {T : Int → Bool} {t : Int → Int} (h : JSt W0 p q s b g n T t W) : SafeJ p b W s := ⟨lies_lt h.s0, h.nq.2, fun e => by subst e; exact h.mp.not_cells h.s0⟩
theorem JSt.safe_q {W0 W : World} {p q s b : Nat} {g : List Gt} {n : Nat} {T : Int → Bool} {t : Int → Int} (h : JSt W0 p q s b g n T t W) : SafeJ p b W q := ⟨lies_lt h.q0, h.nq.1, fun e => by subst e; exact h.mp.not_cells h.q0⟩
theorem JSt.step {W0 W W' : World} {p q s b : Nat} {g g' : List Gt} {n : Nat} {T : Int → Bool} {t : Int → Int} (h : JSt W0 p q s b g n T t W) {hi : Int} (hx : GX p (fun k => OwnC p W k ∨ W.heap.size ≤ k) W' g' hi) (ho : Off (OwnC p W) W W') : JSt W0 p q s b g' n T t W' ∧ Saved (SafeJ p b) W W' := by
 have hoc : ∀ k, OwnC p W' k → OwnC p W k ∨ W.heap.size ≤ k := fun k hk => hx.own_in hk
 have hq : q < W.heap.size := lies_lt h.q0
 have hs : s < W.heap.size := lies_lt h.s0
 have hb := h.mp.lt
 obtain ⟨hi0, hg0⟩ := h.gx
 have hmp : MapT W' b n T t := by
  obtain ⟨D, hD, hk⟩ := h.mp
  obtain ⟨es, clock, hbb, hrest⟩ := hD
  exact ⟨D, ⟨es, clock, (ho.block b hb h.nb).trans hbb, hrest⟩, hk⟩
 refine ⟨⟨⟨hi, hx.own⟩, ho.cell h.s0 h.nq.2, ho.cell h.q0 h.nq.1, hmp, ?_, h.low, fun e => ?_, fun e => ?_, fun e => ?_⟩, fun k hk => ⟨ho.at_ hk.1 hk.2.1, Nat.lt_of_lt_of_le hk.1 ho.size, fun e => ?_, hk.2.2⟩⟩
 · exact ho.grown h.grown (fun k hk => Nat.le_trans h.low.1 (hg0.own_lt hk).1)
 ·
  rcases hoc b e with h1 | h1
  · exact h.nb h1
  · omega
 ·
  rcases hoc q e with h1 | h1
  · exact h.nq.1 h1
  · omega
 ·
  rcases hoc s e with h1 | h1
  · exact h.nq.2 h1
  · omega
 ·
  rcases hoc k e with h1 | h1
  · exact hk.2.1 h1
  · have := hk.1; omega
theorem JSt.put {W0 W W' : World} {p q s b : Nat} {g : List Gt} {n n' : Nat} {T T' : Int → Bool} {t t' : Int → Int} (h : JSt W0 p q s b g n T t W) (hm : MapT W' b n' T' t') (hg : W.grownBy W' (some b)) : JSt W0 p q s b g n' T' t' W' ∧ Saved (SafeJ p b) W W' := by
 obtain ⟨hi, hx⟩ := h.gx
 have ho : Off (fun k => k = b) W W' := Off.of hg (fun k e => by cases e; rfl)
 have hgx : GX p (OwnC p W) W' g hi := hx.far hg (fun k e => by cases e; exact ⟨Nat.le_of_lt h.low.2, h.nb⟩)
 have hoc : ∀ k, OwnC p W' k → OwnC p W k := fun k hk => hgx.own_in hk
 have hs := h.safe_s
 have hq := h.safe_q
 exact ⟨⟨⟨hi, hgx.own⟩, ho.cell h.s0 hs.2.2, ho.cell h.q0 hq.2.2, hm, ho.grown h.grown (fun k e => by have e' : k = b := e; have := h.low; omega), h.low, fun e => h.nb (hoc b e), fun e => h.nq.1 (hoc q e), fun e => h.nq.2 (hoc s e)⟩, fun k hk => ⟨ho.at_ hk.1 hk.2.2, Nat.lt_of_lt_of_le hk.1 ho.size, fun e => hk.2.1 (hoc k e), hk.2.2⟩⟩
theorem JSt.laid {W0 W W' : World} {p q s b : Nat} {g : List Gt} {n : Nat} {T : Int → Bool} {t : Int → Int} (h : JSt W0 p q s b g n T t W) (hg : W.grownBy W' none) : JSt W0 p q s b g n T t W' ∧ Saved (SafeJ p b) W W' ∧ ∀ k, W.heap.size ≤ k → k < W'.heap.size → SafeJ p b W' k := by
 obtain ⟨hi, hx⟩ := h.gx
 have hgx := hx.grown hg
 have hoc : ∀ k, OwnC p W' k → OwnC p W k := fun k hk => hgx.own_in hk
 have hb := h.mp.lt
 refine ⟨⟨⟨hi, hgx.own⟩, hg.cell h.s0 (by simp), hg.cell h.q0 (by simp), h.mp.kept hg (by simp), gT h.grown hg, h.low, fun e => h.nb (hoc b e), fun e => h.nq.1 (hoc q e), fun e => h.nq.2 (hoc s e)⟩, fun k hk => ⟨hg.block k hk.1 (by simp), Nat.lt_of_lt_of_le hk.1 hg.size, fun e => hk.2.1 (hoc k e), hk.2.2⟩, fun k h1 h2 => ⟨h2, fun e => ?_, fun e => by omega⟩⟩
 have := (hx.own_lt (hoc k e)).2
 omega
end Go.Proofs.Ythdhmflodiincaa
namespace Go.Proofs.Ythdhmflodiincaa
open Lib (hid)

def ofTabL (t : Int → Int) (L : List Int) : List Cl := (L.filter fun k => t k != 1).map fun k => (k, t k)
theorem run_ofTab_from (t : Int → Int) (g : List Gt) : ∀ (L : List Int) (s : List Cl), (foldP (fun m k => (Pr.ret (t k)).bind fun r => .ret (keptM m k r)) L s).run g = (g, s ++ ofTabL t L)
 | [], s => by simp [ofTabL, run_foldP_nil]
 | k :: L, s => by
  rw [run_foldP_cons]
  show (foldP _ L (keptM s k (t k))).run g = _
  rw [run_ofTab_from t g L]
  unfold keptM ofTabL
  by_cases h : t k = 1
  · rw [if_pos h, List.filter_cons_of_neg (by simp [h])]
  ·
   rw [if_neg h, List.filter_cons_of_pos (by simp [h]), List.map_cons, List.append_assoc]
   rfl
theorem run_ofTab (t : Int → Int) (L : List Int) (g : List Gt) : (ofTab t L).run g = (g, ofTabL t L) := by
 have h := run_ofTab_from t g L []
 rw [List.nil_append] at h
 exact h
theorem tab_ext {m : List Cl} {t : Int → Int} {L : List Int} (hm : UpM m) (hL : L.Pairwise (· < ·)) (h : ∀ k r, (k, r) ∈ m ↔ r = t k ∧ r ≠ 1) (hr : ∀ k, t k ≠ 1 → k ∈ L) : m = ofTabL t L := by
 have h1 : m.map (·.1) = L.filter fun k => t k != 1 := by
  refine sorted_ext hm (hL.sublist List.filter_sublist) (fun k => ?_)
  rw [List.mem_map, List.mem_filter]
  constructor
  ·
   rintro ⟨⟨k', r⟩, hc, rfl⟩
   obtain ⟨e1, e2⟩ := (h k' r).1 hc
   have e3 : t k' ≠ 1 := by rw [← e1]; exact e2
   exact ⟨hr _ e3, by simpa using e3⟩
  ·
   rintro ⟨_, h2⟩
   have h3 : t k ≠ 1 := by simpa using h2
   exact ⟨(k, t k), (h k (t k)).2 ⟨rfl, h3⟩, rfl⟩
 unfold ofTabL
 rw [← h1, List.map_map]
 conv => lhs; rw [← List.map_id m]
 refine List.map_congr_left fun c hc => ?_
 obtain ⟨k, r⟩ := c
 have h2 := ((h k r).1 hc).1
 show (k, r) = (k, t k)
 rw [h2]
def jRow (n rest : Int) (x : Cl) (b : List Cl) : List (Cl × Cl) := (b.map fun y => (x, y)).filter fun p => p.1.1 % n == p.2.1 / rest
theorem jPairs_cons (n rest : Int) (x : Cl) (a b : List Cl) : jPairs n rest (x :: a) b = jRow n rest x b ++ jPairs n rest a b := by
 unfold jPairs allPairs jRow
 rw [List.flatMap_cons, List.filter_append]
theorem jRow_yes {n rest : Int} {x y : Cl} {b : List Cl} (h : x.1 % n = y.1 / rest) : jRow n rest x (y :: b) = (x, y) :: jRow n rest x b := by
 unfold jRow
 rw [List.map_cons, List.filter_cons_of_pos (by simp [h])]
theorem jRow_no {n rest : Int} {x y : Cl} {b : List Cl} (h : ¬ x.1 % n = y.1 / rest) : jRow n rest x (y :: b) = jRow n rest x b := by
 unfold jRow
 rw [List.map_cons, List.filter_cons_of_neg (by simp [h])]
theorem jPairs_nil (n rest : Int) (b : List Cl) : jPairs n rest [] b = [] := rfl
theorem jRow_nil (n rest : Int) (x : Cl) : jRow n rest x [] = [] := rfl
theorem run_jF (n rest : Int) (s : Int → Int) (p : Cl × Cl) (g : List Gt) : (jF n rest s p).run g = ((orC (andC g p.1.2 p.2.2).1 (s (jr n rest p)) (andC g p.1.2 p.2.2).2).1, fun k => if k = jr n rest p then (orC (andC g p.1.2 p.2.2).1 (s (jr n rest p)) (andC g p.1.2 p.2.2).2).2 else s k) := by
 unfold jF
 rw [Pr.run_bind, run_andP, Pr.run_bind, run_orP]
 rfl
theorem jF_only {n rest : Int} : ∀ (l : List (Cl × Cl)) (s : Int → Int) (g : List Gt) (k : Int), ((foldP (jF n rest) l s).run g).2 k ≠ s k → ∃ p ∈ l, jr n rest p = k
 | [], s, g, k, h => absurd rfl h
 | p :: l, s, g, k, h => by
  rw [run_foldP_cons, run_jF] at h
  by_cases hk : k = jr n rest p
  · exact ⟨p, by simp, hk.symm⟩
  ·
   have h2 := jF_only l _ _ k (by
    intro e
    apply h
    rw [e]
    show (if k = jr n rest p then _ else s k) = s k
    rw [if_neg hk])
   obtain ⟨q, hq, e⟩ := h2
   exact ⟨q, List.mem_cons_of_mem _ hq, e⟩
theorem run_mjoin {n rest : Int} {total : Nat} {a b : List Cl} {gs g : List Gt} {t : Int → Int} (h : (foldP (jF n rest) (jPairs n rest a b) fun _ => 1).run gs = (g, t)) : (mjoinP n rest total a b).run gs = (g, ofTabL t (ranksTo total)) := by
 unfold mjoinP
 rw [Pr.run_bind, h, run_ofTab]
theorem table_in {n rest : Int} {total : Nat} {a b : List Cl} {gs g : List Gt} {t : Int → Int} (h : (foldP (jF n rest) (jPairs n rest a b) fun _ => 1).run gs = (g, t)) (hj : ∀ p ∈ jPairs n rest a b, 0 ≤ jr n rest p ∧ jr n rest p < (total : Int)) (k : Int) (hk : t k ≠ 1) : k ∈ ranksTo total := by
 obtain ⟨p, hp, rfl⟩ := jF_only (jPairs n rest a b) (fun _ => 1) gs k (by rw [h]; exact hk)
 exact mem_ranksTo.2 (hj p hp)
end Go.Proofs.Ythdhmflodiincaa

/- Texts of the proof: QX E3. -/
import Derived.Test.YthdhmflodiincaaCA00
import Derived.Test.YthdhmflodiincaaCA11
import Derived.Deep.DeepCutAuto
import Derived.Test.YthdhmflodiincaaCA02
import Derived.Test.YthdhmflodiincaaCA04
namespace Go.Proofs.Ythdhmflodiincaa
set_option maxRecDepth 100000
open Go.RowKit Go.Maps

/-- Three boxes: a circuit, a matrix, and the circuit that will be handed back. -/
def w3 (w : World) (x0 a0 a1 : Value) : World := ((w.alloc (.cells #[x0] 30)).alloc (.cells #[a0, a1] 26)).alloc (.cells #[.slice none 0 0] 30)
structure B3 (w W : World) (x0 a0 a1 : Value) : Prop where
  g : w.grownBy W none
  sz : W.heap.size = w.heap.size + 3
  c : W.cell? ⟨w.heap.size, 0, none⟩ = some x0
  a0 : W.cell? ⟨w.heap.size + 1, 0, none⟩ = some a0
  a1 : W.cell? ⟨w.heap.size + 1, 1, none⟩ = some a1
  r : W.cell? ⟨w.heap.size + 2, 0, none⟩ = some (.slice none 0 0)
  rf : W.frozen? ⟨w.heap.size + 2, 0, none⟩ = false
theorem b3 (w : World) (x0 a0 a1 : Value) : B3 w (w3 w x0 a0 a1) x0 a0 a1 := by
  unfold w3
  exact ⟨((World.grownBy_alloc w _ none).trans (World.grownBy_alloc _ _ none)).trans (World.grownBy_alloc _ _ none), by simp, by go_simp, by go_simp, by go_simp, by go_simp, by go_simp⟩
theorem resM30 (tmps : Array Value) (w : World) (b : Nat) (a : Option Addr) (n d : Nat) (x : Value) (ht : tmps.getD 4 undef = .pointer (some ⟨b, 0, none⟩)) (hu : tmps.getD 5 undef = x) (h0 : w.cell? ⟨b, 0, none⟩ = some (.slice a n d)) :
    (results Try.f30 tmps).run Try.prog w = .ok (.tuple #[.agg #[.slice a n d], x]) w := by
  have ht' : tmps[4]?.getD undef = .pointer (some ⟨b, 0, none⟩) := by simpa using ht
  have hu' : tmps[5]?.getD undef = x := by simpa using hu
  simp [results, ht', hu', go_sem, h0, Result.andThen]
set_option maxHeartbeats 4000000 in
theorem msome_calls (gs : List Gt) (m : List Cl) (ar : Int) (gF : List Gt) (rF : Int) (xa : Option Addr) (xc : Nat) (aa : Option Addr) (na ca : Nat) (w : World)
    (eF : (foldP orF (m.map (·.2)) 1).run gs = (gF, rF)) (h : GatesW w xa xc gs) (hma : CellsW w aa ca m) (hna : m.length = na) (hG : Good gs) (ho : ∀ x ∈ m, Ok gs x.2) (hl : gs.length + na ≤ 880) (hla : na ≤ 200) :
    Calls Try.prog 30 #[.agg #[.slice xa gs.length xc], .agg #[.int .i64 ar, .slice aa na ca]] w (Ans w gF rF) := by
  obtain ⟨ng, hng⟩ : ∃ n, gs.length = n := ⟨_, rfl⟩
  have hb3 := b3 w (.slice xa ng xc) (.int .i64 ar) (.slice aa na ca)
  obtain ⟨W3, hW3⟩ : ∃ z, w3 w (.slice xa ng xc) (.int .i64 ar) (.slice aa na ca) = z := ⟨_, rfl⟩
  rw [hW3] at hb3
  unfold w3 at hW3
  rw [hng] at hl ⊢
  have HB := Lib.hid hb3
  have HN := Lib.hid (And.intro hng hna)
  have HL := Lib.hid (And.intro hl hla)
  have HE := Lib.hid eF
  have HGM := Lib.hid (And.intro hG ho)
  have HNB := Lib.hid (fun (U : World) (hU : W3.grownBy U none) => newb_calls gs xa xc U (h.grown (World.grownBy.trans hb3.g hU)))
  rw [hng] at HNB
  have HRF := Lib.hid (fun (U : World) (hU : w.grownBy U none) => references_new m ar aa ca U (hma.grown hU) (by rw [hna]; omega))
  rw [hna] at HRF
  have hmf : ∀ (fn : Fn) (first cap : Array Value) (w : World), (Instr.makeFunc fn first cap).run Try.prog w = .ok (.func fn first cap) w := fun _ _ _ _ => rfl
  have z0 := HB.out.c
  clear hb3 hng eF h hma hna hG ho hl hla
  go_enter Try.func30, Try.ntmps30
  go_wp2_with fail
  clear hW3 z0
  refine (HNB.out W3 (grown_refl _ _)).mono ?_
  rintro e V ⟨q, p, rfl, hp, hq, hpq, hq0, hgx, hg1⟩
  have HQ0 := Lib.hid hq0
  have HGX := Lib.hid hgx
  have HG1 := Lib.hid hg1
  have HWB := Lib.hid (show W3.heap.size = w.heap.size + 3 ∧ w.heap.size + 3 ≤ p ∧ w.heap.size + 3 ≤ q ∧ p ≠ q ∧ p < V.heap.size ∧ q < V.heap.size from by have h1 := HB.out.sz; have h2 := hgx.p_lt; have h3 : q < V.heap.size := lies_lt hq0; omega)
  have HA := Lib.hid (And.intro (hg1.cell HB.out.a0 (by simp)) (hg1.cell HB.out.a1 (by simp)))
  clear hp hq hpq hgx hg1
  have y0 := HA.out.1
  have y1 := HA.out.2
  have HGD := Lib.hid (show w.grownBy V.drew none from World.grownBy.trans (World.grownBy.trans HB.out.g HG1.out) ⟨rfl, rfl, rfl, Nat.le_refl _, fun _ _ _ => rfl⟩)
  have HLF := Lib.hid (show gF.length ≤ 1000 from by
    have h1 := (most_foldP (f := orF) (c := 1) (fun s x => most_orP s x) (m.map (·.2)) 1)
    have h2 := Pr.len _ gs h1
    rw [HE.out, List.length_map] at h2
    have h3 := HL.out
    have h4 := HN.out
    simp only at h2
    omega)
  go_wp2_with fail
  clear y0 y1 hq0
  refine wp_onlyN ?_
  have HS := Lib.hid (fun (Wh : World) (hWh : Off (fun k => k = p) V Wh) => (⟨hWh, hWh.cell HQ0.out (fun e => by have e' : q = p := e; have := HWB.out; omega), hWh.cell HA.out.1 (fun e => by have e' : w.heap.size + 1 = p := e; have := HWB.out; omega), hWh.cell HA.out.2 (fun e => by have e' : w.heap.size + 1 = p := e; have := HWB.out; omega)⟩ : (fun Wh : World => Off (fun k => k = p) V Wh ∧ Wh.cell? ⟨q, 0, none⟩ = some (.pointer (some ⟨p, 0, none⟩)) ∧ Wh.cell? ⟨w.heap.size + 1, 0, none⟩ = some (.int .i64 ar) ∧ Wh.cell? ⟨w.heap.size + 1, 1, none⟩ = some (.slice aa na ca)) Wh))
  have hdr : Off (fun k => k = p) V V.drew := Off.of (show V.grownBy V.drew none from ⟨rfl, rfl, rfl, Nat.le_refl _, fun _ _ _ => rfl⟩) (fun k e => by cases e)
  refine wp_region_held_drew (S := (fun Wh : World => Off (fun k => k = p) V Wh ∧ Wh.cell? ⟨q, 0, none⟩ = some (.pointer (some ⟨p, 0, none⟩)) ∧ Wh.cell? ⟨w.heap.size + 1, 0, none⟩ = some (.int .i64 ar) ∧ Wh.cell? ⟨w.heap.size + 1, 1, none⟩ = some (.slice aa na ca))) (by kernel_rfl) (HS.out _ hdr) (fun hHeld => ?_)
  refine tk 0 ({ dst := some 10, op := Op.move (Operand.tmp 6), type := 77, pos := "matrix.go:194", after := #[], guard := none }) ?_ rfl (by kernel_rfl) (fun _ _ _ h => h) (by rfl) ?_ hHeld ?_
  rotate_left 1
  · (intro W hSW; (try dsimp only at hSW); first | (go_simp; done) | (go_simp; with_reducible rfl))
  try simp only [Act.put, List.setIfInBounds_toArray, List.set_cons_zero, List.set_cons_succ]
  refine tk 1 ({ dst := some 11, op := Op.nilCheck (Operand.tmp 10), type := 0, pos := "matrix.go:194", after := #[{ on := 0, ground := Ground.data }], guard := none }) ?_ rfl (by kernel_rfl) (fun _ _ _ h => h) (by rfl) ?_ hHeld ?_
  rotate_left 1
  · (intro W hSW; (try dsimp only at hSW); first | (go_simp; done) | (go_simp; with_reducible rfl))
  try simp only [Act.put, List.setIfInBounds_toArray, List.set_cons_zero, List.set_cons_succ]
  refine tk 2 ({ dst := some 12, op := Op.fieldAddr 88 (Operand.tmp 11) 0, type := 0, pos := "matrix.go:194", after := #[{ on := 1, ground := Ground.data }], guard := none }) ?_ rfl (by kernel_rfl) (fun _ _ _ h => h) (by rfl) ?_ hHeld ?_
  rotate_left 1
  · (intro W hSW; (try dsimp only at hSW); first | (go_simp; done) | (go_simp; with_reducible rfl))
  try simp only [Act.put, List.setIfInBounds_toArray, List.set_cons_zero, List.set_cons_succ]
  refine tk 3 ({ dst := some 13, op := Op.load 86 (Operand.tmp 12), type := 86, pos := "matrix.go:194", after := #[{ on := 2, ground := Ground.data }], guard := none }) ?_ rfl (by kernel_rfl) (fun _ _ _ h => h) (by rfl) ?_ hHeld ?_
  rotate_left 1
  · (intro W hSW; (try dsimp only at hSW); first | (go_simp; done) | (go_simp; with_reducible rfl))
  try simp only [Act.put, List.setIfInBounds_toArray, List.set_cons_zero, List.set_cons_succ]
  refine tk 4 ({ dst := some 14, op := Op.makeFunc (Fn.func 75) #[Operand.tmp 13] #[], type := 85, pos := "matrix.go:194", after := #[{ on := 3, ground := Ground.data }], guard := none }) ?_ rfl (by kernel_rfl) (fun _ _ _ h => h) (by rfl) ?_ hHeld ?_
  rotate_left 1
  · (intro W hSW; (try dsimp only at hSW); first | (go_simp; done) | (go_simp; with_reducible rfl))
  try simp only [Act.put, List.setIfInBounds_toArray, List.set_cons_zero, List.set_cons_succ]
  refine tk 5 ({ dst := some 15, op := Op.load 26 (Operand.tmp 3), type := 26, pos := "matrix.go:194", after := #[], guard := none }) ?_ rfl (by kernel_rfl) (fun _ _ _ h => h) (by rfl) ?_ hHeld ?_
  rotate_left 1
  · (intro W hSW; (try dsimp only at hSW); first | (go_simp; done) | (go_simp; with_reducible rfl))
  try simp only [Act.put, List.setIfInBounds_toArray, List.set_cons_zero, List.set_cons_succ]
  refine wpAnyH_ready (rs := [6]) (by kernel_rfl) (by simp) ?_
  refine (AllReadyH.cons (o := { dst := some 16, op := Op.call { callee := Callee.value (Operand.func 89), args := #[Operand.tmp 15], argTypes := #[26] }, type := 31, pos := "matrix.go:194", after := #[{ on := 5, ground := Ground.data }], guard := none }) rfl (fun K hK => ?_) AllReadyH.nil)
  rw [if_pos (by rfl)]
  go_simp
  go_at_call 89
  refine (HRF.out (World.drew V) HGD.out).mono ?_
  rintro e wR ⟨rb, rd, rfl, hir, hgr⟩
  have hvR := Off.trans (N := fun k => k = p) hdr (Off.of hgr (fun k e => by cases e)) (fun _ _ e => e)
  go_wp2_with fail
  refine hK.out _ _ (HS.out _ hvR) (fun hHeld => ?_)
  clear hK K
  try simp only [Act.put, List.setIfInBounds_toArray, List.set_cons_zero, List.set_cons_succ]
  refine wpAnyH_ready (rs := [7]) (by kernel_rfl) (by simp) ?_
  refine (AllReadyH.cons (o := { dst := some 17, op := Op.call { callee := Callee.value (Operand.func 87), args := #[Operand.tmp 14, Operand.const (Value.int IntKind.i64 1), Operand.tmp 16], argTypes := #[85, 3, 31] }, type := 3, pos := "matrix.go:194", after := #[{ on := 4, ground := Ground.data }, { on := 6, ground := Ground.data }, { on := 6, ground := Ground.chain }], guard := none }) rfl (fun K hK => ?_) AllReadyH.nil)
  rw [if_pos (by rfl)]
  go_simp
  go_at_call 87
  refine (foldor_calls gs (m.map (·.2)) 1 gF rF na (by rw [List.length_map, HN.out.2]) HE.out p (fun k => k = p) wR 0 ((HGX.out.grown (⟨rfl, rfl, rfl, Nat.le_refl _, fun _ _ _ => rfl⟩ : V.grownBy V.drew none)).grown hgr) rb rd (hir (fun k => k = p) (fun k e => by have e' : k = p := e; have := HWB.out; show k < V.heap.size; omega)) HGM.out.1 (fun x hx => by obtain ⟨c, hc, rfl⟩ := List.mem_map.1 hx; exact HGM.out.2 c hc) (one_ok HGM.out.1).1 (by have := HL.out; have := HN.out; omega)).mono ?_
  rintro e wF ⟨rfl, hi, hgF, hoF⟩
  have hvF := hvR.trans hoF (fun _ _ e => e)
  go_wp2_with fail
  refine hK.out _ _ (HS.out _ hvF) (fun hHeld => ?_)
  clear hK K
  try simp only [Act.put, List.setIfInBounds_toArray, List.set_cons_zero, List.set_cons_succ]
  refine tk 8 ({ dst := some 7, op := Op.assign (Operand.tmp 17), type := 3, pos := "matrix.go:194", after := #[{ on := 7, ground := Ground.data }, { on := 7, ground := Ground.chain }, { on := 0, ground := Ground.phase }, { on := 1, ground := Ground.phase }, { on := 2, ground := Ground.phase }, { on := 3, ground := Ground.phase }, { on := 4, ground := Ground.phase }, { on := 5, ground := Ground.phase }, { on := 6, ground := Ground.phase }, { on := 7, ground := Ground.phase }], guard := none }) ?_ rfl (by kernel_rfl) (fun _ _ _ h => h) (by rfl) ?_ hHeld ?_
  rotate_left 1
  · (intro W hSW; (try dsimp only at hSW); first | (go_simp; done) | (go_simp; with_reducible rfl))
  try simp only [Act.put, List.setIfInBounds_toArray, List.set_cons_zero, List.set_cons_succ]
  refine wpAnyH_done (by kernel_rfl) ?_ _
  have hEND := hvF
  clear hHeld
  simp only [onlyN]
  have HOF := Lib.hid hvF
  have HGF := Lib.hid hgF
  clear hvF hgF hoF hvR hir hgr hEND hdr HS
  clear hmf
  have q0 := HOF.out.cell HQ0.out (fun e => by have e' : q = p := e; have := HWB.out; omega)
  go_wp2_with fail
  clear q0
  refine (gcircuit_off gF p _ wF _ HGF.out (by have := HLF.out; omega)).mono ?_
  rintro e wM ⟨ca1, cc1, rfl, hsp, hof⟩
  have HOM := Lib.hid (HOF.out.trans hof (fun _ _ e => e))
  have HSP := Lib.hid hsp
  have hrc : Rc wM (w.heap.size + 2) 0 (.slice none 0 0) := Rc.step (M := fun k => k = p) (show Rc V (w.heap.size + 2) 0 (.slice none 0 0) from ⟨HG1.out.cell HB.out.r (by simp), (grown_frozen HG1.out (lies_lt HB.out.r) 0).trans HB.out.rf⟩) HOM.out (fun e => by have e' : w.heap.size + 2 = p := e; have := HWB.out; omega)
  have HRC := Lib.hid hrc
  clear hsp hof hrc
  have k0 := HRC.out.1
  have kf := HRC.out.2
  go_wp2_with fail
  refine bodyPost_ret (resM30 _ _ (w.heap.size + 2) ca1 gF.length cc1 _ rfl rfl (HRC.out.set (.slice ca1 gF.length cc1)).1) rfl ⟨ca1, cc1, rfl, (HSP.out.away (off_set wM (w.heap.size + 2) 0 (.slice ca1 gF.length cc1)) (fun k e => by have e' : k = w.heap.size + 2 := e; have := HWB.out; omega)).here, ?_⟩
  exact grown_own (HOM.out.grown (World.grownBy.trans HB.out.g HG1.out) (fun k e => by have e' : k = p := e; have := HWB.out; omega)) (grown_set wM (w.heap.size + 2) 0 (.slice ca1 gF.length cc1)) (fun x e => by cases e; exact Nat.le_add_right _ _)
theorem resM32 (tmps : Array Value) (w : World) (b : Nat) (a : Option Addr) (n d : Nat) (x : Value) (ht : tmps.getD 4 undef = .pointer (some ⟨b, 0, none⟩)) (hu : tmps.getD 5 undef = x) (h0 : w.cell? ⟨b, 0, none⟩ = some (.slice a n d)) :
    (results Try.f32 tmps).run Try.prog w = .ok (.tuple #[.agg #[.slice a n d], x]) w := by
  have ht' : tmps[4]?.getD undef = .pointer (some ⟨b, 0, none⟩) := by simpa using ht
  have hu' : tmps[5]?.getD undef = x := by simpa using hu
  simp [results, ht', hu', go_sem, h0, Result.andThen]
set_option maxHeartbeats 4000000 in
theorem mlone_calls (gs : List Gt) (m : List Cl) (ar : Int) (gF : List Gt) (rF : Int) (xa : Option Addr) (xc : Nat) (aa : Option Addr) (na ca : Nat) (w : World)
    (eF : (loneP (m.map (·.2))).run gs = (gF, rF)) (h : GatesW w xa xc gs) (hma : CellsW w aa ca m) (hna : m.length = na) (hG : Good gs) (ho : ∀ x ∈ m, Ok gs x.2) (hl : gs.length + 3 * na ≤ 880) (hla : na ≤ 200) :
    Calls Try.prog 32 #[.agg #[.slice xa gs.length xc], .agg #[.int .i64 ar, .slice aa na ca]] w (Ans w gF rF) := by
  obtain ⟨ng, hng⟩ : ∃ n, gs.length = n := ⟨_, rfl⟩
  have hb3 := b3 w (.slice xa ng xc) (.int .i64 ar) (.slice aa na ca)
  obtain ⟨W3, hW3⟩ : ∃ z, w3 w (.slice xa ng xc) (.int .i64 ar) (.slice aa na ca) = z := ⟨_, rfl⟩
  rw [hW3] at hb3
  unfold w3 at hW3
  rw [hng] at hl ⊢
  have HB := Lib.hid hb3
  have HN := Lib.hid (And.intro hng hna)
  have HL := Lib.hid (And.intro hl hla)
  have HE := Lib.hid eF
  have HGM := Lib.hid (And.intro hG ho)
  have HNB := Lib.hid (fun (U : World) (hU : W3.grownBy U none) => newb_calls gs xa xc U (h.grown (World.grownBy.trans hb3.g hU)))
  rw [hng] at HNB
  have HRF := Lib.hid (fun (U : World) (hU : w.grownBy U none) => references_new m ar aa ca U (hma.grown hU) (by rw [hna]; omega))
  rw [hna] at HRF
  have hmf : ∀ (fn : Fn) (first cap : Array Value) (w : World), (Instr.makeFunc fn first cap).run Try.prog w = .ok (.func fn first cap) w := fun _ _ _ _ => rfl
  have z0 := HB.out.c
  clear hb3 hng eF h hma hna hG ho hl hla
  go_enter Try.func32, Try.ntmps32
  go_wp2_with fail
  clear hW3 z0
  refine (HNB.out W3 (grown_refl _ _)).mono ?_
  rintro e V ⟨q, p, rfl, hp, hq, hpq, hq0, hgx, hg1⟩
  have HQ0 := Lib.hid hq0
  have HGX := Lib.hid hgx
  have HG1 := Lib.hid hg1
  have HWB := Lib.hid (show W3.heap.size = w.heap.size + 3 ∧ w.heap.size + 3 ≤ p ∧ w.heap.size + 3 ≤ q ∧ p ≠ q ∧ p < V.heap.size ∧ q < V.heap.size from by have h1 := HB.out.sz; have h2 := hgx.p_lt; have h3 : q < V.heap.size := lies_lt hq0; omega)
  have HA := Lib.hid (And.intro (hg1.cell HB.out.a0 (by simp)) (hg1.cell HB.out.a1 (by simp)))
  clear hp hq hpq hgx hg1
  have y0 := HA.out.1
  have y1 := HA.out.2
  have HGD0 := Lib.hid (show w.grownBy V none from World.grownBy.trans HB.out.g HG1.out)
  obtain ⟨l, hl⟩ : ∃ z, m.map (·.2) = z := ⟨_, rfl⟩
  have HLL := Lib.hid (show l.length = na from by rw [← hl, List.length_map, HN.out.2])
  have HLO := Lib.hid (show ∀ x ∈ l, Ok gs x from fun x hx => by rw [← hl] at hx; obtain ⟨c, hc, rfl⟩ := List.mem_map.1 hx; exact HGM.out.2 c hc)
  rw [hl] at HE HRF
  clear hl
  obtain ⟨qF, hqF⟩ : ∃ z, (foldP loneF l (1, 1)).run gs = z := ⟨_, rfl⟩
  have hsF := HE.out
  unfold loneP at hsF
  rw [Pr.run_bind, hqF] at hsF
  obtain ⟨gE, tE, sE⟩ := qF
  injection hsF with e1 e2
  have e1' : gE = gF := e1
  have e2' : notR tE = rF := e2
  subst e1' e2'
  have HEF := Lib.hid (show (foldP loneF (l.drop 0) (1, 1)).run gs = (gE, (tE, sE)) from hqF)
  have HLF := Lib.hid (show gE.length ≤ 1000 from by
    have hmm : ∀ (s : Int × Int) (x : Int), (loneF s x).most 3 := fun s x => by
      unfold loneF
      have a1 : ∀ t : Int, ((orP s.2 x).bind fun e => Pr.ret (t, e)).most (1 + 0) := fun t => Pr.most_bind (f := fun e => Pr.ret (t, e)) (n := 0) (fun _ => trivial) _ (most_orP _ _)
      have a2 : ∀ u : Int, ((orP s.1 u).bind fun t => (orP s.2 x).bind fun e => Pr.ret (t, e)).most (1 + (1 + 0)) := fun u => Pr.most_bind (n := 1 + 0) a1 _ (most_orP _ _)
      exact Pr.most_bind (n := 1 + (1 + 0)) a2 _ (most_andP _ _)
    have h1 := most_foldP hmm l (1, 1)
    have h2 := Pr.len _ gs h1
    rw [hqF] at h2
    have h3 := HL.out
    have h4 := HN.out
    have h5 := HLL.out
    simp only at h2
    omega)
  clear hqF e1 e2 HE hmf
  go_wp2_with fail
  clear y0 y1 hq0
  refine (HRF.out V HGD0.out).mono ?_
  rintro e wR ⟨rb, rd, rfl, hir, hgr⟩
  have HROW := Lib.hid (hir (fun k => k = p) (fun k e => by have e' : k = p := e; have := HWB.out; omega))
  have HVR := Lib.hid hgr
  have HWR := Lib.hid (show V.heap.size ≤ wR.heap.size from hgr.size)
  have HGX0 := Lib.hid ((HGX.out.grown hgr).wide (N := fun k => k = p ∨ wR.heap.size ≤ k) (hi' := 0) (fun k hk => .inl hk) (Int.le_refl _))
  clear hir hgr
  go_wp2_with fail
  go_loopg [7, 8, 16] na (fun gk s7 s8 s16 wr => ∃ (k : Nat) (t s : Int) (g : List Gt) (hi : Int), s7 = .int .i64 s ∧ s8 = .int .i64 t ∧ s16 = .int .i64 (k : Int) ∧ gk = na - k ∧ k ≤ na ∧ (foldP loneF (l.drop k) (t, s)).run g = (gE, (tE, sE)) ∧ Good g ∧ Ok g t ∧ Ok g s ∧ gs <+: g ∧ g.length ≤ gs.length + 3 * k ∧ GX p (fun k => k = p ∨ wR.heap.size ≤ k) wr g hi ∧ Off (fun k => k = p) wR wr)
  case atStart => exact ⟨0, 1, 1, gs, 0, rfl, rfl, rfl, rfl, Nat.zero_le _, HEF.out, HGM.out.1, (one_ok HGM.out.1).1, (one_ok HGM.out.1).1, List.prefix_refl _, Nat.le_refl _, HGX0.out, Off.refl _ _⟩
  case round =>
    obtain ⟨k, t, s, g, hi, rfl, rfl, rfl, hgk, hk, he, hg, hot, hos, hpx, hgl, hgx, hof⟩ := hrel
    have HI := Lib.hid hgk; clear hgk
    have HOF := Lib.hid hof
    have HQR := Lib.hid (hof.cell (HVR.out.cell HQ0.out (by simp)) (fun e => by have e' : q = p := e; have := HWB.out; omega))
    have HX0 := Lib.hid hgx
    by_cases hkn : k < na
    · have f1 : decide (k < na) = true := decide_eq_true hkn
      have f2 : decide ((k : Int) < (na : Int)) = true := decide_eq_true (by omega)
      have hk1 : IntKind.i64.wrap ((k : Int) + 1) = ((k + 1 : Nat) : Int) := by rw [IntWalk.i64_in _ (by have := HL.out; omega)]; omega
      have hj0 : (0 : Int) ≤ (k : Int) := by omega
      have hj1 : (k : Int) < (na : Int) := by omega
      obtain ⟨x, hx⟩ : ∃ r, l[k]? = some r := ⟨_, List.getElem?_eq_getElem (by rw [HLL.out]; exact hkn)⟩
      obtain ⟨ba, oa, hba, x0⟩ := (HROW.out.off hof (N' := fun k => k = p) (fun k hk => .inl hk)).weak.at hx
      subst hba
      have hox : Ok g x := by have := HLO.out x (List.mem_of_getElem? hx); have := hpx.length_le; unfold Ok at *; omega
      have HBD := Lib.hid (show k + 1 ≤ na ∧ g.length ≤ gs.length + 3 * k ∧ gs.length + 3 * na ≤ 880 from by have h1 := HL.out; have h2 := HN.out; omega)
      obtain ⟨qa, hqa⟩ : ∃ z, andC g s x = z := ⟨_, rfl⟩
      obtain ⟨g1, u⟩ := qa
      have h1 := step_and hg s x
      have h2 := and_ok hg (by have := HBD.out; omega) hos hox
      have h3 := @and_len g s x
      rw [hqa] at h1 h2 h3
      have h3' : g1.length ≤ g.length + 1 := h3
      have ht1 : Ok g1 t := by have h9 := h1.pre.length_le; unfold Ok at hot ⊢; simp only at h9; omega
      obtain ⟨qb, hqb⟩ : ∃ z, orC g1 t u = z := ⟨_, rfl⟩
      obtain ⟨g2, t2⟩ := qb
      have h4 := step_or h1.good t u
      have h5 := or_ok h1.good (by have := HBD.out; omega) ht1 h2
      have h6 := @or_len g1 t u
      rw [hqb] at h4 h5 h6
      have h6' : g2.length ≤ g1.length + 1 := h6
      have hs2 : Ok g2 s := by have h9 := h1.pre.length_le; have h8 := h4.pre.length_le; unfold Ok at hos ⊢; simp only at h9 h8; omega
      have hx2 : Ok g2 x := by have h9 := h1.pre.length_le; have h8 := h4.pre.length_le; unfold Ok at hox ⊢; simp only at h9 h8; omega
      obtain ⟨qc, hqc⟩ : ∃ z, orC g2 s x = z := ⟨_, rfl⟩
      obtain ⟨g3, s2⟩ := qc
      have h7 := step_or h4.good s x
      have h8 := or_ok h4.good (by have := HBD.out; omega) hs2 hx2
      have h9 := @or_len g2 s x
      rw [hqc] at h7 h8 h9
      have h9' : g3.length ≤ g2.length + 1 := h9
      have hst : (loneF (t, s) x).run g = (g3, (t2, s2)) := by
        unfold loneF
        rw [Pr.run_bind, run_andP]
        show (((orP t (andC g s x).2).bind fun t => (orP s x).bind fun e => Pr.ret (t, e)).run (andC g s x).1) = _
        rw [hqa, Pr.run_bind]
        show (((orP s x).bind fun e => Pr.ret ((orC g1 t u).2, e)).run (orC g1 t u).1) = _
        rw [hqb, Pr.run_bind]
        show ((orC g2 s x).1, ((t2, (orC g2 s x).2) : Int × Int)) = _
        rw [hqc]
      rw [drop_at hx, run_foldP_cons, hst] at he
      have HNX := Lib.hid (And.intro he (And.intro h7.good (And.intro (show Ok g3 t2 from by have h10 := h7.pre.length_le; have h11 : Ok g2 t2 := h5; unfold Ok at h11 ⊢; simp only at h10; omega) (And.intro (show Ok g3 s2 from h8) (And.intro (hpx.trans (h1.pre.trans (h4.pre.trans h7.pre))) (show g3.length ≤ gs.length + 3 * (k + 1) from by have := HBD.out; omega))))))
      have HQ1 := Lib.hid hqa
      have HQ2 := Lib.hid hqb
      have HQ3 := Lib.hid hqc
      have HGD := Lib.hid (And.intro hg (show g.length ≤ 880 by have := HBD.out; omega))
      have HG1' := Lib.hid (show Good g1 ∧ g1.length ≤ 900 from ⟨h1.good, by have := HBD.out; omega⟩)
      have HG2 := Lib.hid (show Good g2 ∧ g2.length ≤ 900 from ⟨h4.good, by have := HBD.out; omega⟩)
      have HTL := Lib.hid (show t ≤ 9223372036854775807 ∧ u ≤ 9223372036854775807 from ⟨by unfold Ok at hot; have := HBD.out; omega, by have h10 : Ok g1 u := h2; unfold Ok at h10; have := HBD.out; omega⟩)
      have HSX := Lib.hid (show s ≤ 9223372036854775807 ∧ x ≤ 9223372036854775807 from ⟨by unfold Ok at hos; have := HBD.out; omega, by unfold Ok at hox; have := HBD.out; omega⟩)
      clear hx he hg hot hos hpx hgl hgx hof hox hqa h1 h2 h3 h3' ht1 hqb h4 h5 h6 h6' hs2 hx2 hqc h7 h8 h9 h9' hst
      go_wp2_with fail
      clear x0
      refine wp_onlyN ?_
      have HS := Lib.hid (fun (Wh : World) (hWh : Off (fun k => k = p ∨ wR.heap.size ≤ k) wr Wh) => (⟨hWh, hWh.cell HQR.out (fun e => by have := HWR.out; have := HWB.out; rcases e with e | e; (have e' : q = p := e; omega); (have e' : wR.heap.size ≤ q := e; omega))⟩ : (fun Wh : World => Off (fun k => k = p ∨ wR.heap.size ≤ k) wr Wh ∧ Wh.cell? ⟨q, 0, none⟩ = some (.pointer (some ⟨p, 0, none⟩))) Wh))
      have hdr : Off (fun k => k = p ∨ wR.heap.size ≤ k) wr wr.drew := Off.of (show wr.grownBy wr.drew none from ⟨rfl, rfl, rfl, Nat.le_refl _, fun _ _ _ => rfl⟩) (fun k e => by cases e)
      refine wp_region_held_drew (S := (fun Wh : World => Off (fun k => k = p ∨ wR.heap.size ≤ k) wr Wh ∧ Wh.cell? ⟨q, 0, none⟩ = some (.pointer (some ⟨p, 0, none⟩)))) (by kernel_rfl) (HS.out _ hdr) (fun hHeld => ?_)
      refine tk 0 ({ dst := some 20, op := Op.move (Operand.tmp 6), type := 77, pos := "matrix.go:203", after := #[], guard := none }) ?_ rfl (by kernel_rfl) (fun _ _ _ h => h) (by rfl) ?_ hHeld ?_
      rotate_left 1
      · (intro W hSW; (try dsimp only at hSW); first | (go_simp; done) | (go_simp; with_reducible rfl))
      try simp only [Act.put, List.setIfInBounds_toArray, List.set_cons_zero, List.set_cons_succ]
      refine tk 1 ({ dst := some 21, op := Op.nilCheck (Operand.tmp 20), type := 0, pos := "matrix.go:203", after := #[{ on := 0, ground := Ground.data }], guard := none }) ?_ rfl (by kernel_rfl) (fun _ _ _ h => h) (by rfl) ?_ hHeld ?_
      rotate_left 1
      · (intro W hSW; (try dsimp only at hSW); first | (go_simp; done) | (go_simp; with_reducible rfl))
      try simp only [Act.put, List.setIfInBounds_toArray, List.set_cons_zero, List.set_cons_succ]
      refine tk 2 ({ dst := some 22, op := Op.fieldAddr 88 (Operand.tmp 21) 0, type := 0, pos := "matrix.go:203", after := #[{ on := 1, ground := Ground.data }], guard := none }) ?_ rfl (by kernel_rfl) (fun _ _ _ h => h) (by rfl) ?_ hHeld ?_
      rotate_left 1
      · (intro W hSW; (try dsimp only at hSW); first | (go_simp; done) | (go_simp; with_reducible rfl))
      try simp only [Act.put, List.setIfInBounds_toArray, List.set_cons_zero, List.set_cons_succ]
      refine tk 3 ({ dst := some 23, op := Op.load 86 (Operand.tmp 22), type := 86, pos := "matrix.go:203", after := #[{ on := 2, ground := Ground.data }], guard := none }) ?_ rfl (by kernel_rfl) (fun _ _ _ h => h) (by rfl) ?_ hHeld ?_
      rotate_left 1
      · (intro W hSW; (try dsimp only at hSW); first | (go_simp; done) | (go_simp; with_reducible rfl))
      try simp only [Act.put, List.setIfInBounds_toArray, List.set_cons_zero, List.set_cons_succ]
      refine tk 4 ({ dst := some 24, op := Op.move (Operand.tmp 8), type := 3, pos := "matrix.go:203", after := #[], guard := none }) ?_ rfl (by kernel_rfl) (fun _ _ _ h => h) (by rfl) ?_ hHeld ?_
      rotate_left 1
      · (intro W hSW; (try dsimp only at hSW); first | (go_simp; done) | (go_simp; with_reducible rfl))
      try simp only [Act.put, List.setIfInBounds_toArray, List.set_cons_zero, List.set_cons_succ]
      refine tk 5 ({ dst := some 25, op := Op.move (Operand.tmp 6), type := 77, pos := "matrix.go:203", after := #[], guard := none }) ?_ rfl (by kernel_rfl) (fun _ _ _ h => h) (by rfl) ?_ hHeld ?_
      rotate_left 1
      · (intro W hSW; (try dsimp only at hSW); first | (go_simp; done) | (go_simp; with_reducible rfl))
      try simp only [Act.put, List.setIfInBounds_toArray, List.set_cons_zero, List.set_cons_succ]
      refine tk 6 ({ dst := some 26, op := Op.nilCheck (Operand.tmp 25), type := 0, pos := "matrix.go:203", after := #[{ on := 5, ground := Ground.data }], guard := none }) ?_ rfl (by kernel_rfl) (fun _ _ _ h => h) (by rfl) ?_ hHeld ?_
      rotate_left 1
      · (intro W hSW; (try dsimp only at hSW); first | (go_simp; done) | (go_simp; with_reducible rfl))
      try simp only [Act.put, List.setIfInBounds_toArray, List.set_cons_zero, List.set_cons_succ]
      refine tk 7 ({ dst := some 27, op := Op.fieldAddr 88 (Operand.tmp 26) 0, type := 0, pos := "matrix.go:203", after := #[{ on := 6, ground := Ground.data }], guard := none }) ?_ rfl (by kernel_rfl) (fun _ _ _ h => h) (by rfl) ?_ hHeld ?_
      rotate_left 1
      · (intro W hSW; (try dsimp only at hSW); first | (go_simp; done) | (go_simp; with_reducible rfl))
      try simp only [Act.put, List.setIfInBounds_toArray, List.set_cons_zero, List.set_cons_succ]
      refine tk 8 ({ dst := some 28, op := Op.load 86 (Operand.tmp 27), type := 86, pos := "matrix.go:203", after := #[{ on := 7, ground := Ground.data }], guard := none }) ?_ rfl (by kernel_rfl) (fun _ _ _ h => h) (by rfl) ?_ hHeld ?_
      rotate_left 1
      · (intro W hSW; (try dsimp only at hSW); first | (go_simp; done) | (go_simp; with_reducible rfl))
      try simp only [Act.put, List.setIfInBounds_toArray, List.set_cons_zero, List.set_cons_succ]
      refine tk 9 ({ dst := some 29, op := Op.move (Operand.tmp 7), type := 3, pos := "matrix.go:203", after := #[], guard := none }) ?_ rfl (by kernel_rfl) (fun _ _ _ h => h) (by rfl) ?_ hHeld ?_
      rotate_left 1
      · (intro W hSW; (try dsimp only at hSW); first | (go_simp; done) | (go_simp; with_reducible rfl))
      try simp only [Act.put, List.setIfInBounds_toArray, List.set_cons_zero, List.set_cons_succ]
      refine tk 10 ({ dst := some 30, op := Op.move (Operand.tmp 10), type := 3, pos := "matrix.go:203", after := #[], guard := none }) ?_ rfl (by kernel_rfl) (fun _ _ _ h => h) (by rfl) ?_ hHeld ?_
      rotate_left 1
      · (intro W hSW; (try dsimp only at hSW); first | (go_simp; done) | (go_simp; with_reducible rfl))
      try simp only [Act.put, List.setIfInBounds_toArray, List.set_cons_zero, List.set_cons_succ]
      refine wpAnyH_ready (rs := [11]) (by kernel_rfl) (by simp) ?_
      refine (AllReadyH.cons (o := { dst := some 31, op := Op.call { callee := Callee.value (Operand.func 81), args := #[Operand.tmp 28, Operand.tmp 29, Operand.tmp 30], argTypes := #[86, 3, 3] }, type := 3, pos := "matrix.go:203", after := #[{ on := 8, ground := Ground.data }, { on := 9, ground := Ground.data }, { on := 10, ground := Ground.data }], guard := none }) rfl (fun K hK => ?_) AllReadyH.nil)
      rw [if_pos (by rfl)]
      go_simp
      go_at_call 81
      refine (gand_c g s x p g1 u HQ1.out HGD.out.1 (by have := HBD.out; omega) (fun k => k = p ∨ wR.heap.size ≤ k) (World.drew wr) hi (HX0.out.grown (⟨rfl, rfl, rfl, Nat.le_refl _, fun _ _ _ => rfl⟩ : wr.grownBy wr.drew none))).mono ?_
      rintro e wA ⟨rfl, hiA, hu, hoA⟩
      have hvA := hdr.trans hoA (fun _ _ e => e)
      replace hu := hu.wide (N := fun k => k = p ∨ wR.heap.size ≤ k) (fun k hk => hk.elim id (fun h => .inr (Nat.le_trans HOF.out.size h))) (Int.le_refl _)
      go_wp2_with fail
      refine hK.out _ _ (HS.out _ hvA) (fun hHeld => ?_)
      clear hK K
      try simp only [Act.put, List.setIfInBounds_toArray, List.set_cons_zero, List.set_cons_succ]
      refine wpAnyH_ready (rs := [12]) (by kernel_rfl) (by simp) ?_
      refine (AllReadyH.cons (o := { dst := some 32, op := Op.call { callee := Callee.value (Operand.func 75), args := #[Operand.tmp 23, Operand.tmp 24, Operand.tmp 31], argTypes := #[86, 3, 3] }, type := 3, pos := "matrix.go:203", after := #[{ on := 3, ground := Ground.data }, { on := 4, ground := Ground.data }, { on := 11, ground := Ground.data }, { on := 11, ground := Ground.chain }], guard := none }) rfl (fun K hK => ?_) AllReadyH.nil)
      rw [if_pos (by rfl)]
      go_simp
      go_at_call 75
      refine (gor_c g1 t u p g2 t2 HQ2.out HG1'.out.1 (by have := HG1'.out; omega) HTL.out.1 HTL.out.2 (fun k => k = p ∨ wR.heap.size ≤ k) wA hiA hu).mono ?_
      rintro e wO ⟨rfl, hiO, hv, hoO⟩
      have hvO := hvA.trans hoO (fun _ _ e => e)
      have hszA := Nat.le_trans HOF.out.size hvA.size
      replace hv := hv.wide (N := fun k => k = p ∨ wR.heap.size ≤ k) (fun k hk => hk.elim id (fun h => .inr (Nat.le_trans hszA h))) (Int.le_refl _)
      clear hszA
      go_wp2_with fail
      refine hK.out _ _ (HS.out _ hvO) (fun hHeld => ?_)
      clear hK K
      try simp only [Act.put, List.setIfInBounds_toArray, List.set_cons_zero, List.set_cons_succ]
      refine tk 13 ({ dst := some 8, op := Op.assign (Operand.tmp 32), type := 3, pos := "matrix.go:203", after := #[{ on := 12, ground := Ground.data }, { on := 12, ground := Ground.chain }, { on := 0, ground := Ground.phase }, { on := 1, ground := Ground.phase }, { on := 2, ground := Ground.phase }, { on := 3, ground := Ground.phase }, { on := 4, ground := Ground.phase }, { on := 5, ground := Ground.phase }, { on := 6, ground := Ground.phase }, { on := 7, ground := Ground.phase }, { on := 8, ground := Ground.phase }, { on := 9, ground := Ground.phase }, { on := 10, ground := Ground.phase }, { on := 11, ground := Ground.phase }, { on := 12, ground := Ground.phase }], guard := none }) ?_ rfl (by kernel_rfl) (fun _ _ _ h => h) (by rfl) ?_ hHeld ?_
      rotate_left 1
      · (intro W hSW; (try dsimp only at hSW); first | (go_simp; done) | (go_simp; with_reducible rfl))
      try simp only [Act.put, List.setIfInBounds_toArray, List.set_cons_zero, List.set_cons_succ]
      refine wpAnyH_done (by kernel_rfl) ?_ _
      have hEND := hvO
      clear hHeld
      simp only [onlyN]
      have HVO := Lib.hid hvO
      have HV := Lib.hid hv
      clear hvO hv hoO hvA hu hoA hEND hdr HS
      have q0 := HVO.out.cell HQR.out (fun e => by have := HWR.out; have := HWB.out; rcases e with e | e; (have e' : q = p := e; omega); (have e' : wR.heap.size ≤ q := e; omega))
      go_wp2_with fail
      clear q0
      refine (gor_c g2 s x p g3 s2 HQ3.out HG2.out.1 (by have := HG2.out; omega) HSX.out.1 HSX.out.2 (fun k => k = p ∨ wR.heap.size ≤ k) wO hiO HV.out).mono ?_
      rintro e wS ⟨rfl, hiS, hgS, hoS⟩
      have HOO := Lib.hid (HVO.out.trans hoS (fun _ _ e => e))
      have HGS := Lib.hid (hgS.wide (N := fun k => k = p ∨ wR.heap.size ≤ k) (hi' := hiS) (fun k hk => hk.elim id (fun h => .inr (Nat.le_trans (Nat.le_trans HOF.out.size HVO.out.size) h))) (Int.le_refl _))
      have HOE := Lib.hid (HOF.out.trans HOO.out (fun k hk e => e.elim id (fun h => absurd hk (by omega))))
      clear hgS hoS
      go_wp2_with fail
      go_roundg (na - (k + 1))
      case measure => rw [HI.out]; omega
      case rel => exact ⟨k + 1, t2, s2, g3, hiS, rfl, rfl, rfl, rfl, by omega, HNX.out.1, HNX.out.2.1, HNX.out.2.2.1, HNX.out.2.2.2.1, HNX.out.2.2.2.2.1, HNX.out.2.2.2.2.2, HGS.out, HOE.out⟩
    · have f1 : decide (k < na) = false := decide_eq_false hkn
      have f2 : decide ((k : Int) < (na : Int)) = false := decide_eq_false (by omega)
      rw [List.drop_of_length_le (by rw [HLL.out]; omega)] at he
      have e1 : g = gE := congrArg Prod.fst he
      have e2 : t = tE := congrArg (fun z => z.2.1) he
      have e3 : s = sE := congrArg (fun z => z.2.2) he
      have HTN := Lib.hid (show t ≤ 9223372036854775807 from by have h2 := HLF.out; rw [← e1] at h2; unfold Ok at hot; omega)
      have HGF := Lib.hid (show GX p (fun k => k = p ∨ wR.heap.size ≤ k) wr gE hi from by rw [← e1]; exact hgx)
      have HTE := Lib.hid e2
      have HOF2 := Lib.hid ((Off.of HVR.out (M := fun k => k = p) (fun k e => by cases e)).trans hof (fun _ _ e => e))
      clear hkn he hg hot hos hpx hgl hgx hof e1 e2 e3 HX0 HOF
      have q1 := HQR.out
      have q0 := HOF2.out.cell HQ0.out (fun e => by have e' : q = p := e; have := HWB.out; omega)
      go_wp2_with fail
      clear q0
      refine (gcircuit_off gE p _ wr _ HGF.out (by have := HLF.out; omega)).mono ?_
      rintro e wM ⟨ca1, cc1, rfl, hsp, hof⟩
      have HOM := Lib.hid (HOF2.out.trans hof (fun _ _ e => e))
      have HSP := Lib.hid hsp
      have hrc : Rc wM (w.heap.size + 2) 0 (.slice none 0 0) := Rc.step (M := fun k => k = p) (show Rc V (w.heap.size + 2) 0 (.slice none 0 0) from ⟨HG1.out.cell HB.out.r (by simp), (grown_frozen HG1.out (lies_lt HB.out.r) 0).trans HB.out.rf⟩) HOM.out (fun e => by have e' : w.heap.size + 2 = p := e; have := HWB.out; omega)
      have HRC := Lib.hid hrc
      clear hsp hof hrc
      have k0 := HRC.out.1
      have kf := HRC.out.2
      go_wp2_with (go_at_call 83; refine (not_at t HTN.out).mono ?_; rintro e w9 ⟨rfl, hw9⟩; rw [hw9]; clear hw9 w9)
      rw [← HTE.out]
      refine bodyPost_ret (resM32 _ _ (w.heap.size + 2) ca1 gE.length cc1 _ rfl rfl (HRC.out.set (.slice ca1 gE.length cc1)).1) rfl ⟨ca1, cc1, rfl, (HSP.out.away (off_set wM (w.heap.size + 2) 0 (.slice ca1 gE.length cc1)) (fun k e => by have e' : k = w.heap.size + 2 := e; have := HWB.out; omega)).here, ?_⟩
      exact grown_own (HOM.out.grown (World.grownBy.trans HB.out.g HG1.out) (fun k e => by have e' : k = p := e; have := HWB.out; omega)) (grown_set wM (w.heap.size + 2) 0 (.slice ca1 gE.length cc1)) (fun x e => by cases e; exact Nat.le_add_right _ _)
end Go.Proofs.Ythdhmflodiincaa

namespace Go.Proofs.Ythdhmflodiincaa
open Go.RowKit

theorem lit_eq {kn : List Bool} {r : Int} {z : Bool} (h0 : 0 ≤ r) (hz : kn[(r / 2).toNat]? = some z) : litV kn r = (z == (r % 2 == 0)) := by
  unfold litV
  rw [decide_eq_true h0, hz]
  have : r % 2 = 0 ∨ r % 2 = 1 := by omega
  rcases this with h | h <;> cases z <;> simp [h]
set_option maxRecDepth 100000 in
set_option maxHeartbeats 4000000 in
theorem reval_calls (gs : List Gt) (vals : List Bool) (r : Int) (a : Option Addr) (c : Nat) (va : Option Addr) (vc : Nat) (w : World) (h : GatesW w a c gs) (hG : Good gs) (hv : BoolsW w va vc vals) (hl : gs.length ≤ 1000) (_hl2 : vals.length ≤ 1000) (hr : r ≤ 9223372036854775807) :
    Calls Try.prog 50 #[.agg #[.slice a gs.length c], .slice va vals.length vc, .int .i64 r] w fun e w' => e = .returned (.bool (evalC gs vals r)) ∧ w.grownBy w' none := by
  obtain ⟨n, hn⟩ : ∃ n, gs.length = n := ⟨_, rfl⟩
  obtain ⟨nv, hnv⟩ : ∃ n, vals.length = n := ⟨_, rfl⟩
  have hg1 := World.grownBy_alloc w (.cells #[.slice a n c] 30) none
  have e1 := one_cell w (.slice a n c) 30
  obtain ⟨W1, hW1⟩ : ∃ W, w.alloc (.cells #[.slice a n c] 30) = W := ⟨_, rfl⟩
  rw [hW1] at hg1 e1
  have q1 := e1.2.1
  have HQ := Lib.hid q1
  have HG := Lib.hid hg1
  have HA := Lib.hid (h.grown hg1)
  have HV := Lib.hid (hv.grown hg1)
  have HN := Lib.hid (And.intro hn hnv)
  have HGD := Lib.hid hG
  have hw2 : IntKind.i64.wrap (2 * (n : Int)) = 2 * (n : Int) := IntWalk.i64_in _ (by omega)
  rw [hn] at hl ⊢
  rw [hnv] at _hl2 ⊢
  clear h hv hg1 e1 hn hnv hG
  by_cases h0 : r < 0
  · have f0 : decide (r < 0) = true := decide_eq_true h0
    have HE := Lib.hid (show evalC gs vals r = false by unfold evalC; rw [decide_eq_false (by omega)]; rfl)
    clear h0
    go_enter Try.func50, Try.ntmps50
    go_wp2_with fail
    go_ret
    exact ⟨by rw [HE.out]; rfl, HG.out⟩
  · have f0 : decide (r < 0) = false := decide_eq_false h0
    by_cases h1 : 2 * (n : Int) ≤ r
    · have f1 : decide (2 * (n : Int) ≤ r) = true := decide_eq_true h1
      have HE := Lib.hid (show evalC gs vals r = false by unfold evalC; rw [HN.out.1, decide_eq_false (by omega)]; rfl)
      clear h0 h1
      go_enter Try.func50, Try.ntmps50
      go_wp2_with fail
      go_ret
      exact ⟨by rw [HE.out]; rfl, HG.out⟩
    · have f1 : decide (2 * (n : Int) ≤ r) = false := decide_eq_false h1
      obtain ⟨q, hqq⟩ : ∃ q : Nat, r / 2 = (q : Int) := ⟨(r / 2).toNat, by omega⟩
      have hq : Int.tdiv r 2 = (q : Int) := by rw [Int.tdiv_eq_ediv_of_nonneg (by omega), hqq]
      have hqn : q < n := by omega
      have hwq : IntKind.i64.wrap (q : Int) = (q : Int) := IntWalk.i64_in _ (by omega)
      have hm : Int.tmod r 2 = r % 2 := Int.tmod_eq_emod_of_nonneg (by omega)
      have hwm : IntKind.i64.wrap (r % 2) = r % 2 := IntWalk.i64_in _ (by omega)
      obtain ⟨q0, hq0⟩ : ∃ b, (r % 2 == 0) = b := ⟨_, rfl⟩
      have HR := Lib.hid (show evalC gs vals r = litV (knownV vals (gs.take (q + 1))) r ∧ (r / 2).toNat = q ∧ 0 ≤ r from ⟨by unfold evalC; rw [HN.out.1, decide_eq_true (by omega), hqq, Int.toNat_natCast]; rfl, by rw [hqq]; rfl, by omega⟩)
      have HQ0 := Lib.hid (show (r % 2 == 0) = q0 from hq0)
      have HX := Lib.hid (And.intro hq (And.intro hwq (And.intro hm (And.intro hwm hq0))))
      clear h0 h1 hqq hm hwm hq0
      obtain ⟨i0, hi0, hz0, hz1, hz2⟩ := info_parts info4
      go_enter Try.func50, Try.ntmps50
      go_wp2_with fail
      clear hW1 q1 f0 f1 hw2 hq hwq
      go_loopg [7, 8] (q + 1) (fun g s7 s8 wr => ∃ (k : Nat) (ka : Option Addr) (kc : Nat), s7 = .slice ka k kc ∧ s8 = .int .i64 (k : Int) ∧ g = q + 1 - k ∧ k ≤ q + 1 ∧ wr.ownsRow W1.heap.size 4 1 (.slice ka k kc) k (boolCells (knownV vals (gs.take k))) ∧ W1.grownBy wr none)
      case atStart => exact ⟨0, none, 0, rfl, rfl, rfl, Nat.zero_le _, World.ownsRow_nil _ _ _ _, grown_refl _ _⟩
      case round =>
        obtain ⟨k, ka, kc, rfl, rfl, hgk, hk, hown, hgr⟩ := hrel
        have HI := Lib.hid hgk; clear hgk
        have HOW := Lib.hid hown; clear hown
        have HGR := Lib.hid hgr; clear hgr
        obtain ⟨wo, hwo⟩ : ∃ z, z = wr := ⟨_, rfl⟩
        rw [← hwo] at HOW HGR ⊢
        clear hwo
        have hkl : (knownV vals (gs.take k)).length = k := by rw [known_len, List.length_take, HN.out.1]; omega
        obtain ⟨kn, hkn⟩ : ∃ kn, knownV vals (gs.take k) = kn := ⟨_, rfl⟩
        rw [hkn] at HOW hkl
        have HKN := Lib.hid (And.intro hkn hkl)
        have HKB := Lib.hid (show BoolsW wo ka kc kn from by
          have h1 := HOW.out
          rw [← hkl] at h1
          obtain ⟨a', c', e', hs'⟩ := bools_span h1
          cases e'
          exact hs'.here)
        clear hkn hkl
        have q1 := HGR.out.cell HQ.out (by simp)
        obtain ⟨hq, hwq, hm, hwm, hq0⟩ := HX.out
        by_cases hkq : k ≤ q
        · have f1 : decide (k ≤ q) = true := decide_eq_true hkq
          have f2 : decide ((k : Int) ≤ (q : Int)) = true := decide_eq_true (by omega)
          have hk1 : IntKind.i64.wrap ((k : Int) + 1) = ((k + 1 : Nat) : Int) := by rw [IntWalk.i64_in _ (by omega)]; omega
          have hjn : (k : Int) < (n : Int) := by omega
          have hj0 : (0 : Int) ≤ (k : Int) := by omega
          obtain ⟨g, hg⟩ : ∃ g, gs[k]? = some g := ⟨_, List.getElem?_eq_getElem (by rw [HN.out.1]; omega)⟩
          obtain ⟨ba, oa, rfl, x0, x1, x2⟩ := (HA.out.grown HGR.out).at hg
          have HST := Lib.hid (show knownV vals (gs.take (k + 1)) = kn ++ [gateV vals kn g] by rw [known_step vals hg, HKN.out.1])
          have HFM := Lib.hid (show 0 < k → formG g k from fun h => HGD.out.form k g h hg)
          have HZR := Lib.hid (show k = 0 → g = (0, 0, 0) from fun h => by subst h; rw [HGD.out.zero] at hg; cases hg; rfl)
          clear hg
          have hgc := gate_cells wo g
          have hga2 := World.grownBy_alloc wo (.cells #[.int .i64 g.1, .int .i64 g.2.1, .int .i64 g.2.2] 99) none
          obtain ⟨wA, hwA⟩ : ∃ W, wo.alloc (.cells #[.int .i64 g.1, .int .i64 g.2.1, .int .i64 g.2.2] 99) = W := ⟨_, rfl⟩
          rw [hwA] at hgc hga2
          have HGA := Lib.hid hga2
          have HOA := Lib.hid (own_grown HOW.out hga2)
          have HLT := Lib.hid (show W1.heap.size ≤ wA.heap.size from Nat.le_trans HGR.out.size hga2.size)
          obtain ⟨y0, y1, y2⟩ := hgc
          have HY := Lib.hid (show GateAt wA wo.heap.size 0 g from ⟨y0, y1, y2⟩)
          have HKA := Lib.hid (HKB.out.grown hga2)
          clear hga2
          by_cases hK1 : g.1 = 1
          · have e1 := beqT hK1
            have e2 : (g.1 == 2) = false := beqF (by omega)
            have hkp : 0 < k := by cases k with | zero => have := HZR.out rfl; rw [this] at hK1; cases hK1 | succ k => omega
            have hA : 1 ≤ g.2.1 ∧ g.2.1 ≤ 20000 := by rcases HFM.out hkp with h | h <;> omega
            have hwA1 : IntKind.i64.wrap (g.2.1 - 1) = g.2.1 - 1 := IntWalk.i64_in _ (by omega)
            obtain ⟨i, hi⟩ : ∃ i : Nat, g.2.1 - 1 = (i : Int) := ⟨(g.2.1 - 1).toNat, by omega⟩
            by_cases c2 : g.2.1 ≤ (nv : Int)
            · have f3 : decide (g.2.1 ≤ (nv : Int)) = true := decide_eq_true c2
              obtain ⟨z, hz⟩ : ∃ z, vals[i]? = some z := ⟨_, List.getElem?_eq_getElem (by rw [HN.out.2]; omega)⟩
              obtain ⟨bv, ov, hva, xv⟩ := (HV.out.grown (World.grownBy.trans HGR.out HGA.out)).at hz
              have HX := Lib.hid (show gateV vals kn g = z by unfold gateV; rw [if_pos hK1, decide_eq_true hA.1, hi, Int.toNat_natCast, hz]; rfl)
              have hin : (i : Int) < (nv : Int) := by omega
              have hi0' : (0 : Int) ≤ (i : Int) := by omega
              rw [hi] at hwA1
              subst hva
              clear hK1 c2 hz hA
              have HOB := HOA
              have HLB := HLT
              have HGB := Lib.hid (World.grownBy.trans HGR.out HGA.out)
              go_wp2_with (at_builtin; refine wpList_append_own_at _ rfl _ _ 49 rfl W1.heap.size 4 i0 (.bool false) 1 1 Try.underlying49 hi0 hz0 hz1 hz2 rfl (by decide) _ k (boolCells kn) rfl (HOB.out.alloc _) ⟨wA.heap.size, 0, none⟩ 1 1 [.bool z] rfl rfl (cell_one_new _ _ _) (fun u hu => by simp at hu; subst hu; rfl) (by unfold maxLen; omega) (by omega) (by have := HLB.out; simp; omega) ?_)
              intro v' w6 hown' hgrow6 _ hat6
              have haA := World.grownBy_alloc wA (.cells #[.bool z] 4) none
              obtain ⟨rgA, rcA, rfl⟩ := own_shape hown'
              have HGF := Lib.hid (grown_own (World.grownBy.trans HGB.out haA) hgrow6 (fun j e => ((HOB.out.alloc (.cells #[.bool z] 4)).lt j e).1))
              have HOF := Lib.hid (show w6.ownsRow W1.heap.size 4 1 (.slice rgA (k + 1) rcA) (k + 1) (boolCells (kn ++ [gateV vals kn g])) by rw [HX.out, boolCells, List.map_append]; exact hown')
              clear hown' hgrow6 haA hat6
              go_wp2_with fail
              go_roundg (q + 1 - (k + 1))
              case measure => rw [HI.out]; omega
              case rel => exact ⟨k + 1, rgA, rcA, rfl, rfl, rfl, by omega, by rw [HST.out]; exact HOF.out, HGF.out⟩
            · have f3 : decide (g.2.1 ≤ (nv : Int)) = false := decide_eq_false c2
              have HX := Lib.hid (show gateV vals kn g = false by unfold gateV; rw [if_pos hK1, hi, Int.toNat_natCast, List.getElem?_eq_none (by rw [HN.out.2]; omega)]; simp)
              clear hK1 c2 hi hA hwA1
              have HOB := HOA
              have HLB := HLT
              have HGB := Lib.hid (World.grownBy.trans HGR.out HGA.out)
              go_wp2_with (at_builtin; refine wpList_append_own_at _ rfl _ _ 49 rfl W1.heap.size 4 i0 (.bool false) 1 1 Try.underlying49 hi0 hz0 hz1 hz2 rfl (by decide) _ k (boolCells kn) rfl (HOB.out.alloc _) ⟨wA.heap.size, 0, none⟩ 1 1 [.bool false] rfl rfl (cell_one_new _ _ _) (fun u hu => by simp at hu; subst hu; rfl) (by unfold maxLen; omega) (by omega) (by have := HLB.out; simp; omega) ?_)
              intro v' w6 hown' hgrow6 _ hat6
              have haA := World.grownBy_alloc wA (.cells #[.bool false] 4) none
              obtain ⟨rgA, rcA, rfl⟩ := own_shape hown'
              have HGF := Lib.hid (grown_own (World.grownBy.trans HGB.out haA) hgrow6 (fun j e => ((HOB.out.alloc (.cells #[.bool false] 4)).lt j e).1))
              have HOF := Lib.hid (show w6.ownsRow W1.heap.size 4 1 (.slice rgA (k + 1) rcA) (k + 1) (boolCells (kn ++ [gateV vals kn g])) by rw [HX.out, boolCells, List.map_append]; exact hown')
              clear hown' hgrow6 haA hat6
              go_wp2_with fail
              go_roundg (q + 1 - (k + 1))
              case measure => rw [HI.out]; omega
              case rel => exact ⟨k + 1, rgA, rcA, rfl, rfl, rfl, by omega, by rw [HST.out]; exact HOF.out, HGF.out⟩
          · have e1 := beqF hK1
            by_cases hK2 : g.1 = 2
            · have e2 := beqT hK2
              have hkp : 0 < k := by cases k with | zero => have := HZR.out rfl; rw [this] at hK2; cases hK2 | succ k => omega
              have hF : 2 ≤ g.2.1 ∧ g.2.1 < g.2.2 ∧ g.2.2 < 2 * (k : Int) := by rcases HFM.out hkp with h | h <;> omega
              obtain ⟨p1, hp1⟩ : ∃ p : Nat, g.2.1 / 2 = (p : Int) := ⟨(g.2.1 / 2).toNat, by omega⟩
              have hd1 : Int.tdiv g.2.1 2 = (p1 : Int) := by rw [Int.tdiv_eq_ediv_of_nonneg (by omega), hp1]
              have hwd1 : IntKind.i64.wrap (p1 : Int) = (p1 : Int) := IntWalk.i64_in _ (by omega)
              have hmm1 : Int.tmod g.2.1 2 = g.2.1 % 2 := Int.tmod_eq_emod_of_nonneg (by omega)
              have hwm1 : IntKind.i64.wrap (g.2.1 % 2) = g.2.1 % 2 := IntWalk.i64_in _ (by omega)
              obtain ⟨b1, hb1⟩ : ∃ b, (g.2.1 % 2 == 0) = b := ⟨_, rfl⟩
              obtain ⟨z1, hz1⟩ : ∃ z, kn[p1]? = some z := ⟨_, List.getElem?_eq_getElem (by rw [HKN.out.2]; omega)⟩
              obtain ⟨bk1, ok1, ek1, xk1⟩ := HKA.out.at hz1
              have hlv1 : litV kn g.2.1 = (z1 == b1) := by rw [lit_eq (by omega) (by rw [hp1]; exact hz1), hb1]
              have hpl1 : (p1 : Int) < (k : Int) := by omega
              have hp01 : (0 : Int) ≤ (p1 : Int) := by omega
              clear hz1 hp1
              obtain ⟨p2, hp2⟩ : ∃ p : Nat, g.2.2 / 2 = (p : Int) := ⟨(g.2.2 / 2).toNat, by omega⟩
              have hd2 : Int.tdiv g.2.2 2 = (p2 : Int) := by rw [Int.tdiv_eq_ediv_of_nonneg (by omega), hp2]
              have hwd2 : IntKind.i64.wrap (p2 : Int) = (p2 : Int) := IntWalk.i64_in _ (by omega)
              have hmm2 : Int.tmod g.2.2 2 = g.2.2 % 2 := Int.tmod_eq_emod_of_nonneg (by omega)
              have hwm2 : IntKind.i64.wrap (g.2.2 % 2) = g.2.2 % 2 := IntWalk.i64_in _ (by omega)
              obtain ⟨b2, hb2⟩ : ∃ b, (g.2.2 % 2 == 0) = b := ⟨_, rfl⟩
              obtain ⟨z2, hz2⟩ : ∃ z, kn[p2]? = some z := ⟨_, List.getElem?_eq_getElem (by rw [HKN.out.2]; omega)⟩
              obtain ⟨bk2, ok2, ek2, xk2⟩ := HKA.out.at hz2
              have hlv2 : litV kn g.2.2 = (z2 == b2) := by rw [lit_eq (by omega) (by rw [hp2]; exact hz2), hb2]
              have hpl2 : (p2 : Int) < (k : Int) := by omega
              have hp02 : (0 : Int) ≤ (p2 : Int) := by omega
              clear hz2 hp2
              cases ek1
              cases ek2
              have hgv : gateV vals kn g = (litV kn g.2.1 && litV kn g.2.2) := by unfold gateV; rw [if_neg hK1, if_pos hK2]
              rw [hlv1, hlv2] at hgv
              clear hlv1 hlv2 hK1 hK2 hF
              obtain ⟨u, hu⟩ : ∃ u, (z1 == b1) = u := ⟨_, rfl⟩
              obtain ⟨u2', hu2⟩ : ∃ u, (z2 == b2) = u := ⟨_, rfl⟩
              rw [hu, hu2] at hgv
              cases u
              case false =>
                have HX := Lib.hid (show gateV vals kn g = false by rw [hgv]; rfl)
                clear hgv
                have HKQ := Lib.hid (And.intro xk1 xk2)
                go_wp2_with fail
                go_quiet (fail)
                have y := HY.out.grown (grown_drewN wA nq none)
                obtain ⟨yy0, yy1, yy2⟩ := y
                obtain ⟨xa, xb⟩ := HKQ.out
                have xa2 := World.grownBy.cell (grown_drewN wA nq none) xa (by simp)
                have xb2 := World.grownBy.cell (grown_drewN wA nq none) xb (by simp)
                clear y0 y1 y2 xk1 xk2 xa xb
                have HOB0 := Lib.hid (own_grown HOA.out (grown_drewN wA nq none))
                have HGB0 := Lib.hid (World.grownBy.trans (World.grownBy.trans HGR.out HGA.out) (grown_drewN wA nq none))
                obtain ⟨wB, hwB⟩ : ∃ z, wA.drewN nq = z := ⟨_, rfl⟩
                rw [hwB] at HOB0 HGB0 yy0 yy1 yy2 xa2 xb2 ⊢
                clear hwB
                go_wp2_with fail
                go_quiet (fail)
                clear yy0 yy1 yy2 xa2 xb2
                have HOB := Lib.hid (own_grown HOB0.out (grown_drewN wB nq none))
                have HGB := Lib.hid (World.grownBy.trans HGB0.out (grown_drewN wB nq none))
                obtain ⟨wC, hwC⟩ : ∃ z, wB.drewN nq = z := ⟨_, rfl⟩
                rw [hwC] at HOB HGB ⊢
                clear hwC
                have HLB := Lib.hid (show W1.heap.size ≤ wC.heap.size from HGB.out.size)
                go_wp2_with (at_builtin; refine wpList_append_own_at _ rfl _ _ 49 rfl W1.heap.size 4 i0 (.bool false) 1 1 Try.underlying49 hi0 hz0 hz1 hz2 rfl (by decide) _ k (boolCells kn) rfl (HOB.out.alloc _) ⟨wC.heap.size, 0, none⟩ 1 1 [.bool false] rfl rfl (cell_one_new _ _ _) (fun u hu => by simp at hu; subst hu; rfl) (by unfold maxLen; omega) (by omega) (by have := HLB.out; simp; omega) ?_)
                intro v' w6 hown' hgrow6 _ hat6
                have haA := World.grownBy_alloc wC (.cells #[.bool false] 4) none
                obtain ⟨rgA, rcA, rfl⟩ := own_shape hown'
                have HGF := Lib.hid (grown_own (World.grownBy.trans HGB.out haA) hgrow6 (fun j e => ((HOB.out.alloc (.cells #[.bool false] 4)).lt j e).1))
                have HOF := Lib.hid (show w6.ownsRow W1.heap.size 4 1 (.slice rgA (k + 1) rcA) (k + 1) (boolCells (kn ++ [gateV vals kn g])) by rw [HX.out, boolCells, List.map_append]; exact hown')
                clear hown' hgrow6 haA hat6
                go_wp2_with fail
                go_roundg (q + 1 - (k + 1))
                case measure => rw [HI.out]; omega
                case rel => exact ⟨k + 1, rgA, rcA, rfl, rfl, rfl, by omega, by rw [HST.out]; exact HOF.out, HGF.out⟩
              case true =>
                have HX := Lib.hid (show gateV vals kn g = u2' by rw [hgv]; rfl)
                clear hgv
                have HKQ := Lib.hid (And.intro xk1 xk2)
                go_wp2_with fail
                go_quiet (fail)
                have y := HY.out.grown (grown_drewN wA nq none)
                obtain ⟨yy0, yy1, yy2⟩ := y
                obtain ⟨xa, xb⟩ := HKQ.out
                have xa2 := World.grownBy.cell (grown_drewN wA nq none) xa (by simp)
                have xb2 := World.grownBy.cell (grown_drewN wA nq none) xb (by simp)
                clear y0 y1 y2 xk1 xk2 xa xb
                have HOB0 := Lib.hid (own_grown HOA.out (grown_drewN wA nq none))
                have HGB0 := Lib.hid (World.grownBy.trans (World.grownBy.trans HGR.out HGA.out) (grown_drewN wA nq none))
                obtain ⟨wB, hwB⟩ : ∃ z, wA.drewN nq = z := ⟨_, rfl⟩
                rw [hwB] at HOB0 HGB0 yy0 yy1 yy2 xa2 xb2 ⊢
                clear hwB
                go_wp2_with fail
                go_quiet (fail)
                clear yy0 yy1 yy2 xa2 xb2
                have HOB := Lib.hid (own_grown HOB0.out (grown_drewN wB nq none))
                have HGB := Lib.hid (World.grownBy.trans HGB0.out (grown_drewN wB nq none))
                obtain ⟨wC, hwC⟩ : ∃ z, wB.drewN nq = z := ⟨_, rfl⟩
                rw [hwC] at HOB HGB ⊢
                clear hwC
                have HLB := Lib.hid (show W1.heap.size ≤ wC.heap.size from HGB.out.size)
                go_wp2_with (at_builtin; refine wpList_append_own_at _ rfl _ _ 49 rfl W1.heap.size 4 i0 (.bool false) 1 1 Try.underlying49 hi0 hz0 hz1 hz2 rfl (by decide) _ k (boolCells kn) rfl (HOB.out.alloc _) ⟨wC.heap.size, 0, none⟩ 1 1 [.bool u2'] rfl rfl (cell_one_new _ _ _) (fun u hu => by simp at hu; subst hu; rfl) (by unfold maxLen; omega) (by omega) (by have := HLB.out; simp; omega) ?_)
                intro v' w6 hown' hgrow6 _ hat6
                have haA := World.grownBy_alloc wC (.cells #[.bool u2'] 4) none
                obtain ⟨rgA, rcA, rfl⟩ := own_shape hown'
                have HGF := Lib.hid (grown_own (World.grownBy.trans HGB.out haA) hgrow6 (fun j e => ((HOB.out.alloc (.cells #[.bool u2'] 4)).lt j e).1))
                have HOF := Lib.hid (show w6.ownsRow W1.heap.size 4 1 (.slice rgA (k + 1) rcA) (k + 1) (boolCells (kn ++ [gateV vals kn g])) by rw [HX.out, boolCells, List.map_append]; exact hown')
                clear hown' hgrow6 haA hat6
                go_wp2_with fail
                go_roundg (q + 1 - (k + 1))
                case measure => rw [HI.out]; omega
                case rel => exact ⟨k + 1, rgA, rcA, rfl, rfl, rfl, by omega, by rw [HST.out]; exact HOF.out, HGF.out⟩
            · have e2 := beqF hK2
              have HX := Lib.hid (show gateV vals kn g = true by unfold gateV; rw [if_neg hK1, if_neg hK2])
              clear hK1 hK2
              have HOB := HOA
              have HLB := HLT
              have HGB := Lib.hid (World.grownBy.trans HGR.out HGA.out)
              go_wp2_with (at_builtin; refine wpList_append_own_at _ rfl _ _ 49 rfl W1.heap.size 4 i0 (.bool false) 1 1 Try.underlying49 hi0 hz0 hz1 hz2 rfl (by decide) _ k (boolCells kn) rfl (HOB.out.alloc _) ⟨wA.heap.size, 0, none⟩ 1 1 [.bool true] rfl rfl (cell_one_new _ _ _) (fun u hu => by simp at hu; subst hu; rfl) (by unfold maxLen; omega) (by omega) (by have := HLB.out; simp; omega) ?_)
              intro v' w6 hown' hgrow6 _ hat6
              have haA := World.grownBy_alloc wA (.cells #[.bool true] 4) none
              obtain ⟨rgA, rcA, rfl⟩ := own_shape hown'
              have HGF := Lib.hid (grown_own (World.grownBy.trans HGB.out haA) hgrow6 (fun j e => ((HOB.out.alloc (.cells #[.bool true] 4)).lt j e).1))
              have HOF := Lib.hid (show w6.ownsRow W1.heap.size 4 1 (.slice rgA (k + 1) rcA) (k + 1) (boolCells (kn ++ [gateV vals kn g])) by rw [HX.out, boolCells, List.map_append]; exact hown')
              clear hown' hgrow6 haA hat6
              go_wp2_with fail
              go_roundg (q + 1 - (k + 1))
              case measure => rw [HI.out]; omega
              case rel => exact ⟨k + 1, rgA, rcA, rfl, rfl, rfl, by omega, by rw [HST.out]; exact HOF.out, HGF.out⟩
        · have f1 : decide (k ≤ q) = false := decide_eq_false hkq
          have f2 : decide ((k : Int) ≤ (q : Int)) = false := decide_eq_false (by omega)
          have hkE : k = q + 1 := by omega
          obtain ⟨z, hz⟩ : ∃ z, kn[q]? = some z := ⟨_, List.getElem?_eq_getElem (by rw [HKN.out.2]; omega)⟩
          obtain ⟨bk, ok, rfl, xz⟩ := HKB.out.at hz
          have HF := Lib.hid (show evalC gs vals r = (z == q0) from by rw [HR.out.1, ← hkE, HKN.out.1, lit_eq HR.out.2.2 (by rw [HR.out.2.1]; exact hz), HQ0.out])
          have hqk : (q : Int) < (k : Int) := by omega
          have hq00 : (0 : Int) ≤ (q : Int) := by omega
          clear hkE hz hkq
          go_wp2_with fail
          go_ret
          exact ⟨by rw [HF.out]; rfl, World.grownBy.trans HG.out HGR.out⟩
end Go.Proofs.Ythdhmflodiincaa

/- Texts of the proof: CK. -/
import Derived.Test.YtihaheinkpmnnaaGreatCA30
import Derived.Deep.Cut
namespace Go.Proofs.YtihaheinkpmnnaaGreat
set_option maxRecDepth 200000
open Go.RowKit Go.Shelf Go.Maps Go.Sort
/-- What Check is asked about: the formula, the symmetries, the steps lie there, and are not too large. -/
structure InOk (w : World) (K : Kst) (l : List St) (la : Option Addr) (lc : Nat) : Prop where
  k : KOk w K
  fit : Fit K.fs 300 40
  steps : StepsW w la lc l
  ll : l.length ≤ 80
  lw : ∀ x ∈ l, x.2.1.length ≤ 12
  wf : ∀ x ∈ l, (Lit.int .i64 x.1).wf = true
theorem RowN.grown {w w' : World} {a : Option Addr} {c : Nat} {zs : List Nr} (h : RowN w a c zs) (hg : w.grownBy w' none) : RowN w' a c zs :=
  ⟨h.1, h.2.imp id fun ⟨b, o, e, hz⟩ => ⟨b, o, e, fun j z hj => hg.cell (hz j z hj) (by simp)⟩⟩
theorem BoxM.reR {w0 : World} {K : Kst} {b : Nat} {s : CkS} {N : Nat} {v : Value} {bm : Nat} {ps : List Nr} {w : World} (h : BoxM w0 K b s N v bm ps w) : BoxM w0 { K with R := w, bm := bm } b s N v bm ps w :=
  ⟨h.hp, h.low, h.mlow, h.map, h.row, h.eqs, h.ok, h.grown, fun _k _o hk _ _ => hk, rfl⟩
theorem chk_stop {F : CkS} {Y : List (List Int)} {l : List St} {k : Nat} {s : CkS} {x : St} (hx : l[k]? = some x) (hr : runP F Y F (l.take k) = (k, s)) (hs : stepP F Y s x = none) : chkP F Y l = k := by
  obtain ⟨h1, h2⟩ := List.getElem?_eq_some_iff.1 hx
  have e : l = l.take k ++ x :: l.drop (k + 1) := by
    conv => lhs; rw [← List.take_append_drop k l]
    rw [List.drop_eq_getElem_cons h1, h2]
  unfold chkP
  rw [e, run_append, hr, if_pos (by rw [List.length_take]; simp only; omega), run_cons, hs]
  simp; omega
theorem run_next {F : CkS} {Y : List (List Int)} {l : List St} {k : Nat} {s t : CkS} {x : St} (hx : l[k]? = some x) (hr : runP F Y F (l.take k) = (k, s)) (hs : stepP F Y s x = some t) : runP F Y F (l.take (k + 1)) = (k + 1, t) := by
  obtain ⟨h1, h2⟩ := List.getElem?_eq_some_iff.1 hx
  have e : l.take (k + 1) = l.take k ++ [x] := by rw [List.take_add_one, hx]; rfl
  rw [e, run_append, hr, if_pos (by rw [List.length_take]; simp only; omega), run_cons, hs]
  simp [run_nil, List.length_take]; omega
theorem res13 (tmps : Array Value) (w : World) (x y : Value) (e1 : tmps.getD 6 undef = x) (e2 : tmps.getD 7 undef = y) : (results Tryz.f13 tmps).run Tryz.prog w = .ok (.tuple #[x, y]) w := by
  have e1' : tmps[6]?.getD undef = x := by simpa using e1
  have e2' : tmps[7]?.getD undef = y := by simpa using e2
  have hr : Tryz.f13.results = #[ResultVar.tmp 6, ResultVar.tmp 7] := by kernel_rfl
  simp [results, e1', e2', go_sem]
def errC (n m : Nat) : Int := if n = m then 0 else 220
set_option maxHeartbeats 32000000 in
theorem check_calls (K : Kst) (l : List St) (la : Option Addr) (lc : Nat) (w : World) (h : InOk w K l la lc) :
    Calls Tryz.prog 13 #[.agg #[.int .i64 (K.V0 : Int), .slice K.fa K.F.length K.fc], .slice K.ya K.Y.length K.yc, .slice la l.length lc] w fun e w' =>
      e = .returned (.tuple #[.int .i64 (chkP K.fs K.Y l : Int), .int .i64 (errC (chkP K.fs K.Y l) l.length)]) ∧ w.grownBy w' none := by
  obtain ⟨n, hn⟩ : ∃ z, l.length = z := ⟨_, rfl⟩
  obtain ⟨fn, hfn⟩ : ∃ z, K.F.length = z := ⟨_, rfl⟩
  obtain ⟨yn, hyn⟩ : ∃ z, K.Y.length = z := ⟨_, rfl⟩
  obtain ⟨B0, hB0⟩ : ∃ z, w.heap.size = z := ⟨_, rfl⟩
  obtain ⟨W1, hW1⟩ : ∃ z, w.alloc (.cells #[.int .i64 (K.V0 : Int), .slice K.fa fn K.fc] 24) = z := ⟨_, rfl⟩
  have hw1 : w.grownBy W1 none ∧ W1.cell? ⟨B0, 0, none⟩ = some (.int .i64 (K.V0 : Int)) ∧ W1.cell? ⟨B0, 1, none⟩ = some (.slice K.fa fn K.fc) := by
    rw [← hW1, ← hB0]; clear hW1; exact ⟨World.grownBy_alloc _ _ none, by go_simp, by go_simp⟩
  obtain ⟨ps, hps1, hps2, hps3⟩ := cls_row h.k.f
  have hpl : ps.length = fn := by rw [← hfn, ← hps1, List.length_map]
  have HCL : Hid (∀ W, W1.grownBy W none → Calls Tryz.prog 27 #[.slice K.fa fn K.fc] W fun e w' => ∃ va vc, e = .returned (.slice va fn vc) ∧ w'.ownsRow w.heap.size 34 1 (.slice va fn vc) fn (ps.map encP) ∧ W.grownBy w' none) := Lib.hid (fun W hg => by
    have := clone27_calls ps K.fa K.fc W (hps2.grown (hw1.1.trans hg)) (by have := h.fit.len; simp only [Kst.fs] at this; omega)
    rw [hpl] at this
    exact this.mono fun e w' ⟨v, h1, h2, h3⟩ => by
      obtain ⟨va, vc, rfl⟩ := own_shape h2
      exact ⟨va, vc, h1, own_base h2 (hw1.1.trans hg).size, h3⟩)
  have HS3 : Hid (∀ W, W1.grownBy W none → w.grownBy W none ∧ W.cell? ⟨B0, 0, none⟩ = some (.int .i64 (K.V0 : Int)) ∧ W.cell? ⟨B0, 1, none⟩ = some (.slice K.fa fn K.fc)) := Lib.hid (fun W hg => ⟨hw1.1.trans hg, hg.cell hw1.2.1 (by simp), hg.cell hw1.2.2 (by simp)⟩)
  have HW1 : Hid (w.grownBy W1 none) := Lib.hid hw1.1
  have HFIN : Hid (∀ (WF WB : World) (v : Value) (b bm : Nat), W1.grownBy WF none → KnownM K WF bm 0 → WF.ownsRow w.heap.size 34 1 v fn (ps.map encP) → WF.grownBy WB none → WB.heap[b]? = some (.cells #[.int .i64 (K.V0 : Int), .slice K.fa fn K.fc, .slice K.ya yn K.yc, .map (some bm), v, .int .i64 (K.V0 : Int)] 53 (0, 0)) → WF.heap.size = b → w.heap.size ≤ bm → ∃ v, BoxM w { K with R := WB, bm := bm } b K.fs 0 v bm ps WB) := Lib.hid (fun WF WB v b bm g1 hk ho g2 hb hbb hlow => by
    refine ⟨v, ?_, by rw [← hbb]; exact (hw1.1.trans g1).size, hlow, hk.kept g2 (by simp), ?_, ?_, fun p hp => ?_, (hw1.1.trans g1).trans g2, fun k o hk _ _ => hk, rfl⟩
    · rw [hb, ← hfn, ← hyn]; rfl
    · have := own_grown ho g2
      rwa [← hfn] at this
    · exact hps1
    · exact ok3_old (hps3 p hp) ((hw1.1.trans g1).trans g2))
  have HF := Lib.hid (And.intro h (And.intro hn (And.intro hfn hyn)))
  have f1 : decide ((20000 : Int) < (n : Int)) = false := decide_eq_false (by have := h.ll; omega)
  have f1' : decide (20000 < n) = false := decide_eq_false (by have := h.ll; omega)
  have f1'' : decide ((n : Int) > 20000) = false := decide_eq_false (by have := h.ll; omega)
  have hdr : W1.grownBy W1.drew none := grown_drew W1 none
  have hmm := @run_makeMap Tryz.prog
  have HRES := Lib.hid res13
  rw [hn]
  simp only [hfn, hyn]
  clear h hn hfn hyn hw1 hps1 hps2 hps3 hpl
  go_enter Tryz.func13, Tryz.ntmps13
  go_upto_region 3 with fail
  clear hW1 hB0
  go_cut [8] (fun s8 wx => ∃ b bm v, s8 = .pointer (some ⟨b, 0, none⟩) ∧ BoxM w { K with R := wx, bm := bm } b K.fs 0 v bm ps wx)
  case first =>
    refine wp_region_gone_drew (S := (fun Wh : World => w.grownBy Wh none ∧ Wh.cell? ⟨B0, 0, none⟩ = some (.int .i64 (K.V0 : Int)) ∧ Wh.cell? ⟨B0, 1, none⟩ = some (.slice K.fa fn K.fc))) (T := (fun _ => True)) (m := 999) (by kernel_rfl) ⟨HS3.out _ hdr, trivial⟩ (fun hHeld => ?_)
    refine wpAnyG_take (i := 0) (oi := { dst := some 17, op := Op.load 24 (Operand.tmp 3), type := 24, pos := "checker.go:36", after := #[], guard := none }) (v := ?_) rfl (by decide) (by kernel_rfl) (by kernel_rfl) (by kernel_rfl) (fun _ _ _ h => h) (Or.inl ⟨by rfl, ?_⟩) (by assumption) ?_
    rotate_left 1
    · (intro W hSW; (try dsimp only at hSW); obtain ⟨z0, z1, z2⟩ := hSW; first | (go_simp; done) | (go_simp; with_reducible rfl))
    try simp only [Act.put, List.setIfInBounds_toArray, List.set_cons_zero, List.set_cons_succ]
    refine wpAnyG_take (i := 1) (oi := { dst := some 18, op := Op.move (Operand.tmp 1), type := 22, pos := "checker.go:36", after := #[], guard := none }) (v := ?_) rfl (by decide) (by kernel_rfl) (by kernel_rfl) (by kernel_rfl) (fun _ _ _ h => h) (Or.inl ⟨by rfl, ?_⟩) (by assumption) ?_
    rotate_left 1
    · (intro W hSW; (try dsimp only at hSW); obtain ⟨z0, z1, z2⟩ := hSW; first | (go_simp; done) | (go_simp; with_reducible rfl))
    try simp only [Act.put, List.setIfInBounds_toArray, List.set_cons_zero, List.set_cons_succ]
    refine wpAnyG_take (i := 3) (oi := { dst := some 20, op := Op.fieldAddr 24 (Operand.tmp 3) 1, type := 0, pos := "checker.go:36", after := #[], guard := none }) (v := ?_) rfl (by decide) (by kernel_rfl) (by kernel_rfl) (by kernel_rfl) (fun _ _ _ h => h) (Or.inl ⟨by rfl, ?_⟩) (by assumption) ?_
    rotate_left 1
    · (intro W hSW; (try dsimp only at hSW); obtain ⟨z0, z1, z2⟩ := hSW; first | (go_simp; done) | (go_simp; with_reducible rfl))
    try simp only [Act.put, List.setIfInBounds_toArray, List.set_cons_zero, List.set_cons_succ]
    refine wpAnyG_take (i := 4) (oi := { dst := some 21, op := Op.load 22 (Operand.tmp 20), type := 22, pos := "checker.go:36", after := #[{ on := 3, ground := Ground.data }], guard := none }) (v := ?_) rfl (by decide) (by kernel_rfl) (by kernel_rfl) (by kernel_rfl) (fun _ _ _ h => h) (Or.inl ⟨by rfl, ?_⟩) (by assumption) ?_
    rotate_left 1
    · (intro W hSW; (try dsimp only at hSW); obtain ⟨z0, z1, z2⟩ := hSW; first | (go_simp; done) | (go_simp; with_reducible rfl))
    try simp only [Act.put, List.setIfInBounds_toArray, List.set_cons_zero, List.set_cons_succ]
    refine wpAnyG_take (i := 6) (oi := { dst := some 23, op := Op.fieldAddr 24 (Operand.tmp 3) 0, type := 0, pos := "checker.go:36", after := #[], guard := none }) (v := ?_) rfl (by decide) (by kernel_rfl) (by kernel_rfl) (by kernel_rfl) (fun _ _ _ h => h) (Or.inl ⟨by rfl, ?_⟩) (by assumption) ?_
    rotate_left 1
    · (intro W hSW; (try dsimp only at hSW); obtain ⟨z0, z1, z2⟩ := hSW; first | (go_simp; done) | (go_simp; with_reducible rfl))
    try simp only [Act.put, List.setIfInBounds_toArray, List.set_cons_zero, List.set_cons_succ]
    refine wpAnyG_take (i := 7) (oi := { dst := some 24, op := Op.load 3 (Operand.tmp 23), type := 3, pos := "checker.go:36", after := #[{ on := 6, ground := Ground.data }], guard := none }) (v := ?_) rfl (by decide) (by kernel_rfl) (by kernel_rfl) (by kernel_rfl) (fun _ _ _ h => h) (Or.inl ⟨by rfl, ?_⟩) (by assumption) ?_
    rotate_left 1
    · (intro W hSW; (try dsimp only at hSW); obtain ⟨z0, z1, z2⟩ := hSW; first | (go_simp; done) | (go_simp; with_reducible rfl))
    try simp only [Act.put, List.setIfInBounds_toArray, List.set_cons_zero, List.set_cons_succ]
    refine wpAnyG_ready (rs := [2, 5]) (by kernel_rfl) (by simp) ?_
    refine (AllReadyG.cons (o := { dst := some 19, op := Op.makeMap 50 none, type := 50, pos := "checker.go:36", after := #[], guard := none }) rfl (fun KK hK => ?_) (AllReadyG.cons (o := { dst := some 22, op := Op.call { callee := Callee.value (Operand.func 27), args := #[Operand.tmp 21], argTypes := #[22] }, type := 22, pos := "checker.go:36", after := #[{ on := 4, ground := Ground.data }], guard := none }) rfl (fun KK hK => ?_) AllReadyG.nil))
    · skip
      rw [if_pos (by rfl)]
      go_simp
      have hgm : W1.grownBy ((World.alloc W1 (.map #[] 0)).drew) none := (World.grownBy_alloc W1 (.map #[] 0) none).trans (grown_drew _ _)
      have hkn : KnownM K ((World.alloc W1 (.map #[] 0)).drew) W1.heap.size 0 := (KnownM.new K W1).kept (grown_drew _ none) (by simp)
      obtain ⟨WM, hWM⟩ : ∃ z, (World.alloc W1 (.map #[] 0)).drew = z := ⟨_, rfl⟩
      obtain ⟨bm, hbm⟩ : ∃ z, W1.heap.size = z := ⟨_, rfl⟩
      rw [hWM] at hgm hkn
      rw [hbm] at hkn
      rw [hWM]
      try rw [hbm]
      have hblow : w.heap.size ≤ bm := by rw [← hbm]; exact HW1.out.size
      refine hK.out _ _ ⟨HS3.out _ hgm, .inr trivial⟩ (fun hHeld => ?_)
      clear hK KK
      try simp only [Act.put, List.setIfInBounds_toArray, List.set_cons_zero, List.set_cons_succ]
      refine wpAnyG_ready (rs := [5]) (by kernel_rfl) (by simp) ?_
      refine (AllReadyG.cons (o := { dst := some 22, op := Op.call { callee := Callee.value (Operand.func 27), args := #[Operand.tmp 21], argTypes := #[22] }, type := 22, pos := "checker.go:36", after := #[{ on := 4, ground := Ground.data }], guard := none }) rfl (fun KK hK => ?_) AllReadyG.nil)
      rw [if_pos (by rfl)]
      go_simp
      go_at_call 27
      refine (HCL.out _ hgm).mono ?_
      rintro e w6 ⟨va, vc, rfl, hown, gc⟩
      have hgc := hgm.trans gc
      have hkn := hkn.kept gc (by simp)
      go_wp2_with fail
      refine hK.out _ _ ⟨HS3.out _ hgc, .inr trivial⟩ (fun hHeld => ?_)
      have hgF := hgc
      clear hK KK
      try simp only [Act.put, List.setIfInBounds_toArray, List.set_cons_zero, List.set_cons_succ]
      refine wpAnyG_take (i := 8) (oi := { dst := some 25, op := Op.build 53 #[(0, Operand.tmp 17), (1, Operand.tmp 18), (2, Operand.tmp 19), (3, Operand.tmp 22), (4, Operand.tmp 24)], type := 53, pos := "checker.go:36", after := #[{ on := 0, ground := Ground.data }, { on := 1, ground := Ground.data }, { on := 2, ground := Ground.data }, { on := 5, ground := Ground.data }, { on := 7, ground := Ground.data }], guard := none }) (v := ?_) rfl (by decide) (by kernel_rfl) (by kernel_rfl) (by kernel_rfl) (fun _ _ _ h => h) (Or.inl ⟨by rfl, ?_⟩) (by assumption) ?_
      rotate_left 1
      · (intro W hSW; (try dsimp only at hSW); obtain ⟨z0, z1, z2⟩ := hSW; first | (go_simp; done) | (go_simp; with_reducible rfl))
      try simp only [Act.put, List.setIfInBounds_toArray, List.set_cons_zero, List.set_cons_succ]
      refine wpAnyG_ready (rs := [9]) (by kernel_rfl) (by simp) ?_
      refine (AllReadyG.cons (o := { dst := some 26, op := Op.box 53 (Operand.tmp 25), type := 49, pos := "checker.go:36", after := #[{ on := 8, ground := Ground.data }], guard := none }) rfl (fun KK hK => ?_) AllReadyG.nil)
      rw [if_pos (by rfl)]
      go_simp
      have hgb := World.grownBy_alloc w6 (.cells #[.int .i64 (K.V0 : Int), .slice K.fa fn K.fc, .slice K.ya yn K.yc, .map (some bm), .slice va fn vc, .int .i64 (K.V0 : Int)] 53) none
      have hnb := World.alloc_heap_new w6 (.cells #[.int .i64 (K.V0 : Int), .slice K.fa fn K.fc, .slice K.ya yn K.yc, .map (some bm), .slice va fn vc, .int .i64 (K.V0 : Int)] 53)
      obtain ⟨WB, hWB⟩ : ∃ z, w6.alloc (.cells #[.int .i64 (K.V0 : Int), .slice K.fa fn K.fc, .slice K.ya yn K.yc, .map (some bm), .slice va fn vc, .int .i64 (K.V0 : Int)] 53) = z := ⟨_, rfl⟩
      obtain ⟨b, hb⟩ : ∃ z, w6.heap.size = z := ⟨_, rfl⟩
      rw [hWB] at hgb hnb
      rw [hb] at hnb
      rw [hWB]
      try rw [hb]
      refine hK.out _ _ ⟨HS3.out _ (hgF.trans hgb), .inr trivial⟩ (fun hHeld => ?_)
      clear hK KK
      try simp only [Act.put, List.setIfInBounds_toArray, List.set_cons_zero, List.set_cons_succ]
      refine wpAnyG_take (i := 10) (oi := { dst := some 8, op := Op.assign (Operand.tmp 26), type := 49, pos := "checker.go:36", after := #[{ on := 9, ground := Ground.data }, { on := 5, ground := Ground.chain }, { on := 0, ground := Ground.phase }, { on := 1, ground := Ground.phase }, { on := 2, ground := Ground.phase }, { on := 3, ground := Ground.phase }, { on := 4, ground := Ground.phase }, { on := 5, ground := Ground.phase }, { on := 6, ground := Ground.phase }, { on := 7, ground := Ground.phase }, { on := 8, ground := Ground.phase }, { on := 9, ground := Ground.phase }], guard := none }) (v := ?_) rfl (by decide) (by kernel_rfl) (by kernel_rfl) (by kernel_rfl) (fun _ _ _ h => h) (Or.inl ⟨by rfl, ?_⟩) (by assumption) ?_
      rotate_left 1
      · (intro W hSW; (try dsimp only at hSW); obtain ⟨z0, z1, z2⟩ := hSW; first | (go_simp; done) | (go_simp; with_reducible rfl))
      try simp only [Act.put, List.setIfInBounds_toArray, List.set_cons_zero, List.set_cons_succ]
      refine wpAnyG_done (by kernel_rfl) ?_ _
      clear hHeld
      go_wp2_with fail
      go_meet
      obtain ⟨v2, hv2⟩ := HFIN.out w6 WB _ b bm hgF hkn hown hgb hnb hb hblow
      exact ⟨b, bm, v2, rfl, hv2⟩
    · skip
      rw [if_pos (by rfl)]
      go_simp
      go_at_call 27
      refine (HCL.out _ hdr).mono ?_
      rintro e w6 ⟨va, vc, rfl, hown, gc⟩
      have hgc := hdr.trans gc
      go_wp2_with fail
      refine hK.out _ _ ⟨HS3.out _ hgc, .inr trivial⟩ (fun hHeld => ?_)
      clear hK KK
      try simp only [Act.put, List.setIfInBounds_toArray, List.set_cons_zero, List.set_cons_succ]
      refine wpAnyG_ready (rs := [2]) (by kernel_rfl) (by simp) ?_
      refine (AllReadyG.cons (o := { dst := some 19, op := Op.makeMap 50 none, type := 50, pos := "checker.go:36", after := #[], guard := none }) rfl (fun KK hK => ?_) AllReadyG.nil)
      rw [if_pos (by rfl)]
      go_simp
      have hgm := World.grownBy_alloc w6 (.map #[] 0) none
      have hkn := KnownM.new K w6
      obtain ⟨WM, hWM⟩ : ∃ z, w6.alloc (.map #[] 0) = z := ⟨_, rfl⟩
      obtain ⟨bm, hbm⟩ : ∃ z, w6.heap.size = z := ⟨_, rfl⟩
      rw [hWM, hbm] at hkn
      rw [hWM] at hgm
      rw [hWM]
      try rw [hbm]
      have hblow : w.heap.size ≤ bm := by rw [← hbm]; exact (HW1.out.trans hgc).size
      have hown := own_grown hown hgm
      refine hK.out _ _ ⟨HS3.out _ ((hgc).trans hgm), .inr trivial⟩ (fun hHeld => ?_)
      have hgF := hgc.trans hgm
      clear hK KK
      try simp only [Act.put, List.setIfInBounds_toArray, List.set_cons_zero, List.set_cons_succ]
      refine wpAnyG_take (i := 8) (oi := { dst := some 25, op := Op.build 53 #[(0, Operand.tmp 17), (1, Operand.tmp 18), (2, Operand.tmp 19), (3, Operand.tmp 22), (4, Operand.tmp 24)], type := 53, pos := "checker.go:36", after := #[{ on := 0, ground := Ground.data }, { on := 1, ground := Ground.data }, { on := 2, ground := Ground.data }, { on := 5, ground := Ground.data }, { on := 7, ground := Ground.data }], guard := none }) (v := ?_) rfl (by decide) (by kernel_rfl) (by kernel_rfl) (by kernel_rfl) (fun _ _ _ h => h) (Or.inl ⟨by rfl, ?_⟩) (by assumption) ?_
      rotate_left 1
      · (intro W hSW; (try dsimp only at hSW); obtain ⟨z0, z1, z2⟩ := hSW; first | (go_simp; done) | (go_simp; with_reducible rfl))
      try simp only [Act.put, List.setIfInBounds_toArray, List.set_cons_zero, List.set_cons_succ]
      refine wpAnyG_ready (rs := [9]) (by kernel_rfl) (by simp) ?_
      refine (AllReadyG.cons (o := { dst := some 26, op := Op.box 53 (Operand.tmp 25), type := 49, pos := "checker.go:36", after := #[{ on := 8, ground := Ground.data }], guard := none }) rfl (fun KK hK => ?_) AllReadyG.nil)
      rw [if_pos (by rfl)]
      go_simp
      have hgb := World.grownBy_alloc WM (.cells #[.int .i64 (K.V0 : Int), .slice K.fa fn K.fc, .slice K.ya yn K.yc, .map (some bm), .slice va fn vc, .int .i64 (K.V0 : Int)] 53) none
      have hnb := World.alloc_heap_new WM (.cells #[.int .i64 (K.V0 : Int), .slice K.fa fn K.fc, .slice K.ya yn K.yc, .map (some bm), .slice va fn vc, .int .i64 (K.V0 : Int)] 53)
      obtain ⟨WB, hWB⟩ : ∃ z, WM.alloc (.cells #[.int .i64 (K.V0 : Int), .slice K.fa fn K.fc, .slice K.ya yn K.yc, .map (some bm), .slice va fn vc, .int .i64 (K.V0 : Int)] 53) = z := ⟨_, rfl⟩
      obtain ⟨b, hb⟩ : ∃ z, WM.heap.size = z := ⟨_, rfl⟩
      rw [hWB] at hgb hnb
      rw [hb] at hnb
      rw [hWB]
      try rw [hb]
      refine hK.out _ _ ⟨HS3.out _ (hgF.trans hgb), .inr trivial⟩ (fun hHeld => ?_)
      clear hK KK
      try simp only [Act.put, List.setIfInBounds_toArray, List.set_cons_zero, List.set_cons_succ]
      refine wpAnyG_take (i := 10) (oi := { dst := some 8, op := Op.assign (Operand.tmp 26), type := 49, pos := "checker.go:36", after := #[{ on := 9, ground := Ground.data }, { on := 5, ground := Ground.chain }, { on := 0, ground := Ground.phase }, { on := 1, ground := Ground.phase }, { on := 2, ground := Ground.phase }, { on := 3, ground := Ground.phase }, { on := 4, ground := Ground.phase }, { on := 5, ground := Ground.phase }, { on := 6, ground := Ground.phase }, { on := 7, ground := Ground.phase }, { on := 8, ground := Ground.phase }, { on := 9, ground := Ground.phase }], guard := none }) (v := ?_) rfl (by decide) (by kernel_rfl) (by kernel_rfl) (by kernel_rfl) (fun _ _ _ h => h) (Or.inl ⟨by rfl, ?_⟩) (by assumption) ?_
      rotate_left 1
      · (intro W hSW; (try dsimp only at hSW); obtain ⟨z0, z1, z2⟩ := hSW; first | (go_simp; done) | (go_simp; with_reducible rfl))
      try simp only [Act.put, List.setIfInBounds_toArray, List.set_cons_zero, List.set_cons_succ]
      refine wpAnyG_done (by kernel_rfl) ?_ _
      clear hHeld
      go_wp2_with fail
      go_meet
      obtain ⟨v2, hv2⟩ := HFIN.out WM WB _ b bm hgF hkn hown hgb hnb hb hblow
      exact ⟨b, bm, v2, rfl, hv2⟩
  case rest =>
    obtain ⟨b, bm, v, rfl, hB⟩ := hcut
    obtain ⟨w4, hw4⟩ : ∃ z, z = wc := ⟨_, rfl⟩
    rw [← hw4] at hB ⊢
    clear hw4
    have HB4 := Lib.hid hB
    clear hB hdr
    go_wp2_with fail
    refine (rules_calls w4).mono ?_
    rintro e w5 ⟨bt, rfl, hrul, hlt, g5⟩
    have HR5 := Lib.hid hrul
    have HBT : Hid (bt ≠ bm) := Lib.hid (fun e => by have := HB4.out.map.lt; omega)
    have hB5 := (HB4.out.later g5).reR
    obtain ⟨Q, hQ⟩ : ∃ Q : Kst, ({ K with R := w5, bm := bm } : Kst) = Q := ⟨_, rfl⟩
    have HQ : Hid (Q.fs = K.fs ∧ Q.Y = K.Y ∧ Q.R = w5 ∧ Q.bm = bm ∧ KOk w Q) := Lib.hid (by
      rw [← hQ]; exact ⟨rfl, rfl, rfl, rfl, HF.out.1.k.f, HF.out.1.k.y, HF.out.1.k.V, HF.out.1.k.fl, HF.out.1.k.fw, HF.out.1.k.yl, HF.out.1.k.yw⟩)
    have HB5 : Hid (StM w Q b K.fs 0 w5) := Lib.hid (by rw [← hQ]; exact ⟨v, bm, ps, hB5⟩)
    clear hrul g5 hB5 hQ HB4 hlt hmm
    go_wp2_with fail
    go_loopg [10, 11, 12, 13, 30] n (fun gk _s10 _s11 _s12 _s13 s30 wr => ∃ (k : Nat) (s : CkS), s30 = .int .i64 (k : Int) ∧ gk = n - k ∧ k ≤ n ∧ StM w Q b s k wr ∧ runP K.fs K.Y K.fs (l.take k) = (k, s) ∧ Fit s (300 + k) (40 + 12 * k))
    case atStart => exact ⟨0, K.fs, rfl, rfl, by omega, HB5.out, rfl, HF.out.1.fit⟩
    case round =>
      obtain ⟨k, s, rfl, hgk, hk, hst, hrun, hfit⟩ := hrel
      have HI := Lib.hid (And.intro hgk (And.intro hst (And.intro hrun hfit)))
      clear hgk hst hrun hfit
      by_cases hkn : k < n
      · have f2 : decide ((k : Int) < (n : Int)) = true := decide_eq_true (by omega)
        have f2' : decide (k < n) = true := decide_eq_true hkn
        have i0 : (0 : Int) ≤ (k : Int) := by omega
        have i1 : (k : Int) < (n : Int) := by omega
        have k1 : IntKind.i64.wrap ((k : Int) + 1) = (k : Int) + 1 := IntWalk.i64_in _ (by have := HF.out.1.ll; have := HF.out.2.1; omega)
        obtain ⟨x, hx⟩ : ∃ z, l[k]? = some z := ⟨_, List.getElem?_eq_getElem (by rw [HF.out.2.1]; exact hkn)⟩
        have hxm := List.mem_of_getElem? hx
        have hwr := HI.out.2.1.grown
        obtain ⟨sb, so, rfl, x0, ⟨sa, sc, x1, xi⟩, x2⟩ := (HF.out.1.steps.grown hwr).2 k x hx
        obtain ⟨kd, L, sy⟩ := x
        simp only at x0 x1 x2 xi
        obtain ⟨sn, hsn⟩ : ∃ z, L.length = z := ⟨_, rfl⟩
        rw [hsn] at x1
        have HX := Lib.hid (And.intro hx (And.intro hxm hsn))
        obtain ⟨v9, bm9, ps9, hB9⟩ := HI.out.2.1
        have hbm9 : bm9 = bm := hB9.hbm.trans HQ.out.2.2.2.1
        obtain ⟨bx, hbx⟩ : ∃ z, wr.heap.size = z := ⟨_, rfl⟩
        obtain ⟨W6, hW6⟩ : ∃ z, wr.alloc (.cells #[.int .i64 kd, .slice sa sn sc, .int .i64 sy] 46) = z := ⟨_, rfl⟩
        have hw6 : wr.grownBy W6 none ∧ W6.heap[bx]? = some (.cells #[.int .i64 kd, .slice sa sn sc, .int .i64 sy] 46 (0, 0)) := by
          rw [← hW6, ← hbx]; exact ⟨World.grownBy_alloc _ _ none, World.alloc_heap_new wr _⟩
        have hlk := (StM.rules (hB9.later hw6.1) (by rw [HQ.out.2.2.1]; exact HR5.out) (by rw [hbm9]; exact HBT.out)).look (HF.out.1.wf _ hxm)
        simp only at hlk
        have HT9 : Hid (∀ W, W6.grownBy W none → W.cell? ⟨b, 5, none⟩ = some (.int .i64 (s.1 : Int)) ∧ W.cell? ⟨bx, 0, none⟩ = some (.int .i64 kd) ∧ W.cell? ⟨bx, 1, none⟩ = some (.slice sa sn sc) ∧ W.cell? ⟨bx, 2, none⟩ = some (.int .i64 sy)) := Lib.hid (fun W hg =>
          ⟨(hB9.later (hw6.1.trans hg)).cells.2.2.2.2.2.1, hg.cell (by simp [World.cell?, hw6.2]) (by simp), hg.cell (by simp [World.cell?, hw6.2]) (by simp), hg.cell (by simp [World.cell?, hw6.2]) (by simp)⟩)
        have HINT : Hid (IntsW w sa sc L) := Lib.hid (by
          obtain ⟨sb', so', e', y0, ⟨sa', sc', y1, yi⟩, y2⟩ := HF.out.1.steps.2 k (kd, L, sy) hx
          cases e'
          simp only at y1 yi
          have := hwr.cell y1 (by simp)
          rw [x1] at this
          cases this
          exact yi)
        have HFINE : Hid (Fine w s k (kd, L, sy) sa sc) := Lib.hid (by
          have hl80 := HF.out.1.ll
          have hll := HF.out.2.1
          exact ⟨HINT.out, HF.out.1.lw _ hxm, HI.out.2.2.2.le (by omega) (by omega), by omega⟩)
        have hdr9 : W6.grownBy W6.drew none := grown_drew W6 none
        have HSTOP : Hid (stepP K.fs K.Y s (kd, L, sy) = none → chkP K.fs K.Y l = k ∧ errC (chkP K.fs K.Y l) n = 220) := Lib.hid (fun hs => by
          have := chk_stop hx HI.out.2.2.1 hs
          exact ⟨this, by rw [this]; unfold errC; rw [if_neg (by omega)]⟩)
        have HGW6 : Hid (w.grownBy W6 none) := Lib.hid (hwr.trans hw6.1)
        have HW6 := Lib.hid (And.intro hw6 hB9)
        clear hw6 hB9 hx hxm hsn xi hbm9
        obtain ⟨t5, t0, t1, t2⟩ := HT9.out W6 (grown_refl _ _)
        by_cases hk5 : ¬ (kd = 1 ∨ kd = 2 ∨ kd = 3 ∨ kd = 4)
        · rw [if_neg (by omega), if_neg (by omega), if_neg (by omega), if_neg (by omega), decide_eq_false hk5] at hlk
          have HR := Lib.hid (HSTOP.out (by
            unfold stepP
            rw [if_neg]
            intro hw
            have := wf_kind hw
            simp only at this
            omega))
          clear hk5
          go_wp2_with fail
          clear hW6 hbx hlk x0 x1 x2 t0 t1 t2 t5
          refine wp_region_gone_drew (S := (fun _ => True)) (T := (fun _ => True)) (m := 999) (by kernel_rfl) ⟨trivial, trivial⟩ (fun hHeld => ?_)
          refine wpAnyG_take (i := 0) (oi := { dst := some 42, op := Op.move (Operand.tmp 13), type := 4, pos := "checker.go:40", after := #[], guard := none }) (v := ?_) rfl (by decide) (by kernel_rfl) (by kernel_rfl) (by kernel_rfl) (fun _ _ _ h => h) (Or.inl ⟨by rfl, ?_⟩) (by assumption) ?_
          rotate_left 1
          · (intro W hSW; (try dsimp only at hSW); first | (go_simp; done) | (go_simp; with_reducible rfl) | (obtain ⟨_, z0, z1, z2, z3⟩ := hSW; go_simp; done) | (obtain ⟨_, z0, z1, z2, z3⟩ := hSW; go_simp; with_reducible rfl))
          try simp only [Act.put, List.setIfInBounds_toArray, List.set_cons_zero, List.set_cons_succ]
          refine wpAnyG_take (i := 1) (oi := { dst := some 43, op := Op.unOp UnOp.not 4 (Operand.tmp 42), type := 4, pos := "checker.go:40", after := #[{ on := 0, ground := Ground.data }], guard := none }) (v := ?_) rfl (by decide) (by kernel_rfl) (by kernel_rfl) (by kernel_rfl) (fun _ _ _ h => h) (Or.inl ⟨by rfl, ?_⟩) (by assumption) ?_
          rotate_left 1
          · (intro W hSW; (try dsimp only at hSW); first | (go_simp; done) | (go_simp; with_reducible rfl) | (obtain ⟨_, z0, z1, z2, z3⟩ := hSW; go_simp; done) | (obtain ⟨_, z0, z1, z2, z3⟩ := hSW; go_simp; with_reducible rfl))
          try simp only [Act.put, List.setIfInBounds_toArray, List.set_cons_zero, List.set_cons_succ]
          refine wpAnyG_take (i := 2) (oi := { dst := some 44, op := Op.move (Operand.tmp 43), type := 4, pos := "checker.go:40", after := #[{ on := 1, ground := Ground.data }], guard := none }) (v := ?_) rfl (by decide) (by kernel_rfl) (by kernel_rfl) (by kernel_rfl) (fun _ _ _ h => h) (Or.inl ⟨by rfl, ?_⟩) (by assumption) ?_
          rotate_left 1
          · (intro W hSW; (try dsimp only at hSW); first | (go_simp; done) | (go_simp; with_reducible rfl) | (obtain ⟨_, z0, z1, z2, z3⟩ := hSW; go_simp; done) | (obtain ⟨_, z0, z1, z2, z3⟩ := hSW; go_simp; with_reducible rfl))
          try simp only [Act.put, List.setIfInBounds_toArray, List.set_cons_zero, List.set_cons_succ]
          refine wpAnyG_take (i := 3) (oi := { dst := some 45, op := Op.move (Operand.tmp 8), type := 49, pos := "checker.go:40", after := #[{ on := 2, ground := Ground.guard }], guard := some (2, false) }) (v := undef) rfl (by decide) (by kernel_rfl) (by kernel_rfl) (by kernel_rfl) (fun _ _ _ h => h) (Or.inr ⟨by rfl, rfl⟩) (by assumption) ?_
          try simp only [Act.put, List.setIfInBounds_toArray, List.set_cons_zero, List.set_cons_succ]
          refine wpAnyG_take (i := 4) (oi := { dst := some 46, op := Op.nilCheck (Operand.tmp 45), type := 0, pos := "checker.go:40", after := #[{ on := 3, ground := Ground.data }, { on := 2, ground := Ground.guard }], guard := some (2, false) }) (v := undef) rfl (by decide) (by kernel_rfl) (by kernel_rfl) (by kernel_rfl) (fun _ _ _ h => h) (Or.inr ⟨by rfl, rfl⟩) (by assumption) ?_
          try simp only [Act.put, List.setIfInBounds_toArray, List.set_cons_zero, List.set_cons_succ]
          refine wpAnyG_take (i := 5) (oi := { dst := some 47, op := Op.fieldAddr 53 (Operand.tmp 46) 4, type := 0, pos := "checker.go:40", after := #[{ on := 4, ground := Ground.data }, { on := 2, ground := Ground.guard }], guard := some (2, false) }) (v := undef) rfl (by decide) (by kernel_rfl) (by kernel_rfl) (by kernel_rfl) (fun _ _ _ h => h) (Or.inr ⟨by rfl, rfl⟩) (by assumption) ?_
          try simp only [Act.put, List.setIfInBounds_toArray, List.set_cons_zero, List.set_cons_succ]
          refine wpAnyG_take (i := 6) (oi := { dst := some 48, op := Op.load 3 (Operand.tmp 47), type := 3, pos := "checker.go:40", after := #[{ on := 5, ground := Ground.data }, { on := 2, ground := Ground.guard }], guard := some (2, false) }) (v := undef) rfl (by decide) (by kernel_rfl) (by kernel_rfl) (by kernel_rfl) (fun _ _ _ h => h) (Or.inr ⟨by rfl, rfl⟩) (by assumption) ?_
          try simp only [Act.put, List.setIfInBounds_toArray, List.set_cons_zero, List.set_cons_succ]
          refine wpAnyG_take (i := 7) (oi := { dst := some 49, op := Op.load 46 (Operand.tmp 11), type := 46, pos := "checker.go:40", after := #[{ on := 2, ground := Ground.guard }], guard := some (2, false) }) (v := undef) rfl (by decide) (by kernel_rfl) (by kernel_rfl) (by kernel_rfl) (fun _ _ _ h => h) (Or.inr ⟨by rfl, rfl⟩) (by assumption) ?_
          try simp only [Act.put, List.setIfInBounds_toArray, List.set_cons_zero, List.set_cons_succ]
          refine wpAnyG_take (i := 8) (oi := { dst := some 50, op := Op.call { callee := Callee.value (Operand.func 29), args := #[Operand.tmp 48, Operand.tmp 49], argTypes := #[3, 46] }, type := 4, pos := "checker.go:40", after := #[{ on := 6, ground := Ground.data }, { on := 7, ground := Ground.data }, { on := 2, ground := Ground.chain }, { on := 2, ground := Ground.guard }], guard := some (2, false) }) (v := undef) rfl (by decide) (by kernel_rfl) (by kernel_rfl) (by kernel_rfl) (fun _ _ _ h => h) (Or.inr ⟨by rfl, rfl⟩) (by assumption) ?_
          try simp only [Act.put, List.setIfInBounds_toArray, List.set_cons_zero, List.set_cons_succ]
          refine wpAnyG_take (i := 9) (oi := { dst := some 51, op := Op.unOp UnOp.not 4 (Operand.tmp 50), type := 4, pos := "checker.go:40", after := #[{ on := 8, ground := Ground.data }, { on := 2, ground := Ground.guard }], guard := some (2, false) }) (v := undef) rfl (by decide) (by kernel_rfl) (by kernel_rfl) (by kernel_rfl) (fun _ _ _ h => h) (Or.inr ⟨by rfl, rfl⟩) (by assumption) ?_
          try simp only [Act.put, List.setIfInBounds_toArray, List.set_cons_zero, List.set_cons_succ]
          refine wpAnyG_take (i := 10) (oi := { dst := some 52, op := Op.pick (Operand.tmp 44) (Operand.const (Value.bool true)) (Operand.tmp 51), type := 4, pos := "checker.go:40", after := #[{ on := 2, ground := Ground.data }, { on := 9, ground := Ground.data }], guard := none }) (v := ?_) rfl (by decide) (by kernel_rfl) (by kernel_rfl) (by kernel_rfl) (fun _ _ _ h => h) (Or.inl ⟨by rfl, ?_⟩) (by assumption) ?_
          rotate_left 1
          · (intro W hSW; (try dsimp only at hSW); first | (go_simp; done) | (go_simp; with_reducible rfl) | (obtain ⟨_, z0, z1, z2, z3⟩ := hSW; go_simp; done) | (obtain ⟨_, z0, z1, z2, z3⟩ := hSW; go_simp; with_reducible rfl))
          try simp only [Act.put, List.setIfInBounds_toArray, List.set_cons_zero, List.set_cons_succ]
          refine wpAnyG_take (i := 11) (oi := { dst := some 53, op := Op.move (Operand.tmp 52), type := 4, pos := "checker.go:40", after := #[{ on := 10, ground := Ground.data }, { on := 8, ground := Ground.chain }], guard := none }) (v := ?_) rfl (by decide) (by kernel_rfl) (by kernel_rfl) (by kernel_rfl) (fun _ _ _ h => h) (Or.inl ⟨by rfl, ?_⟩) (by assumption) ?_
          rotate_left 1
          · (intro W hSW; (try dsimp only at hSW); first | (go_simp; done) | (go_simp; with_reducible rfl) | (obtain ⟨_, z0, z1, z2, z3⟩ := hSW; go_simp; done) | (obtain ⟨_, z0, z1, z2, z3⟩ := hSW; go_simp; with_reducible rfl))
          try simp only [Act.put, List.setIfInBounds_toArray, List.set_cons_zero, List.set_cons_succ]
          refine wpAnyG_take (i := 12) (oi := { dst := some 54, op := Op.move (Operand.tmp 12), type := 56, pos := "checker.go:40", after := #[{ on := 11, ground := Ground.guard }], guard := some (11, false) }) (v := undef) rfl (by decide) (by kernel_rfl) (by kernel_rfl) (by kernel_rfl) (fun _ _ _ h => h) (Or.inr ⟨by rfl, rfl⟩) (by assumption) ?_
          try simp only [Act.put, List.setIfInBounds_toArray, List.set_cons_zero, List.set_cons_succ]
          refine wpAnyG_take (i := 13) (oi := { dst := some 55, op := Op.move (Operand.tmp 8), type := 49, pos := "checker.go:40", after := #[{ on := 11, ground := Ground.guard }], guard := some (11, false) }) (v := undef) rfl (by decide) (by kernel_rfl) (by kernel_rfl) (by kernel_rfl) (fun _ _ _ h => h) (Or.inr ⟨by rfl, rfl⟩) (by assumption) ?_
          try simp only [Act.put, List.setIfInBounds_toArray, List.set_cons_zero, List.set_cons_succ]
          refine wpAnyG_take (i := 14) (oi := { dst := some 56, op := Op.load 46 (Operand.tmp 11), type := 46, pos := "checker.go:40", after := #[{ on := 11, ground := Ground.guard }], guard := some (11, false) }) (v := undef) rfl (by decide) (by kernel_rfl) (by kernel_rfl) (by kernel_rfl) (fun _ _ _ h => h) (Or.inr ⟨by rfl, rfl⟩) (by assumption) ?_
          try simp only [Act.put, List.setIfInBounds_toArray, List.set_cons_zero, List.set_cons_succ]
          refine wpAnyG_take (i := 15) (oi := { dst := some 57, op := Op.call { callee := Callee.value (Operand.tmp 54), args := #[Operand.tmp 55, Operand.tmp 56], argTypes := #[49, 46] }, type := 4, pos := "checker.go:40", after := #[{ on := 12, ground := Ground.data }, { on := 13, ground := Ground.data }, { on := 14, ground := Ground.data }, { on := 11, ground := Ground.chain }, { on := 11, ground := Ground.guard }], guard := some (11, false) }) (v := undef) rfl (by decide) (by kernel_rfl) (by kernel_rfl) (by kernel_rfl) (fun _ _ _ h => h) (Or.inr ⟨by rfl, rfl⟩) (by assumption) ?_
          try simp only [Act.put, List.setIfInBounds_toArray, List.set_cons_zero, List.set_cons_succ]
          refine wpAnyG_take (i := 16) (oi := { dst := some 58, op := Op.unOp UnOp.not 4 (Operand.tmp 57), type := 4, pos := "checker.go:40", after := #[{ on := 15, ground := Ground.data }, { on := 11, ground := Ground.guard }], guard := some (11, false) }) (v := undef) rfl (by decide) (by kernel_rfl) (by kernel_rfl) (by kernel_rfl) (fun _ _ _ h => h) (Or.inr ⟨by rfl, rfl⟩) (by assumption) ?_
          try simp only [Act.put, List.setIfInBounds_toArray, List.set_cons_zero, List.set_cons_succ]
          refine wpAnyG_take (i := 17) (oi := { dst := some 59, op := Op.pick (Operand.tmp 53) (Operand.const (Value.bool true)) (Operand.tmp 58), type := 4, pos := "checker.go:40", after := #[{ on := 11, ground := Ground.data }, { on := 16, ground := Ground.data }], guard := none }) (v := ?_) rfl (by decide) (by kernel_rfl) (by kernel_rfl) (by kernel_rfl) (fun _ _ _ h => h) (Or.inl ⟨by rfl, ?_⟩) (by assumption) ?_
          rotate_left 1
          · (intro W hSW; (try dsimp only at hSW); first | (go_simp; done) | (go_simp; with_reducible rfl) | (obtain ⟨_, z0, z1, z2, z3⟩ := hSW; go_simp; done) | (obtain ⟨_, z0, z1, z2, z3⟩ := hSW; go_simp; with_reducible rfl))
          try simp only [Act.put, List.setIfInBounds_toArray, List.set_cons_zero, List.set_cons_succ]
          refine wpAnyG_done (by kernel_rfl) ?_ _
          have HE := Lib.hid (HGW6.out.trans hdr9)
          clear hHeld hdr9
          go_wp2_with fail
          refine bodyPost_ret (v := .tuple #[.int .i64 (k : Int), .int .i64 220]) (HRES.out _ _ _ _ rfl rfl) rfl ?_
          exact ⟨by rw [HR.out.2, HR.out.1], HE.out⟩
        have hk4 := Decidable.not_not.1 hk5
        obtain ⟨bw, hbw⟩ : ∃ z, wfS s.1 (kd, L, sy) = z := ⟨_, rfl⟩
        have HWFC : Hid (∀ W, W6.grownBy W none → Calls Tryz.prog 29 #[.int .i64 (s.1 : Int), .agg #[.int .i64 kd, .slice sa sn sc, .int .i64 sy]] W fun e w' => e = .returned (.bool bw) ∧ W.grownBy w' none) := Lib.hid (fun W hg => by
          have := well_calls s.1 (kd, L, sy) sa sc W (HINT.out.grown (HGW6.out.trans hg)) (by have := HFINE.out.len; omega)
          simp only at this
          rwa [HX.out.2.2, hbw] at this)
        have HBW := Lib.hid hbw
        have HDO1 : Hid (∀ W, W6.grownBy W none → StM w Q b s k W) := Lib.hid (fun W hg => ⟨_, _, _, HW6.out.2.later (HW6.out.1.1.trans hg)⟩)
        clear hbw hk5
        rcases hk4 with rfl | rfl | rfl | rfl
        · simp only [Int.reduceEq, if_true, if_false, true_or, decide_true] at hlk
          cases bw with
          | false =>
            have HR := Lib.hid (HSTOP.out (by unfold stepP; rw [HBW.out]; rfl))
            go_wp2_with fail
            clear hW6 hbx hlk x0 x1 x2 t0 t1 t2 t5
            refine wp_region_gone_drew (S := (fun _ => True)) (T := (fun Wh : World => Wh.cell? ⟨b, 5, none⟩ = some (.int .i64 (s.1 : Int)) ∧ Wh.cell? ⟨bx, 0, none⟩ = some (.int .i64 1) ∧ Wh.cell? ⟨bx, 1, none⟩ = some (.slice sa sn sc) ∧ Wh.cell? ⟨bx, 2, none⟩ = some (.int .i64 sy))) (m := 8) (by kernel_rfl) ⟨trivial, HT9.out _ hdr9⟩ (fun hHeld => ?_)
            refine wpAnyG_take (i := 0) (oi := { dst := some 42, op := Op.move (Operand.tmp 13), type := 4, pos := "checker.go:40", after := #[], guard := none }) (v := ?_) rfl (by decide) (by kernel_rfl) (by kernel_rfl) (by kernel_rfl) (fun _ _ _ h => h) (Or.inl ⟨by rfl, ?_⟩) (by assumption) ?_
            rotate_left 1
            · (intro W hSW; (try dsimp only at hSW); first | (go_simp; done) | (go_simp; with_reducible rfl) | (obtain ⟨_, z0, z1, z2, z3⟩ := hSW; go_simp; done) | (obtain ⟨_, z0, z1, z2, z3⟩ := hSW; go_simp; with_reducible rfl))
            try simp only [Act.put, List.setIfInBounds_toArray, List.set_cons_zero, List.set_cons_succ]
            refine wpAnyG_take (i := 1) (oi := { dst := some 43, op := Op.unOp UnOp.not 4 (Operand.tmp 42), type := 4, pos := "checker.go:40", after := #[{ on := 0, ground := Ground.data }], guard := none }) (v := ?_) rfl (by decide) (by kernel_rfl) (by kernel_rfl) (by kernel_rfl) (fun _ _ _ h => h) (Or.inl ⟨by rfl, ?_⟩) (by assumption) ?_
            rotate_left 1
            · (intro W hSW; (try dsimp only at hSW); first | (go_simp; done) | (go_simp; with_reducible rfl) | (obtain ⟨_, z0, z1, z2, z3⟩ := hSW; go_simp; done) | (obtain ⟨_, z0, z1, z2, z3⟩ := hSW; go_simp; with_reducible rfl))
            try simp only [Act.put, List.setIfInBounds_toArray, List.set_cons_zero, List.set_cons_succ]
            refine wpAnyG_take (i := 2) (oi := { dst := some 44, op := Op.move (Operand.tmp 43), type := 4, pos := "checker.go:40", after := #[{ on := 1, ground := Ground.data }], guard := none }) (v := ?_) rfl (by decide) (by kernel_rfl) (by kernel_rfl) (by kernel_rfl) (fun _ _ _ h => h) (Or.inl ⟨by rfl, ?_⟩) (by assumption) ?_
            rotate_left 1
            · (intro W hSW; (try dsimp only at hSW); first | (go_simp; done) | (go_simp; with_reducible rfl) | (obtain ⟨_, z0, z1, z2, z3⟩ := hSW; go_simp; done) | (obtain ⟨_, z0, z1, z2, z3⟩ := hSW; go_simp; with_reducible rfl))
            try simp only [Act.put, List.setIfInBounds_toArray, List.set_cons_zero, List.set_cons_succ]
            refine wpAnyG_take (i := 3) (oi := { dst := some 45, op := Op.move (Operand.tmp 8), type := 49, pos := "checker.go:40", after := #[{ on := 2, ground := Ground.guard }], guard := some (2, false) }) (v := ?_) rfl (by decide) (by kernel_rfl) (by kernel_rfl) (by kernel_rfl) (fun _ _ _ h => h) (Or.inl ⟨by rfl, ?_⟩) (by assumption) ?_
            rotate_left 1
            · (intro W hSW; (try dsimp only at hSW); first | (go_simp; done) | (go_simp; with_reducible rfl) | (obtain ⟨_, z0, z1, z2, z3⟩ := hSW; go_simp; done) | (obtain ⟨_, z0, z1, z2, z3⟩ := hSW; go_simp; with_reducible rfl))
            try simp only [Act.put, List.setIfInBounds_toArray, List.set_cons_zero, List.set_cons_succ]
            refine wpAnyG_take (i := 4) (oi := { dst := some 46, op := Op.nilCheck (Operand.tmp 45), type := 0, pos := "checker.go:40", after := #[{ on := 3, ground := Ground.data }, { on := 2, ground := Ground.guard }], guard := some (2, false) }) (v := ?_) rfl (by decide) (by kernel_rfl) (by kernel_rfl) (by kernel_rfl) (fun _ _ _ h => h) (Or.inl ⟨by rfl, ?_⟩) (by assumption) ?_
            rotate_left 1
            · (intro W hSW; (try dsimp only at hSW); first | (go_simp; done) | (go_simp; with_reducible rfl) | (obtain ⟨_, z0, z1, z2, z3⟩ := hSW; go_simp; done) | (obtain ⟨_, z0, z1, z2, z3⟩ := hSW; go_simp; with_reducible rfl))
            try simp only [Act.put, List.setIfInBounds_toArray, List.set_cons_zero, List.set_cons_succ]
            refine wpAnyG_take (i := 5) (oi := { dst := some 47, op := Op.fieldAddr 53 (Operand.tmp 46) 4, type := 0, pos := "checker.go:40", after := #[{ on := 4, ground := Ground.data }, { on := 2, ground := Ground.guard }], guard := some (2, false) }) (v := ?_) rfl (by decide) (by kernel_rfl) (by kernel_rfl) (by kernel_rfl) (fun _ _ _ h => h) (Or.inl ⟨by rfl, ?_⟩) (by assumption) ?_
            rotate_left 1
            · (intro W hSW; (try dsimp only at hSW); first | (go_simp; done) | (go_simp; with_reducible rfl) | (obtain ⟨_, z0, z1, z2, z3⟩ := hSW; go_simp; done) | (obtain ⟨_, z0, z1, z2, z3⟩ := hSW; go_simp; with_reducible rfl))
            try simp only [Act.put, List.setIfInBounds_toArray, List.set_cons_zero, List.set_cons_succ]
            refine wpAnyG_takeT (i := 6) (oi := { dst := some 48, op := Op.load 3 (Operand.tmp 47), type := 3, pos := "checker.go:40", after := #[{ on := 5, ground := Ground.data }, { on := 2, ground := Ground.guard }], guard := some (2, false) }) (v := ?_) rfl rfl (by kernel_rfl) (by decide) (by kernel_rfl) (by kernel_rfl) (by kernel_rfl) (by kernel_rfl) (fun _ _ _ h => h) (Or.inl ⟨by rfl, ?_⟩) (by assumption) ?_
            rotate_left 1
            · (intro W hSW; (try dsimp only at hSW); first | (go_simp; done) | (go_simp; with_reducible rfl) | (obtain ⟨_, z0, z1, z2, z3⟩ := hSW; go_simp; done) | (obtain ⟨_, z0, z1, z2, z3⟩ := hSW; go_simp; with_reducible rfl))
            try simp only [Act.put, List.setIfInBounds_toArray, List.set_cons_zero, List.set_cons_succ]
            refine wpAnyG_takeT (i := 7) (oi := { dst := some 49, op := Op.load 46 (Operand.tmp 11), type := 46, pos := "checker.go:40", after := #[{ on := 2, ground := Ground.guard }], guard := some (2, false) }) (v := ?_) rfl rfl (by kernel_rfl) (by decide) (by kernel_rfl) (by kernel_rfl) (by kernel_rfl) (by kernel_rfl) (fun _ _ _ h => h) (Or.inl ⟨by rfl, ?_⟩) (by assumption) ?_
            rotate_left 1
            · (intro W hSW; (try dsimp only at hSW); first | (go_simp; done) | (go_simp; with_reducible rfl) | (obtain ⟨_, z0, z1, z2, z3⟩ := hSW; go_simp; done) | (obtain ⟨_, z0, z1, z2, z3⟩ := hSW; go_simp; with_reducible rfl))
            try simp only [Act.put, List.setIfInBounds_toArray, List.set_cons_zero, List.set_cons_succ]
            refine wpAnyG_ready (rs := [8]) (by kernel_rfl) (by simp) ?_
            refine (AllReadyG.cons (o := { dst := some 50, op := Op.call { callee := Callee.value (Operand.func 29), args := #[Operand.tmp 48, Operand.tmp 49], argTypes := #[3, 46] }, type := 4, pos := "checker.go:40", after := #[{ on := 6, ground := Ground.data }, { on := 7, ground := Ground.data }, { on := 2, ground := Ground.chain }, { on := 2, ground := Ground.guard }], guard := some (2, false) }) rfl (fun KK hK => ?_) AllReadyG.nil)
            rw [if_pos (by rfl)]
            go_simp
            go_at_call 29
            refine (HWFC.out _ hdr9).mono ?_
            rintro e w8 ⟨rfl, g8⟩
            have hgr8 := World.grownBy.trans hdr9 g8
            go_wp2_with fail
            refine hK.out _ _ ⟨trivial, .inl (by rfl)⟩ (fun hHeld => ?_)
            clear hK KK
            try simp only [Act.put, List.setIfInBounds_toArray, List.set_cons_zero, List.set_cons_succ]
            refine wpAnyG_take (i := 9) (oi := { dst := some 51, op := Op.unOp UnOp.not 4 (Operand.tmp 50), type := 4, pos := "checker.go:40", after := #[{ on := 8, ground := Ground.data }, { on := 2, ground := Ground.guard }], guard := some (2, false) }) (v := ?_) rfl (by decide) (by kernel_rfl) (by kernel_rfl) (by kernel_rfl) (fun _ _ _ h => h) (Or.inl ⟨by rfl, ?_⟩) (by assumption) ?_
            rotate_left 1
            · (intro W hSW; (try dsimp only at hSW); first | (go_simp; done) | (go_simp; with_reducible rfl) | (obtain ⟨_, z0, z1, z2, z3⟩ := hSW; go_simp; done) | (obtain ⟨_, z0, z1, z2, z3⟩ := hSW; go_simp; with_reducible rfl))
            try simp only [Act.put, List.setIfInBounds_toArray, List.set_cons_zero, List.set_cons_succ]
            refine wpAnyG_take (i := 10) (oi := { dst := some 52, op := Op.pick (Operand.tmp 44) (Operand.const (Value.bool true)) (Operand.tmp 51), type := 4, pos := "checker.go:40", after := #[{ on := 2, ground := Ground.data }, { on := 9, ground := Ground.data }], guard := none }) (v := ?_) rfl (by decide) (by kernel_rfl) (by kernel_rfl) (by kernel_rfl) (fun _ _ _ h => h) (Or.inl ⟨by rfl, ?_⟩) (by assumption) ?_
            rotate_left 1
            · (intro W hSW; (try dsimp only at hSW); first | (go_simp; done) | (go_simp; with_reducible rfl) | (obtain ⟨_, z0, z1, z2, z3⟩ := hSW; go_simp; done) | (obtain ⟨_, z0, z1, z2, z3⟩ := hSW; go_simp; with_reducible rfl))
            try simp only [Act.put, List.setIfInBounds_toArray, List.set_cons_zero, List.set_cons_succ]
            refine wpAnyG_take (i := 11) (oi := { dst := some 53, op := Op.move (Operand.tmp 52), type := 4, pos := "checker.go:40", after := #[{ on := 10, ground := Ground.data }, { on := 8, ground := Ground.chain }], guard := none }) (v := ?_) rfl (by decide) (by kernel_rfl) (by kernel_rfl) (by kernel_rfl) (fun _ _ _ h => h) (Or.inl ⟨by rfl, ?_⟩) (by assumption) ?_
            rotate_left 1
            · (intro W hSW; (try dsimp only at hSW); first | (go_simp; done) | (go_simp; with_reducible rfl) | (obtain ⟨_, z0, z1, z2, z3⟩ := hSW; go_simp; done) | (obtain ⟨_, z0, z1, z2, z3⟩ := hSW; go_simp; with_reducible rfl))
            try simp only [Act.put, List.setIfInBounds_toArray, List.set_cons_zero, List.set_cons_succ]
            refine wpAnyG_take (i := 12) (oi := { dst := some 54, op := Op.move (Operand.tmp 12), type := 56, pos := "checker.go:40", after := #[{ on := 11, ground := Ground.guard }], guard := some (11, false) }) (v := undef) rfl (by decide) (by kernel_rfl) (by kernel_rfl) (by kernel_rfl) (fun _ _ _ h => h) (Or.inr ⟨by rfl, rfl⟩) (by assumption) ?_
            try simp only [Act.put, List.setIfInBounds_toArray, List.set_cons_zero, List.set_cons_succ]
            refine wpAnyG_take (i := 13) (oi := { dst := some 55, op := Op.move (Operand.tmp 8), type := 49, pos := "checker.go:40", after := #[{ on := 11, ground := Ground.guard }], guard := some (11, false) }) (v := undef) rfl (by decide) (by kernel_rfl) (by kernel_rfl) (by kernel_rfl) (fun _ _ _ h => h) (Or.inr ⟨by rfl, rfl⟩) (by assumption) ?_
            try simp only [Act.put, List.setIfInBounds_toArray, List.set_cons_zero, List.set_cons_succ]
            refine wpAnyG_take (i := 14) (oi := { dst := some 56, op := Op.load 46 (Operand.tmp 11), type := 46, pos := "checker.go:40", after := #[{ on := 11, ground := Ground.guard }], guard := some (11, false) }) (v := undef) rfl (by decide) (by kernel_rfl) (by kernel_rfl) (by kernel_rfl) (fun _ _ _ h => h) (Or.inr ⟨by rfl, rfl⟩) (by assumption) ?_
            try simp only [Act.put, List.setIfInBounds_toArray, List.set_cons_zero, List.set_cons_succ]
            refine wpAnyG_take (i := 15) (oi := { dst := some 57, op := Op.call { callee := Callee.value (Operand.tmp 54), args := #[Operand.tmp 55, Operand.tmp 56], argTypes := #[49, 46] }, type := 4, pos := "checker.go:40", after := #[{ on := 12, ground := Ground.data }, { on := 13, ground := Ground.data }, { on := 14, ground := Ground.data }, { on := 11, ground := Ground.chain }, { on := 11, ground := Ground.guard }], guard := some (11, false) }) (v := undef) rfl (by decide) (by kernel_rfl) (by kernel_rfl) (by kernel_rfl) (fun _ _ _ h => h) (Or.inr ⟨by rfl, rfl⟩) (by assumption) ?_
            try simp only [Act.put, List.setIfInBounds_toArray, List.set_cons_zero, List.set_cons_succ]
            refine wpAnyG_take (i := 16) (oi := { dst := some 58, op := Op.unOp UnOp.not 4 (Operand.tmp 57), type := 4, pos := "checker.go:40", after := #[{ on := 15, ground := Ground.data }, { on := 11, ground := Ground.guard }], guard := some (11, false) }) (v := undef) rfl (by decide) (by kernel_rfl) (by kernel_rfl) (by kernel_rfl) (fun _ _ _ h => h) (Or.inr ⟨by rfl, rfl⟩) (by assumption) ?_
            try simp only [Act.put, List.setIfInBounds_toArray, List.set_cons_zero, List.set_cons_succ]
            refine wpAnyG_take (i := 17) (oi := { dst := some 59, op := Op.pick (Operand.tmp 53) (Operand.const (Value.bool true)) (Operand.tmp 58), type := 4, pos := "checker.go:40", after := #[{ on := 11, ground := Ground.data }, { on := 16, ground := Ground.data }], guard := none }) (v := ?_) rfl (by decide) (by kernel_rfl) (by kernel_rfl) (by kernel_rfl) (fun _ _ _ h => h) (Or.inl ⟨by rfl, ?_⟩) (by assumption) ?_
            rotate_left 1
            · (intro W hSW; (try dsimp only at hSW); first | (go_simp; done) | (go_simp; with_reducible rfl) | (obtain ⟨_, z0, z1, z2, z3⟩ := hSW; go_simp; done) | (obtain ⟨_, z0, z1, z2, z3⟩ := hSW; go_simp; with_reducible rfl))
            try simp only [Act.put, List.setIfInBounds_toArray, List.set_cons_zero, List.set_cons_succ]
            refine wpAnyG_done (by kernel_rfl) ?_ _
            have HE := Lib.hid (HGW6.out.trans hgr8)
            clear hHeld hdr9 g8 hgr8
            go_wp2_with fail
            refine bodyPost_ret (v := .tuple #[.int .i64 (k : Int), .int .i64 220]) (HRES.out _ _ _ _ rfl rfl) rfl ?_
            exact ⟨by rw [HR.out.2, HR.out.1], HE.out⟩
          | true =>
            have HDO : Hid (∀ W, W6.grownBy W none → Calls Tryz.prog 45 #[.pointer (some ⟨b, 0, none⟩), .agg #[.int .i64 1, .slice sa sn sc, .int .i64 sy]] W (Done w Q b s k (1, L, sy))) := Lib.hid (fun W hg => by
              have hst := HDO1.out W hg
              have hw := HBW.out
              have := do1_calls hst HFINE.out hw rfl
              simp only at this
              rwa [HX.out.2.2] at this)
            obtain ⟨d, hd⟩ : ∃ z, (doP Q.fs Q.Y s (1, L, sy)).isSome = z := ⟨_, rfl⟩
            have HDV := Lib.hid hd
            have HSTEP : Hid (stepP K.fs K.Y s (1, L, sy) = doP Q.fs Q.Y s (1, L, sy)) := Lib.hid (by unfold stepP; rw [HBW.out, if_pos rfl, HQ.out.1, HQ.out.2.1])
            clear hd
            go_wp2_with fail
            clear hW6 hbx hlk x0 x1 x2 t0 t1 t2 t5
            refine wp_region_gone_drew (S := (fun _ => True)) (T := (fun Wh : World => Wh.cell? ⟨b, 5, none⟩ = some (.int .i64 (s.1 : Int)) ∧ Wh.cell? ⟨bx, 0, none⟩ = some (.int .i64 1) ∧ Wh.cell? ⟨bx, 1, none⟩ = some (.slice sa sn sc) ∧ Wh.cell? ⟨bx, 2, none⟩ = some (.int .i64 sy))) (m := 8) (by kernel_rfl) ⟨trivial, HT9.out _ hdr9⟩ (fun hHeld => ?_)
            refine wpAnyG_take (i := 0) (oi := { dst := some 42, op := Op.move (Operand.tmp 13), type := 4, pos := "checker.go:40", after := #[], guard := none }) (v := ?_) rfl (by decide) (by kernel_rfl) (by kernel_rfl) (by kernel_rfl) (fun _ _ _ h => h) (Or.inl ⟨by rfl, ?_⟩) (by assumption) ?_
            rotate_left 1
            · (intro W hSW; (try dsimp only at hSW); first | (go_simp; done) | (go_simp; with_reducible rfl) | (obtain ⟨_, z0, z1, z2, z3⟩ := hSW; go_simp; done) | (obtain ⟨_, z0, z1, z2, z3⟩ := hSW; go_simp; with_reducible rfl))
            try simp only [Act.put, List.setIfInBounds_toArray, List.set_cons_zero, List.set_cons_succ]
            refine wpAnyG_take (i := 1) (oi := { dst := some 43, op := Op.unOp UnOp.not 4 (Operand.tmp 42), type := 4, pos := "checker.go:40", after := #[{ on := 0, ground := Ground.data }], guard := none }) (v := ?_) rfl (by decide) (by kernel_rfl) (by kernel_rfl) (by kernel_rfl) (fun _ _ _ h => h) (Or.inl ⟨by rfl, ?_⟩) (by assumption) ?_
            rotate_left 1
            · (intro W hSW; (try dsimp only at hSW); first | (go_simp; done) | (go_simp; with_reducible rfl) | (obtain ⟨_, z0, z1, z2, z3⟩ := hSW; go_simp; done) | (obtain ⟨_, z0, z1, z2, z3⟩ := hSW; go_simp; with_reducible rfl))
            try simp only [Act.put, List.setIfInBounds_toArray, List.set_cons_zero, List.set_cons_succ]
            refine wpAnyG_take (i := 2) (oi := { dst := some 44, op := Op.move (Operand.tmp 43), type := 4, pos := "checker.go:40", after := #[{ on := 1, ground := Ground.data }], guard := none }) (v := ?_) rfl (by decide) (by kernel_rfl) (by kernel_rfl) (by kernel_rfl) (fun _ _ _ h => h) (Or.inl ⟨by rfl, ?_⟩) (by assumption) ?_
            rotate_left 1
            · (intro W hSW; (try dsimp only at hSW); first | (go_simp; done) | (go_simp; with_reducible rfl) | (obtain ⟨_, z0, z1, z2, z3⟩ := hSW; go_simp; done) | (obtain ⟨_, z0, z1, z2, z3⟩ := hSW; go_simp; with_reducible rfl))
            try simp only [Act.put, List.setIfInBounds_toArray, List.set_cons_zero, List.set_cons_succ]
            refine wpAnyG_take (i := 3) (oi := { dst := some 45, op := Op.move (Operand.tmp 8), type := 49, pos := "checker.go:40", after := #[{ on := 2, ground := Ground.guard }], guard := some (2, false) }) (v := ?_) rfl (by decide) (by kernel_rfl) (by kernel_rfl) (by kernel_rfl) (fun _ _ _ h => h) (Or.inl ⟨by rfl, ?_⟩) (by assumption) ?_
            rotate_left 1
            · (intro W hSW; (try dsimp only at hSW); first | (go_simp; done) | (go_simp; with_reducible rfl) | (obtain ⟨_, z0, z1, z2, z3⟩ := hSW; go_simp; done) | (obtain ⟨_, z0, z1, z2, z3⟩ := hSW; go_simp; with_reducible rfl))
            try simp only [Act.put, List.setIfInBounds_toArray, List.set_cons_zero, List.set_cons_succ]
            refine wpAnyG_take (i := 4) (oi := { dst := some 46, op := Op.nilCheck (Operand.tmp 45), type := 0, pos := "checker.go:40", after := #[{ on := 3, ground := Ground.data }, { on := 2, ground := Ground.guard }], guard := some (2, false) }) (v := ?_) rfl (by decide) (by kernel_rfl) (by kernel_rfl) (by kernel_rfl) (fun _ _ _ h => h) (Or.inl ⟨by rfl, ?_⟩) (by assumption) ?_
            rotate_left 1
            · (intro W hSW; (try dsimp only at hSW); first | (go_simp; done) | (go_simp; with_reducible rfl) | (obtain ⟨_, z0, z1, z2, z3⟩ := hSW; go_simp; done) | (obtain ⟨_, z0, z1, z2, z3⟩ := hSW; go_simp; with_reducible rfl))
            try simp only [Act.put, List.setIfInBounds_toArray, List.set_cons_zero, List.set_cons_succ]
            refine wpAnyG_take (i := 5) (oi := { dst := some 47, op := Op.fieldAddr 53 (Operand.tmp 46) 4, type := 0, pos := "checker.go:40", after := #[{ on := 4, ground := Ground.data }, { on := 2, ground := Ground.guard }], guard := some (2, false) }) (v := ?_) rfl (by decide) (by kernel_rfl) (by kernel_rfl) (by kernel_rfl) (fun _ _ _ h => h) (Or.inl ⟨by rfl, ?_⟩) (by assumption) ?_
            rotate_left 1
            · (intro W hSW; (try dsimp only at hSW); first | (go_simp; done) | (go_simp; with_reducible rfl) | (obtain ⟨_, z0, z1, z2, z3⟩ := hSW; go_simp; done) | (obtain ⟨_, z0, z1, z2, z3⟩ := hSW; go_simp; with_reducible rfl))
            try simp only [Act.put, List.setIfInBounds_toArray, List.set_cons_zero, List.set_cons_succ]
            refine wpAnyG_takeT (i := 6) (oi := { dst := some 48, op := Op.load 3 (Operand.tmp 47), type := 3, pos := "checker.go:40", after := #[{ on := 5, ground := Ground.data }, { on := 2, ground := Ground.guard }], guard := some (2, false) }) (v := ?_) rfl rfl (by kernel_rfl) (by decide) (by kernel_rfl) (by kernel_rfl) (by kernel_rfl) (by kernel_rfl) (fun _ _ _ h => h) (Or.inl ⟨by rfl, ?_⟩) (by assumption) ?_
            rotate_left 1
            · (intro W hSW; (try dsimp only at hSW); first | (go_simp; done) | (go_simp; with_reducible rfl) | (obtain ⟨_, z0, z1, z2, z3⟩ := hSW; go_simp; done) | (obtain ⟨_, z0, z1, z2, z3⟩ := hSW; go_simp; with_reducible rfl))
            try simp only [Act.put, List.setIfInBounds_toArray, List.set_cons_zero, List.set_cons_succ]
            refine wpAnyG_takeT (i := 7) (oi := { dst := some 49, op := Op.load 46 (Operand.tmp 11), type := 46, pos := "checker.go:40", after := #[{ on := 2, ground := Ground.guard }], guard := some (2, false) }) (v := ?_) rfl rfl (by kernel_rfl) (by decide) (by kernel_rfl) (by kernel_rfl) (by kernel_rfl) (by kernel_rfl) (fun _ _ _ h => h) (Or.inl ⟨by rfl, ?_⟩) (by assumption) ?_
            rotate_left 1
            · (intro W hSW; (try dsimp only at hSW); first | (go_simp; done) | (go_simp; with_reducible rfl) | (obtain ⟨_, z0, z1, z2, z3⟩ := hSW; go_simp; done) | (obtain ⟨_, z0, z1, z2, z3⟩ := hSW; go_simp; with_reducible rfl))
            try simp only [Act.put, List.setIfInBounds_toArray, List.set_cons_zero, List.set_cons_succ]
            refine wpAnyG_ready (rs := [8]) (by kernel_rfl) (by simp) ?_
            refine (AllReadyG.cons (o := { dst := some 50, op := Op.call { callee := Callee.value (Operand.func 29), args := #[Operand.tmp 48, Operand.tmp 49], argTypes := #[3, 46] }, type := 4, pos := "checker.go:40", after := #[{ on := 6, ground := Ground.data }, { on := 7, ground := Ground.data }, { on := 2, ground := Ground.chain }, { on := 2, ground := Ground.guard }], guard := some (2, false) }) rfl (fun KK hK => ?_) AllReadyG.nil)
            rw [if_pos (by rfl)]
            go_simp
            go_at_call 29
            refine (HWFC.out _ hdr9).mono ?_
            rintro e w8 ⟨rfl, g8⟩
            have hgr8 := World.grownBy.trans hdr9 g8
            go_wp2_with fail
            refine hK.out _ _ ⟨trivial, .inl (by rfl)⟩ (fun hHeld => ?_)
            clear hK KK
            try simp only [Act.put, List.setIfInBounds_toArray, List.set_cons_zero, List.set_cons_succ]
            refine wpAnyG_take (i := 9) (oi := { dst := some 51, op := Op.unOp UnOp.not 4 (Operand.tmp 50), type := 4, pos := "checker.go:40", after := #[{ on := 8, ground := Ground.data }, { on := 2, ground := Ground.guard }], guard := some (2, false) }) (v := ?_) rfl (by decide) (by kernel_rfl) (by kernel_rfl) (by kernel_rfl) (fun _ _ _ h => h) (Or.inl ⟨by rfl, ?_⟩) (by assumption) ?_
            rotate_left 1
            · (intro W hSW; (try dsimp only at hSW); first | (go_simp; done) | (go_simp; with_reducible rfl) | (obtain ⟨_, z0, z1, z2, z3⟩ := hSW; go_simp; done) | (obtain ⟨_, z0, z1, z2, z3⟩ := hSW; go_simp; with_reducible rfl))
            try simp only [Act.put, List.setIfInBounds_toArray, List.set_cons_zero, List.set_cons_succ]
            refine wpAnyG_take (i := 10) (oi := { dst := some 52, op := Op.pick (Operand.tmp 44) (Operand.const (Value.bool true)) (Operand.tmp 51), type := 4, pos := "checker.go:40", after := #[{ on := 2, ground := Ground.data }, { on := 9, ground := Ground.data }], guard := none }) (v := ?_) rfl (by decide) (by kernel_rfl) (by kernel_rfl) (by kernel_rfl) (fun _ _ _ h => h) (Or.inl ⟨by rfl, ?_⟩) (by assumption) ?_
            rotate_left 1
            · (intro W hSW; (try dsimp only at hSW); first | (go_simp; done) | (go_simp; with_reducible rfl) | (obtain ⟨_, z0, z1, z2, z3⟩ := hSW; go_simp; done) | (obtain ⟨_, z0, z1, z2, z3⟩ := hSW; go_simp; with_reducible rfl))
            try simp only [Act.put, List.setIfInBounds_toArray, List.set_cons_zero, List.set_cons_succ]
            refine wpAnyG_take (i := 11) (oi := { dst := some 53, op := Op.move (Operand.tmp 52), type := 4, pos := "checker.go:40", after := #[{ on := 10, ground := Ground.data }, { on := 8, ground := Ground.chain }], guard := none }) (v := ?_) rfl (by decide) (by kernel_rfl) (by kernel_rfl) (by kernel_rfl) (fun _ _ _ h => h) (Or.inl ⟨by rfl, ?_⟩) (by assumption) ?_
            rotate_left 1
            · (intro W hSW; (try dsimp only at hSW); first | (go_simp; done) | (go_simp; with_reducible rfl) | (obtain ⟨_, z0, z1, z2, z3⟩ := hSW; go_simp; done) | (obtain ⟨_, z0, z1, z2, z3⟩ := hSW; go_simp; with_reducible rfl))
            try simp only [Act.put, List.setIfInBounds_toArray, List.set_cons_zero, List.set_cons_succ]
            refine wpAnyG_take (i := 12) (oi := { dst := some 54, op := Op.move (Operand.tmp 12), type := 56, pos := "checker.go:40", after := #[{ on := 11, ground := Ground.guard }], guard := some (11, false) }) (v := ?_) rfl (by decide) (by kernel_rfl) (by kernel_rfl) (by kernel_rfl) (fun _ _ _ h => h) (Or.inl ⟨by rfl, ?_⟩) (by assumption) ?_
            rotate_left 1
            · (intro W hSW; (try dsimp only at hSW); first | (go_simp; done) | (go_simp; with_reducible rfl) | (obtain ⟨_, z0, z1, z2, z3⟩ := hSW; go_simp; done) | (obtain ⟨_, z0, z1, z2, z3⟩ := hSW; go_simp; with_reducible rfl))
            try simp only [Act.put, List.setIfInBounds_toArray, List.set_cons_zero, List.set_cons_succ]
            refine wpAnyG_take (i := 13) (oi := { dst := some 55, op := Op.move (Operand.tmp 8), type := 49, pos := "checker.go:40", after := #[{ on := 11, ground := Ground.guard }], guard := some (11, false) }) (v := ?_) rfl (by decide) (by kernel_rfl) (by kernel_rfl) (by kernel_rfl) (fun _ _ _ h => h) (Or.inl ⟨by rfl, ?_⟩) (by assumption) ?_
            rotate_left 1
            · (intro W hSW; (try dsimp only at hSW); first | (go_simp; done) | (go_simp; with_reducible rfl) | (obtain ⟨_, z0, z1, z2, z3⟩ := hSW; go_simp; done) | (obtain ⟨_, z0, z1, z2, z3⟩ := hSW; go_simp; with_reducible rfl))
            try simp only [Act.put, List.setIfInBounds_toArray, List.set_cons_zero, List.set_cons_succ]
            refine wpAnyG_ready (rs := [14]) (by kernel_rfl) (by simp) ?_
            refine (AllReadyG.cons (o := { dst := some 56, op := Op.load 46 (Operand.tmp 11), type := 46, pos := "checker.go:40", after := #[{ on := 11, ground := Ground.guard }], guard := some (11, false) }) rfl (fun KK hK => ?_) AllReadyG.nil)
            rw [if_pos (by rfl)]
            obtain ⟨z0, z1, z2, z3⟩ := HT9.out _ hgr8
            go_simp
            clear z0 z1 z2 z3
            refine hK.out _ _ ⟨trivial, .inl (by rfl)⟩ (fun hHeld => ?_)
            clear hK KK
            try simp only [Act.put, List.setIfInBounds_toArray, List.set_cons_zero, List.set_cons_succ]
            refine wpAnyG_ready (rs := [15]) (by kernel_rfl) (by simp) ?_
            refine (AllReadyG.cons (o := { dst := some 57, op := Op.call { callee := Callee.value (Operand.tmp 54), args := #[Operand.tmp 55, Operand.tmp 56], argTypes := #[49, 46] }, type := 4, pos := "checker.go:40", after := #[{ on := 12, ground := Ground.data }, { on := 13, ground := Ground.data }, { on := 14, ground := Ground.data }, { on := 11, ground := Ground.chain }, { on := 11, ground := Ground.guard }], guard := some (11, false) }) rfl (fun KK hK => ?_) AllReadyG.nil)
            rw [if_pos (by rfl)]
            go_simp
            go_at_call 45
            refine (HDO.out _ hgr8).mono ?_
            rintro e w9 hdn
            obtain ⟨he, hst, hgw⟩ := hdn
            rw [HDV.out] at he
            subst he
            go_wp2_with fail
            refine hK.out _ _ ⟨trivial, .inl (by rfl)⟩ (fun hHeld => ?_)
            clear hK KK
            try simp only [Act.put, List.setIfInBounds_toArray, List.set_cons_zero, List.set_cons_succ]
            refine wpAnyG_take (i := 16) (oi := { dst := some 58, op := Op.unOp UnOp.not 4 (Operand.tmp 57), type := 4, pos := "checker.go:40", after := #[{ on := 15, ground := Ground.data }, { on := 11, ground := Ground.guard }], guard := some (11, false) }) (v := ?_) rfl (by decide) (by kernel_rfl) (by kernel_rfl) (by kernel_rfl) (fun _ _ _ h => h) (Or.inl ⟨by rfl, ?_⟩) (by assumption) ?_
            rotate_left 1
            · (intro W hSW; (try dsimp only at hSW); first | (go_simp; done) | (go_simp; with_reducible rfl) | (obtain ⟨_, z0, z1, z2, z3⟩ := hSW; go_simp; done) | (obtain ⟨_, z0, z1, z2, z3⟩ := hSW; go_simp; with_reducible rfl))
            try simp only [Act.put, List.setIfInBounds_toArray, List.set_cons_zero, List.set_cons_succ]
            refine wpAnyG_take (i := 17) (oi := { dst := some 59, op := Op.pick (Operand.tmp 53) (Operand.const (Value.bool true)) (Operand.tmp 58), type := 4, pos := "checker.go:40", after := #[{ on := 11, ground := Ground.data }, { on := 16, ground := Ground.data }], guard := none }) (v := ?_) rfl (by decide) (by kernel_rfl) (by kernel_rfl) (by kernel_rfl) (fun _ _ _ h => h) (Or.inl ⟨by rfl, ?_⟩) (by assumption) ?_
            rotate_left 1
            · (intro W hSW; (try dsimp only at hSW); first | (go_simp; done) | (go_simp; with_reducible rfl) | (obtain ⟨_, z0, z1, z2, z3⟩ := hSW; go_simp; done) | (obtain ⟨_, z0, z1, z2, z3⟩ := hSW; go_simp; with_reducible rfl))
            try simp only [Act.put, List.setIfInBounds_toArray, List.set_cons_zero, List.set_cons_succ]
            refine wpAnyG_done (by kernel_rfl) ?_ _
            have HGW := Lib.hid hgw
            have HST := Lib.hid hst
            clear hHeld hdr9 g8 hgr8 hgw hst
            cases d with
            | false =>
              have HR := Lib.hid (HSTOP.out (by rw [HSTEP.out]; exact Option.isNone_iff_eq_none.1 (by rw [← Option.not_isSome, HDV.out]; rfl)))
              go_wp2_with fail
              all_goals (refine bodyPost_ret (v := .tuple #[.int .i64 (k : Int), .int .i64 220]) (HRES.out _ _ _ _ rfl rfl) rfl ?_; exact ⟨by rw [HR.out.2, HR.out.1], HGW.out⟩)
            | true =>
              obtain ⟨t, ht⟩ := Option.isSome_iff_exists.1 HDV.out
              have HT := Lib.hid ht
              clear ht
              go_wp2_with fail
              go_roundg (n - (k + 1))
              case measure => rw [HI.out.1]; omega
              case rel =>
                have hs := HSTEP.out.trans HT.out
                have hf := (step_fit hs HI.out.2.2.2 (HF.out.1.lw _ HX.out.2.1)).1
                exact ⟨k + 1, t, rfl, rfl, by omega, HST.out t HT.out, run_next HX.out.1 HI.out.2.2.1 hs, hf.le (by omega) (by omega)⟩
        · simp only [Int.reduceEq, if_true, if_false, true_or, or_true, decide_true] at hlk
          cases bw with
          | false =>
            have HR := Lib.hid (HSTOP.out (by unfold stepP; rw [HBW.out]; rfl))
            go_wp2_with fail
            clear hW6 hbx hlk x0 x1 x2 t0 t1 t2 t5
            refine wp_region_gone_drew (S := (fun _ => True)) (T := (fun Wh : World => Wh.cell? ⟨b, 5, none⟩ = some (.int .i64 (s.1 : Int)) ∧ Wh.cell? ⟨bx, 0, none⟩ = some (.int .i64 2) ∧ Wh.cell? ⟨bx, 1, none⟩ = some (.slice sa sn sc) ∧ Wh.cell? ⟨bx, 2, none⟩ = some (.int .i64 sy))) (m := 8) (by kernel_rfl) ⟨trivial, HT9.out _ hdr9⟩ (fun hHeld => ?_)
            refine wpAnyG_take (i := 0) (oi := { dst := some 42, op := Op.move (Operand.tmp 13), type := 4, pos := "checker.go:40", after := #[], guard := none }) (v := ?_) rfl (by decide) (by kernel_rfl) (by kernel_rfl) (by kernel_rfl) (fun _ _ _ h => h) (Or.inl ⟨by rfl, ?_⟩) (by assumption) ?_
            rotate_left 1
            · (intro W hSW; (try dsimp only at hSW); first | (go_simp; done) | (go_simp; with_reducible rfl) | (obtain ⟨_, z0, z1, z2, z3⟩ := hSW; go_simp; done) | (obtain ⟨_, z0, z1, z2, z3⟩ := hSW; go_simp; with_reducible rfl))
            try simp only [Act.put, List.setIfInBounds_toArray, List.set_cons_zero, List.set_cons_succ]
            refine wpAnyG_take (i := 1) (oi := { dst := some 43, op := Op.unOp UnOp.not 4 (Operand.tmp 42), type := 4, pos := "checker.go:40", after := #[{ on := 0, ground := Ground.data }], guard := none }) (v := ?_) rfl (by decide) (by kernel_rfl) (by kernel_rfl) (by kernel_rfl) (fun _ _ _ h => h) (Or.inl ⟨by rfl, ?_⟩) (by assumption) ?_
            rotate_left 1
            · (intro W hSW; (try dsimp only at hSW); first | (go_simp; done) | (go_simp; with_reducible rfl) | (obtain ⟨_, z0, z1, z2, z3⟩ := hSW; go_simp; done) | (obtain ⟨_, z0, z1, z2, z3⟩ := hSW; go_simp; with_reducible rfl))
            try simp only [Act.put, List.setIfInBounds_toArray, List.set_cons_zero, List.set_cons_succ]
            refine wpAnyG_take (i := 2) (oi := { dst := some 44, op := Op.move (Operand.tmp 43), type := 4, pos := "checker.go:40", after := #[{ on := 1, ground := Ground.data }], guard := none }) (v := ?_) rfl (by decide) (by kernel_rfl) (by kernel_rfl) (by kernel_rfl) (fun _ _ _ h => h) (Or.inl ⟨by rfl, ?_⟩) (by assumption) ?_
            rotate_left 1
            · (intro W hSW; (try dsimp only at hSW); first | (go_simp; done) | (go_simp; with_reducible rfl) | (obtain ⟨_, z0, z1, z2, z3⟩ := hSW; go_simp; done) | (obtain ⟨_, z0, z1, z2, z3⟩ := hSW; go_simp; with_reducible rfl))
            try simp only [Act.put, List.setIfInBounds_toArray, List.set_cons_zero, List.set_cons_succ]
            refine wpAnyG_take (i := 3) (oi := { dst := some 45, op := Op.move (Operand.tmp 8), type := 49, pos := "checker.go:40", after := #[{ on := 2, ground := Ground.guard }], guard := some (2, false) }) (v := ?_) rfl (by decide) (by kernel_rfl) (by kernel_rfl) (by kernel_rfl) (fun _ _ _ h => h) (Or.inl ⟨by rfl, ?_⟩) (by assumption) ?_
            rotate_left 1
            · (intro W hSW; (try dsimp only at hSW); first | (go_simp; done) | (go_simp; with_reducible rfl) | (obtain ⟨_, z0, z1, z2, z3⟩ := hSW; go_simp; done) | (obtain ⟨_, z0, z1, z2, z3⟩ := hSW; go_simp; with_reducible rfl))
            try simp only [Act.put, List.setIfInBounds_toArray, List.set_cons_zero, List.set_cons_succ]
            refine wpAnyG_take (i := 4) (oi := { dst := some 46, op := Op.nilCheck (Operand.tmp 45), type := 0, pos := "checker.go:40", after := #[{ on := 3, ground := Ground.data }, { on := 2, ground := Ground.guard }], guard := some (2, false) }) (v := ?_) rfl (by decide) (by kernel_rfl) (by kernel_rfl) (by kernel_rfl) (fun _ _ _ h => h) (Or.inl ⟨by rfl, ?_⟩) (by assumption) ?_
            rotate_left 1
            · (intro W hSW; (try dsimp only at hSW); first | (go_simp; done) | (go_simp; with_reducible rfl) | (obtain ⟨_, z0, z1, z2, z3⟩ := hSW; go_simp; done) | (obtain ⟨_, z0, z1, z2, z3⟩ := hSW; go_simp; with_reducible rfl))
            try simp only [Act.put, List.setIfInBounds_toArray, List.set_cons_zero, List.set_cons_succ]
            refine wpAnyG_take (i := 5) (oi := { dst := some 47, op := Op.fieldAddr 53 (Operand.tmp 46) 4, type := 0, pos := "checker.go:40", after := #[{ on := 4, ground := Ground.data }, { on := 2, ground := Ground.guard }], guard := some (2, false) }) (v := ?_) rfl (by decide) (by kernel_rfl) (by kernel_rfl) (by kernel_rfl) (fun _ _ _ h => h) (Or.inl ⟨by rfl, ?_⟩) (by assumption) ?_
            rotate_left 1
            · (intro W hSW; (try dsimp only at hSW); first | (go_simp; done) | (go_simp; with_reducible rfl) | (obtain ⟨_, z0, z1, z2, z3⟩ := hSW; go_simp; done) | (obtain ⟨_, z0, z1, z2, z3⟩ := hSW; go_simp; with_reducible rfl))
            try simp only [Act.put, List.setIfInBounds_toArray, List.set_cons_zero, List.set_cons_succ]
            refine wpAnyG_takeT (i := 6) (oi := { dst := some 48, op := Op.load 3 (Operand.tmp 47), type := 3, pos := "checker.go:40", after := #[{ on := 5, ground := Ground.data }, { on := 2, ground := Ground.guard }], guard := some (2, false) }) (v := ?_) rfl rfl (by kernel_rfl) (by decide) (by kernel_rfl) (by kernel_rfl) (by kernel_rfl) (by kernel_rfl) (fun _ _ _ h => h) (Or.inl ⟨by rfl, ?_⟩) (by assumption) ?_
            rotate_left 1
            · (intro W hSW; (try dsimp only at hSW); first | (go_simp; done) | (go_simp; with_reducible rfl) | (obtain ⟨_, z0, z1, z2, z3⟩ := hSW; go_simp; done) | (obtain ⟨_, z0, z1, z2, z3⟩ := hSW; go_simp; with_reducible rfl))
            try simp only [Act.put, List.setIfInBounds_toArray, List.set_cons_zero, List.set_cons_succ]
            refine wpAnyG_takeT (i := 7) (oi := { dst := some 49, op := Op.load 46 (Operand.tmp 11), type := 46, pos := "checker.go:40", after := #[{ on := 2, ground := Ground.guard }], guard := some (2, false) }) (v := ?_) rfl rfl (by kernel_rfl) (by decide) (by kernel_rfl) (by kernel_rfl) (by kernel_rfl) (by kernel_rfl) (fun _ _ _ h => h) (Or.inl ⟨by rfl, ?_⟩) (by assumption) ?_
            rotate_left 1
            · (intro W hSW; (try dsimp only at hSW); first | (go_simp; done) | (go_simp; with_reducible rfl) | (obtain ⟨_, z0, z1, z2, z3⟩ := hSW; go_simp; done) | (obtain ⟨_, z0, z1, z2, z3⟩ := hSW; go_simp; with_reducible rfl))
            try simp only [Act.put, List.setIfInBounds_toArray, List.set_cons_zero, List.set_cons_succ]
            refine wpAnyG_ready (rs := [8]) (by kernel_rfl) (by simp) ?_
            refine (AllReadyG.cons (o := { dst := some 50, op := Op.call { callee := Callee.value (Operand.func 29), args := #[Operand.tmp 48, Operand.tmp 49], argTypes := #[3, 46] }, type := 4, pos := "checker.go:40", after := #[{ on := 6, ground := Ground.data }, { on := 7, ground := Ground.data }, { on := 2, ground := Ground.chain }, { on := 2, ground := Ground.guard }], guard := some (2, false) }) rfl (fun KK hK => ?_) AllReadyG.nil)
            rw [if_pos (by rfl)]
            go_simp
            go_at_call 29
            refine (HWFC.out _ hdr9).mono ?_
            rintro e w8 ⟨rfl, g8⟩
            have hgr8 := World.grownBy.trans hdr9 g8
            go_wp2_with fail
            refine hK.out _ _ ⟨trivial, .inl (by rfl)⟩ (fun hHeld => ?_)
            clear hK KK
            try simp only [Act.put, List.setIfInBounds_toArray, List.set_cons_zero, List.set_cons_succ]
            refine wpAnyG_take (i := 9) (oi := { dst := some 51, op := Op.unOp UnOp.not 4 (Operand.tmp 50), type := 4, pos := "checker.go:40", after := #[{ on := 8, ground := Ground.data }, { on := 2, ground := Ground.guard }], guard := some (2, false) }) (v := ?_) rfl (by decide) (by kernel_rfl) (by kernel_rfl) (by kernel_rfl) (fun _ _ _ h => h) (Or.inl ⟨by rfl, ?_⟩) (by assumption) ?_
            rotate_left 1
            · (intro W hSW; (try dsimp only at hSW); first | (go_simp; done) | (go_simp; with_reducible rfl) | (obtain ⟨_, z0, z1, z2, z3⟩ := hSW; go_simp; done) | (obtain ⟨_, z0, z1, z2, z3⟩ := hSW; go_simp; with_reducible rfl))
            try simp only [Act.put, List.setIfInBounds_toArray, List.set_cons_zero, List.set_cons_succ]
            refine wpAnyG_take (i := 10) (oi := { dst := some 52, op := Op.pick (Operand.tmp 44) (Operand.const (Value.bool true)) (Operand.tmp 51), type := 4, pos := "checker.go:40", after := #[{ on := 2, ground := Ground.data }, { on := 9, ground := Ground.data }], guard := none }) (v := ?_) rfl (by decide) (by kernel_rfl) (by kernel_rfl) (by kernel_rfl) (fun _ _ _ h => h) (Or.inl ⟨by rfl, ?_⟩) (by assumption) ?_
            rotate_left 1
            · (intro W hSW; (try dsimp only at hSW); first | (go_simp; done) | (go_simp; with_reducible rfl) | (obtain ⟨_, z0, z1, z2, z3⟩ := hSW; go_simp; done) | (obtain ⟨_, z0, z1, z2, z3⟩ := hSW; go_simp; with_reducible rfl))
            try simp only [Act.put, List.setIfInBounds_toArray, List.set_cons_zero, List.set_cons_succ]
            refine wpAnyG_take (i := 11) (oi := { dst := some 53, op := Op.move (Operand.tmp 52), type := 4, pos := "checker.go:40", after := #[{ on := 10, ground := Ground.data }, { on := 8, ground := Ground.chain }], guard := none }) (v := ?_) rfl (by decide) (by kernel_rfl) (by kernel_rfl) (by kernel_rfl) (fun _ _ _ h => h) (Or.inl ⟨by rfl, ?_⟩) (by assumption) ?_
            rotate_left 1
            · (intro W hSW; (try dsimp only at hSW); first | (go_simp; done) | (go_simp; with_reducible rfl) | (obtain ⟨_, z0, z1, z2, z3⟩ := hSW; go_simp; done) | (obtain ⟨_, z0, z1, z2, z3⟩ := hSW; go_simp; with_reducible rfl))
            try simp only [Act.put, List.setIfInBounds_toArray, List.set_cons_zero, List.set_cons_succ]
            refine wpAnyG_take (i := 12) (oi := { dst := some 54, op := Op.move (Operand.tmp 12), type := 56, pos := "checker.go:40", after := #[{ on := 11, ground := Ground.guard }], guard := some (11, false) }) (v := undef) rfl (by decide) (by kernel_rfl) (by kernel_rfl) (by kernel_rfl) (fun _ _ _ h => h) (Or.inr ⟨by rfl, rfl⟩) (by assumption) ?_
            try simp only [Act.put, List.setIfInBounds_toArray, List.set_cons_zero, List.set_cons_succ]
            refine wpAnyG_take (i := 13) (oi := { dst := some 55, op := Op.move (Operand.tmp 8), type := 49, pos := "checker.go:40", after := #[{ on := 11, ground := Ground.guard }], guard := some (11, false) }) (v := undef) rfl (by decide) (by kernel_rfl) (by kernel_rfl) (by kernel_rfl) (fun _ _ _ h => h) (Or.inr ⟨by rfl, rfl⟩) (by assumption) ?_
            try simp only [Act.put, List.setIfInBounds_toArray, List.set_cons_zero, List.set_cons_succ]
            refine wpAnyG_take (i := 14) (oi := { dst := some 56, op := Op.load 46 (Operand.tmp 11), type := 46, pos := "checker.go:40", after := #[{ on := 11, ground := Ground.guard }], guard := some (11, false) }) (v := undef) rfl (by decide) (by kernel_rfl) (by kernel_rfl) (by kernel_rfl) (fun _ _ _ h => h) (Or.inr ⟨by rfl, rfl⟩) (by assumption) ?_
            try simp only [Act.put, List.setIfInBounds_toArray, List.set_cons_zero, List.set_cons_succ]
            refine wpAnyG_take (i := 15) (oi := { dst := some 57, op := Op.call { callee := Callee.value (Operand.tmp 54), args := #[Operand.tmp 55, Operand.tmp 56], argTypes := #[49, 46] }, type := 4, pos := "checker.go:40", after := #[{ on := 12, ground := Ground.data }, { on := 13, ground := Ground.data }, { on := 14, ground := Ground.data }, { on := 11, ground := Ground.chain }, { on := 11, ground := Ground.guard }], guard := some (11, false) }) (v := undef) rfl (by decide) (by kernel_rfl) (by kernel_rfl) (by kernel_rfl) (fun _ _ _ h => h) (Or.inr ⟨by rfl, rfl⟩) (by assumption) ?_
            try simp only [Act.put, List.setIfInBounds_toArray, List.set_cons_zero, List.set_cons_succ]
            refine wpAnyG_take (i := 16) (oi := { dst := some 58, op := Op.unOp UnOp.not 4 (Operand.tmp 57), type := 4, pos := "checker.go:40", after := #[{ on := 15, ground := Ground.data }, { on := 11, ground := Ground.guard }], guard := some (11, false) }) (v := undef) rfl (by decide) (by kernel_rfl) (by kernel_rfl) (by kernel_rfl) (fun _ _ _ h => h) (Or.inr ⟨by rfl, rfl⟩) (by assumption) ?_
            try simp only [Act.put, List.setIfInBounds_toArray, List.set_cons_zero, List.set_cons_succ]
            refine wpAnyG_take (i := 17) (oi := { dst := some 59, op := Op.pick (Operand.tmp 53) (Operand.const (Value.bool true)) (Operand.tmp 58), type := 4, pos := "checker.go:40", after := #[{ on := 11, ground := Ground.data }, { on := 16, ground := Ground.data }], guard := none }) (v := ?_) rfl (by decide) (by kernel_rfl) (by kernel_rfl) (by kernel_rfl) (fun _ _ _ h => h) (Or.inl ⟨by rfl, ?_⟩) (by assumption) ?_
            rotate_left 1
            · (intro W hSW; (try dsimp only at hSW); first | (go_simp; done) | (go_simp; with_reducible rfl) | (obtain ⟨_, z0, z1, z2, z3⟩ := hSW; go_simp; done) | (obtain ⟨_, z0, z1, z2, z3⟩ := hSW; go_simp; with_reducible rfl))
            try simp only [Act.put, List.setIfInBounds_toArray, List.set_cons_zero, List.set_cons_succ]
            refine wpAnyG_done (by kernel_rfl) ?_ _
            have HE := Lib.hid (HGW6.out.trans hgr8)
            clear hHeld hdr9 g8 hgr8
            go_wp2_with fail
            refine bodyPost_ret (v := .tuple #[.int .i64 (k : Int), .int .i64 220]) (HRES.out _ _ _ _ rfl rfl) rfl ?_
            exact ⟨by rw [HR.out.2, HR.out.1], HE.out⟩
          | true =>
            have HDO : Hid (∀ W, W6.grownBy W none → Calls Tryz.prog 46 #[.pointer (some ⟨b, 0, none⟩), .agg #[.int .i64 2, .slice sa sn sc, .int .i64 sy]] W (Done w Q b s k (2, L, sy))) := Lib.hid (fun W hg => by
              have hst := HDO1.out W hg
              have hw := HBW.out
              have := do2_calls hst HFINE.out rfl
              simp only at this
              rwa [HX.out.2.2] at this)
            obtain ⟨d, hd⟩ : ∃ z, (doP Q.fs Q.Y s (2, L, sy)).isSome = z := ⟨_, rfl⟩
            have HDV := Lib.hid hd
            have HSTEP : Hid (stepP K.fs K.Y s (2, L, sy) = doP Q.fs Q.Y s (2, L, sy)) := Lib.hid (by unfold stepP; rw [HBW.out, if_pos rfl, HQ.out.1, HQ.out.2.1])
            clear hd
            go_wp2_with fail
            clear hW6 hbx hlk x0 x1 x2 t0 t1 t2 t5
            refine wp_region_gone_drew (S := (fun _ => True)) (T := (fun Wh : World => Wh.cell? ⟨b, 5, none⟩ = some (.int .i64 (s.1 : Int)) ∧ Wh.cell? ⟨bx, 0, none⟩ = some (.int .i64 2) ∧ Wh.cell? ⟨bx, 1, none⟩ = some (.slice sa sn sc) ∧ Wh.cell? ⟨bx, 2, none⟩ = some (.int .i64 sy))) (m := 8) (by kernel_rfl) ⟨trivial, HT9.out _ hdr9⟩ (fun hHeld => ?_)
            refine wpAnyG_take (i := 0) (oi := { dst := some 42, op := Op.move (Operand.tmp 13), type := 4, pos := "checker.go:40", after := #[], guard := none }) (v := ?_) rfl (by decide) (by kernel_rfl) (by kernel_rfl) (by kernel_rfl) (fun _ _ _ h => h) (Or.inl ⟨by rfl, ?_⟩) (by assumption) ?_
            rotate_left 1
            · (intro W hSW; (try dsimp only at hSW); first | (go_simp; done) | (go_simp; with_reducible rfl) | (obtain ⟨_, z0, z1, z2, z3⟩ := hSW; go_simp; done) | (obtain ⟨_, z0, z1, z2, z3⟩ := hSW; go_simp; with_reducible rfl))
            try simp only [Act.put, List.setIfInBounds_toArray, List.set_cons_zero, List.set_cons_succ]
            refine wpAnyG_take (i := 1) (oi := { dst := some 43, op := Op.unOp UnOp.not 4 (Operand.tmp 42), type := 4, pos := "checker.go:40", after := #[{ on := 0, ground := Ground.data }], guard := none }) (v := ?_) rfl (by decide) (by kernel_rfl) (by kernel_rfl) (by kernel_rfl) (fun _ _ _ h => h) (Or.inl ⟨by rfl, ?_⟩) (by assumption) ?_
            rotate_left 1
            · (intro W hSW; (try dsimp only at hSW); first | (go_simp; done) | (go_simp; with_reducible rfl) | (obtain ⟨_, z0, z1, z2, z3⟩ := hSW; go_simp; done) | (obtain ⟨_, z0, z1, z2, z3⟩ := hSW; go_simp; with_reducible rfl))
            try simp only [Act.put, List.setIfInBounds_toArray, List.set_cons_zero, List.set_cons_succ]
            refine wpAnyG_take (i := 2) (oi := { dst := some 44, op := Op.move (Operand.tmp 43), type := 4, pos := "checker.go:40", after := #[{ on := 1, ground := Ground.data }], guard := none }) (v := ?_) rfl (by decide) (by kernel_rfl) (by kernel_rfl) (by kernel_rfl) (fun _ _ _ h => h) (Or.inl ⟨by rfl, ?_⟩) (by assumption) ?_
            rotate_left 1
            · (intro W hSW; (try dsimp only at hSW); first | (go_simp; done) | (go_simp; with_reducible rfl) | (obtain ⟨_, z0, z1, z2, z3⟩ := hSW; go_simp; done) | (obtain ⟨_, z0, z1, z2, z3⟩ := hSW; go_simp; with_reducible rfl))
            try simp only [Act.put, List.setIfInBounds_toArray, List.set_cons_zero, List.set_cons_succ]
            refine wpAnyG_take (i := 3) (oi := { dst := some 45, op := Op.move (Operand.tmp 8), type := 49, pos := "checker.go:40", after := #[{ on := 2, ground := Ground.guard }], guard := some (2, false) }) (v := ?_) rfl (by decide) (by kernel_rfl) (by kernel_rfl) (by kernel_rfl) (fun _ _ _ h => h) (Or.inl ⟨by rfl, ?_⟩) (by assumption) ?_
            rotate_left 1
            · (intro W hSW; (try dsimp only at hSW); first | (go_simp; done) | (go_simp; with_reducible rfl) | (obtain ⟨_, z0, z1, z2, z3⟩ := hSW; go_simp; done) | (obtain ⟨_, z0, z1, z2, z3⟩ := hSW; go_simp; with_reducible rfl))
            try simp only [Act.put, List.setIfInBounds_toArray, List.set_cons_zero, List.set_cons_succ]
            refine wpAnyG_take (i := 4) (oi := { dst := some 46, op := Op.nilCheck (Operand.tmp 45), type := 0, pos := "checker.go:40", after := #[{ on := 3, ground := Ground.data }, { on := 2, ground := Ground.guard }], guard := some (2, false) }) (v := ?_) rfl (by decide) (by kernel_rfl) (by kernel_rfl) (by kernel_rfl) (fun _ _ _ h => h) (Or.inl ⟨by rfl, ?_⟩) (by assumption) ?_
            rotate_left 1
            · (intro W hSW; (try dsimp only at hSW); first | (go_simp; done) | (go_simp; with_reducible rfl) | (obtain ⟨_, z0, z1, z2, z3⟩ := hSW; go_simp; done) | (obtain ⟨_, z0, z1, z2, z3⟩ := hSW; go_simp; with_reducible rfl))
            try simp only [Act.put, List.setIfInBounds_toArray, List.set_cons_zero, List.set_cons_succ]
            refine wpAnyG_take (i := 5) (oi := { dst := some 47, op := Op.fieldAddr 53 (Operand.tmp 46) 4, type := 0, pos := "checker.go:40", after := #[{ on := 4, ground := Ground.data }, { on := 2, ground := Ground.guard }], guard := some (2, false) }) (v := ?_) rfl (by decide) (by kernel_rfl) (by kernel_rfl) (by kernel_rfl) (fun _ _ _ h => h) (Or.inl ⟨by rfl, ?_⟩) (by assumption) ?_
            rotate_left 1
            · (intro W hSW; (try dsimp only at hSW); first | (go_simp; done) | (go_simp; with_reducible rfl) | (obtain ⟨_, z0, z1, z2, z3⟩ := hSW; go_simp; done) | (obtain ⟨_, z0, z1, z2, z3⟩ := hSW; go_simp; with_reducible rfl))
            try simp only [Act.put, List.setIfInBounds_toArray, List.set_cons_zero, List.set_cons_succ]
            refine wpAnyG_takeT (i := 6) (oi := { dst := some 48, op := Op.load 3 (Operand.tmp 47), type := 3, pos := "checker.go:40", after := #[{ on := 5, ground := Ground.data }, { on := 2, ground := Ground.guard }], guard := some (2, false) }) (v := ?_) rfl rfl (by kernel_rfl) (by decide) (by kernel_rfl) (by kernel_rfl) (by kernel_rfl) (by kernel_rfl) (fun _ _ _ h => h) (Or.inl ⟨by rfl, ?_⟩) (by assumption) ?_
            rotate_left 1
            · (intro W hSW; (try dsimp only at hSW); first | (go_simp; done) | (go_simp; with_reducible rfl) | (obtain ⟨_, z0, z1, z2, z3⟩ := hSW; go_simp; done) | (obtain ⟨_, z0, z1, z2, z3⟩ := hSW; go_simp; with_reducible rfl))
            try simp only [Act.put, List.setIfInBounds_toArray, List.set_cons_zero, List.set_cons_succ]
            refine wpAnyG_takeT (i := 7) (oi := { dst := some 49, op := Op.load 46 (Operand.tmp 11), type := 46, pos := "checker.go:40", after := #[{ on := 2, ground := Ground.guard }], guard := some (2, false) }) (v := ?_) rfl rfl (by kernel_rfl) (by decide) (by kernel_rfl) (by kernel_rfl) (by kernel_rfl) (by kernel_rfl) (fun _ _ _ h => h) (Or.inl ⟨by rfl, ?_⟩) (by assumption) ?_
            rotate_left 1
            · (intro W hSW; (try dsimp only at hSW); first | (go_simp; done) | (go_simp; with_reducible rfl) | (obtain ⟨_, z0, z1, z2, z3⟩ := hSW; go_simp; done) | (obtain ⟨_, z0, z1, z2, z3⟩ := hSW; go_simp; with_reducible rfl))
            try simp only [Act.put, List.setIfInBounds_toArray, List.set_cons_zero, List.set_cons_succ]
            refine wpAnyG_ready (rs := [8]) (by kernel_rfl) (by simp) ?_
            refine (AllReadyG.cons (o := { dst := some 50, op := Op.call { callee := Callee.value (Operand.func 29), args := #[Operand.tmp 48, Operand.tmp 49], argTypes := #[3, 46] }, type := 4, pos := "checker.go:40", after := #[{ on := 6, ground := Ground.data }, { on := 7, ground := Ground.data }, { on := 2, ground := Ground.chain }, { on := 2, ground := Ground.guard }], guard := some (2, false) }) rfl (fun KK hK => ?_) AllReadyG.nil)
            rw [if_pos (by rfl)]
            go_simp
            go_at_call 29
            refine (HWFC.out _ hdr9).mono ?_
            rintro e w8 ⟨rfl, g8⟩
            have hgr8 := World.grownBy.trans hdr9 g8
            go_wp2_with fail
            refine hK.out _ _ ⟨trivial, .inl (by rfl)⟩ (fun hHeld => ?_)
            clear hK KK
            try simp only [Act.put, List.setIfInBounds_toArray, List.set_cons_zero, List.set_cons_succ]
            refine wpAnyG_take (i := 9) (oi := { dst := some 51, op := Op.unOp UnOp.not 4 (Operand.tmp 50), type := 4, pos := "checker.go:40", after := #[{ on := 8, ground := Ground.data }, { on := 2, ground := Ground.guard }], guard := some (2, false) }) (v := ?_) rfl (by decide) (by kernel_rfl) (by kernel_rfl) (by kernel_rfl) (fun _ _ _ h => h) (Or.inl ⟨by rfl, ?_⟩) (by assumption) ?_
            rotate_left 1
            · (intro W hSW; (try dsimp only at hSW); first | (go_simp; done) | (go_simp; with_reducible rfl) | (obtain ⟨_, z0, z1, z2, z3⟩ := hSW; go_simp; done) | (obtain ⟨_, z0, z1, z2, z3⟩ := hSW; go_simp; with_reducible rfl))
            try simp only [Act.put, List.setIfInBounds_toArray, List.set_cons_zero, List.set_cons_succ]
            refine wpAnyG_take (i := 10) (oi := { dst := some 52, op := Op.pick (Operand.tmp 44) (Operand.const (Value.bool true)) (Operand.tmp 51), type := 4, pos := "checker.go:40", after := #[{ on := 2, ground := Ground.data }, { on := 9, ground := Ground.data }], guard := none }) (v := ?_) rfl (by decide) (by kernel_rfl) (by kernel_rfl) (by kernel_rfl) (fun _ _ _ h => h) (Or.inl ⟨by rfl, ?_⟩) (by assumption) ?_
            rotate_left 1
            · (intro W hSW; (try dsimp only at hSW); first | (go_simp; done) | (go_simp; with_reducible rfl) | (obtain ⟨_, z0, z1, z2, z3⟩ := hSW; go_simp; done) | (obtain ⟨_, z0, z1, z2, z3⟩ := hSW; go_simp; with_reducible rfl))
            try simp only [Act.put, List.setIfInBounds_toArray, List.set_cons_zero, List.set_cons_succ]
            refine wpAnyG_take (i := 11) (oi := { dst := some 53, op := Op.move (Operand.tmp 52), type := 4, pos := "checker.go:40", after := #[{ on := 10, ground := Ground.data }, { on := 8, ground := Ground.chain }], guard := none }) (v := ?_) rfl (by decide) (by kernel_rfl) (by kernel_rfl) (by kernel_rfl) (fun _ _ _ h => h) (Or.inl ⟨by rfl, ?_⟩) (by assumption) ?_
            rotate_left 1
            · (intro W hSW; (try dsimp only at hSW); first | (go_simp; done) | (go_simp; with_reducible rfl) | (obtain ⟨_, z0, z1, z2, z3⟩ := hSW; go_simp; done) | (obtain ⟨_, z0, z1, z2, z3⟩ := hSW; go_simp; with_reducible rfl))
            try simp only [Act.put, List.setIfInBounds_toArray, List.set_cons_zero, List.set_cons_succ]
            refine wpAnyG_take (i := 12) (oi := { dst := some 54, op := Op.move (Operand.tmp 12), type := 56, pos := "checker.go:40", after := #[{ on := 11, ground := Ground.guard }], guard := some (11, false) }) (v := ?_) rfl (by decide) (by kernel_rfl) (by kernel_rfl) (by kernel_rfl) (fun _ _ _ h => h) (Or.inl ⟨by rfl, ?_⟩) (by assumption) ?_
            rotate_left 1
            · (intro W hSW; (try dsimp only at hSW); first | (go_simp; done) | (go_simp; with_reducible rfl) | (obtain ⟨_, z0, z1, z2, z3⟩ := hSW; go_simp; done) | (obtain ⟨_, z0, z1, z2, z3⟩ := hSW; go_simp; with_reducible rfl))
            try simp only [Act.put, List.setIfInBounds_toArray, List.set_cons_zero, List.set_cons_succ]
            refine wpAnyG_take (i := 13) (oi := { dst := some 55, op := Op.move (Operand.tmp 8), type := 49, pos := "checker.go:40", after := #[{ on := 11, ground := Ground.guard }], guard := some (11, false) }) (v := ?_) rfl (by decide) (by kernel_rfl) (by kernel_rfl) (by kernel_rfl) (fun _ _ _ h => h) (Or.inl ⟨by rfl, ?_⟩) (by assumption) ?_
            rotate_left 1
            · (intro W hSW; (try dsimp only at hSW); first | (go_simp; done) | (go_simp; with_reducible rfl) | (obtain ⟨_, z0, z1, z2, z3⟩ := hSW; go_simp; done) | (obtain ⟨_, z0, z1, z2, z3⟩ := hSW; go_simp; with_reducible rfl))
            try simp only [Act.put, List.setIfInBounds_toArray, List.set_cons_zero, List.set_cons_succ]
            refine wpAnyG_ready (rs := [14]) (by kernel_rfl) (by simp) ?_
            refine (AllReadyG.cons (o := { dst := some 56, op := Op.load 46 (Operand.tmp 11), type := 46, pos := "checker.go:40", after := #[{ on := 11, ground := Ground.guard }], guard := some (11, false) }) rfl (fun KK hK => ?_) AllReadyG.nil)
            rw [if_pos (by rfl)]
            obtain ⟨z0, z1, z2, z3⟩ := HT9.out _ hgr8
            go_simp
            clear z0 z1 z2 z3
            refine hK.out _ _ ⟨trivial, .inl (by rfl)⟩ (fun hHeld => ?_)
            clear hK KK
            try simp only [Act.put, List.setIfInBounds_toArray, List.set_cons_zero, List.set_cons_succ]
            refine wpAnyG_ready (rs := [15]) (by kernel_rfl) (by simp) ?_
            refine (AllReadyG.cons (o := { dst := some 57, op := Op.call { callee := Callee.value (Operand.tmp 54), args := #[Operand.tmp 55, Operand.tmp 56], argTypes := #[49, 46] }, type := 4, pos := "checker.go:40", after := #[{ on := 12, ground := Ground.data }, { on := 13, ground := Ground.data }, { on := 14, ground := Ground.data }, { on := 11, ground := Ground.chain }, { on := 11, ground := Ground.guard }], guard := some (11, false) }) rfl (fun KK hK => ?_) AllReadyG.nil)
            rw [if_pos (by rfl)]
            go_simp
            go_at_call 46
            refine (HDO.out _ hgr8).mono ?_
            rintro e w9 hdn
            obtain ⟨he, hst, hgw⟩ := hdn
            rw [HDV.out] at he
            subst he
            go_wp2_with fail
            refine hK.out _ _ ⟨trivial, .inl (by rfl)⟩ (fun hHeld => ?_)
            clear hK KK
            try simp only [Act.put, List.setIfInBounds_toArray, List.set_cons_zero, List.set_cons_succ]
            refine wpAnyG_take (i := 16) (oi := { dst := some 58, op := Op.unOp UnOp.not 4 (Operand.tmp 57), type := 4, pos := "checker.go:40", after := #[{ on := 15, ground := Ground.data }, { on := 11, ground := Ground.guard }], guard := some (11, false) }) (v := ?_) rfl (by decide) (by kernel_rfl) (by kernel_rfl) (by kernel_rfl) (fun _ _ _ h => h) (Or.inl ⟨by rfl, ?_⟩) (by assumption) ?_
            rotate_left 1
            · (intro W hSW; (try dsimp only at hSW); first | (go_simp; done) | (go_simp; with_reducible rfl) | (obtain ⟨_, z0, z1, z2, z3⟩ := hSW; go_simp; done) | (obtain ⟨_, z0, z1, z2, z3⟩ := hSW; go_simp; with_reducible rfl))
            try simp only [Act.put, List.setIfInBounds_toArray, List.set_cons_zero, List.set_cons_succ]
            refine wpAnyG_take (i := 17) (oi := { dst := some 59, op := Op.pick (Operand.tmp 53) (Operand.const (Value.bool true)) (Operand.tmp 58), type := 4, pos := "checker.go:40", after := #[{ on := 11, ground := Ground.data }, { on := 16, ground := Ground.data }], guard := none }) (v := ?_) rfl (by decide) (by kernel_rfl) (by kernel_rfl) (by kernel_rfl) (fun _ _ _ h => h) (Or.inl ⟨by rfl, ?_⟩) (by assumption) ?_
            rotate_left 1
            · (intro W hSW; (try dsimp only at hSW); first | (go_simp; done) | (go_simp; with_reducible rfl) | (obtain ⟨_, z0, z1, z2, z3⟩ := hSW; go_simp; done) | (obtain ⟨_, z0, z1, z2, z3⟩ := hSW; go_simp; with_reducible rfl))
            try simp only [Act.put, List.setIfInBounds_toArray, List.set_cons_zero, List.set_cons_succ]
            refine wpAnyG_done (by kernel_rfl) ?_ _
            have HGW := Lib.hid hgw
            have HST := Lib.hid hst
            clear hHeld hdr9 g8 hgr8 hgw hst
            cases d with
            | false =>
              have HR := Lib.hid (HSTOP.out (by rw [HSTEP.out]; exact Option.isNone_iff_eq_none.1 (by rw [← Option.not_isSome, HDV.out]; rfl)))
              go_wp2_with fail
              all_goals (refine bodyPost_ret (v := .tuple #[.int .i64 (k : Int), .int .i64 220]) (HRES.out _ _ _ _ rfl rfl) rfl ?_; exact ⟨by rw [HR.out.2, HR.out.1], HGW.out⟩)
            | true =>
              obtain ⟨t, ht⟩ := Option.isSome_iff_exists.1 HDV.out
              have HT := Lib.hid ht
              clear ht
              go_wp2_with fail
              go_roundg (n - (k + 1))
              case measure => rw [HI.out.1]; omega
              case rel =>
                have hs := HSTEP.out.trans HT.out
                have hf := (step_fit hs HI.out.2.2.2 (HF.out.1.lw _ HX.out.2.1)).1
                exact ⟨k + 1, t, rfl, rfl, by omega, HST.out t HT.out, run_next HX.out.1 HI.out.2.2.1 hs, hf.le (by omega) (by omega)⟩
        · simp only [Int.reduceEq, if_true, if_false, true_or, or_true, decide_true] at hlk
          cases bw with
          | false =>
            have HR := Lib.hid (HSTOP.out (by unfold stepP; rw [HBW.out]; rfl))
            go_wp2_with fail
            clear hW6 hbx hlk x0 x1 x2 t0 t1 t2 t5
            refine wp_region_gone_drew (S := (fun _ => True)) (T := (fun Wh : World => Wh.cell? ⟨b, 5, none⟩ = some (.int .i64 (s.1 : Int)) ∧ Wh.cell? ⟨bx, 0, none⟩ = some (.int .i64 3) ∧ Wh.cell? ⟨bx, 1, none⟩ = some (.slice sa sn sc) ∧ Wh.cell? ⟨bx, 2, none⟩ = some (.int .i64 sy))) (m := 8) (by kernel_rfl) ⟨trivial, HT9.out _ hdr9⟩ (fun hHeld => ?_)
            refine wpAnyG_take (i := 0) (oi := { dst := some 42, op := Op.move (Operand.tmp 13), type := 4, pos := "checker.go:40", after := #[], guard := none }) (v := ?_) rfl (by decide) (by kernel_rfl) (by kernel_rfl) (by kernel_rfl) (fun _ _ _ h => h) (Or.inl ⟨by rfl, ?_⟩) (by assumption) ?_
            rotate_left 1
            · (intro W hSW; (try dsimp only at hSW); first | (go_simp; done) | (go_simp; with_reducible rfl) | (obtain ⟨_, z0, z1, z2, z3⟩ := hSW; go_simp; done) | (obtain ⟨_, z0, z1, z2, z3⟩ := hSW; go_simp; with_reducible rfl))
            try simp only [Act.put, List.setIfInBounds_toArray, List.set_cons_zero, List.set_cons_succ]
            refine wpAnyG_take (i := 1) (oi := { dst := some 43, op := Op.unOp UnOp.not 4 (Operand.tmp 42), type := 4, pos := "checker.go:40", after := #[{ on := 0, ground := Ground.data }], guard := none }) (v := ?_) rfl (by decide) (by kernel_rfl) (by kernel_rfl) (by kernel_rfl) (fun _ _ _ h => h) (Or.inl ⟨by rfl, ?_⟩) (by assumption) ?_
            rotate_left 1
            · (intro W hSW; (try dsimp only at hSW); first | (go_simp; done) | (go_simp; with_reducible rfl) | (obtain ⟨_, z0, z1, z2, z3⟩ := hSW; go_simp; done) | (obtain ⟨_, z0, z1, z2, z3⟩ := hSW; go_simp; with_reducible rfl))
            try simp only [Act.put, List.setIfInBounds_toArray, List.set_cons_zero, List.set_cons_succ]
            refine wpAnyG_take (i := 2) (oi := { dst := some 44, op := Op.move (Operand.tmp 43), type := 4, pos := "checker.go:40", after := #[{ on := 1, ground := Ground.data }], guard := none }) (v := ?_) rfl (by decide) (by kernel_rfl) (by kernel_rfl) (by kernel_rfl) (fun _ _ _ h => h) (Or.inl ⟨by rfl, ?_⟩) (by assumption) ?_
            rotate_left 1
            · (intro W hSW; (try dsimp only at hSW); first | (go_simp; done) | (go_simp; with_reducible rfl) | (obtain ⟨_, z0, z1, z2, z3⟩ := hSW; go_simp; done) | (obtain ⟨_, z0, z1, z2, z3⟩ := hSW; go_simp; with_reducible rfl))
            try simp only [Act.put, List.setIfInBounds_toArray, List.set_cons_zero, List.set_cons_succ]
            refine wpAnyG_take (i := 3) (oi := { dst := some 45, op := Op.move (Operand.tmp 8), type := 49, pos := "checker.go:40", after := #[{ on := 2, ground := Ground.guard }], guard := some (2, false) }) (v := ?_) rfl (by decide) (by kernel_rfl) (by kernel_rfl) (by kernel_rfl) (fun _ _ _ h => h) (Or.inl ⟨by rfl, ?_⟩) (by assumption) ?_
            rotate_left 1
            · (intro W hSW; (try dsimp only at hSW); first | (go_simp; done) | (go_simp; with_reducible rfl) | (obtain ⟨_, z0, z1, z2, z3⟩ := hSW; go_simp; done) | (obtain ⟨_, z0, z1, z2, z3⟩ := hSW; go_simp; with_reducible rfl))
            try simp only [Act.put, List.setIfInBounds_toArray, List.set_cons_zero, List.set_cons_succ]
            refine wpAnyG_take (i := 4) (oi := { dst := some 46, op := Op.nilCheck (Operand.tmp 45), type := 0, pos := "checker.go:40", after := #[{ on := 3, ground := Ground.data }, { on := 2, ground := Ground.guard }], guard := some (2, false) }) (v := ?_) rfl (by decide) (by kernel_rfl) (by kernel_rfl) (by kernel_rfl) (fun _ _ _ h => h) (Or.inl ⟨by rfl, ?_⟩) (by assumption) ?_
            rotate_left 1
            · (intro W hSW; (try dsimp only at hSW); first | (go_simp; done) | (go_simp; with_reducible rfl) | (obtain ⟨_, z0, z1, z2, z3⟩ := hSW; go_simp; done) | (obtain ⟨_, z0, z1, z2, z3⟩ := hSW; go_simp; with_reducible rfl))
            try simp only [Act.put, List.setIfInBounds_toArray, List.set_cons_zero, List.set_cons_succ]
            refine wpAnyG_take (i := 5) (oi := { dst := some 47, op := Op.fieldAddr 53 (Operand.tmp 46) 4, type := 0, pos := "checker.go:40", after := #[{ on := 4, ground := Ground.data }, { on := 2, ground := Ground.guard }], guard := some (2, false) }) (v := ?_) rfl (by decide) (by kernel_rfl) (by kernel_rfl) (by kernel_rfl) (fun _ _ _ h => h) (Or.inl ⟨by rfl, ?_⟩) (by assumption) ?_
            rotate_left 1
            · (intro W hSW; (try dsimp only at hSW); first | (go_simp; done) | (go_simp; with_reducible rfl) | (obtain ⟨_, z0, z1, z2, z3⟩ := hSW; go_simp; done) | (obtain ⟨_, z0, z1, z2, z3⟩ := hSW; go_simp; with_reducible rfl))
            try simp only [Act.put, List.setIfInBounds_toArray, List.set_cons_zero, List.set_cons_succ]
            refine wpAnyG_takeT (i := 6) (oi := { dst := some 48, op := Op.load 3 (Operand.tmp 47), type := 3, pos := "checker.go:40", after := #[{ on := 5, ground := Ground.data }, { on := 2, ground := Ground.guard }], guard := some (2, false) }) (v := ?_) rfl rfl (by kernel_rfl) (by decide) (by kernel_rfl) (by kernel_rfl) (by kernel_rfl) (by kernel_rfl) (fun _ _ _ h => h) (Or.inl ⟨by rfl, ?_⟩) (by assumption) ?_
            rotate_left 1
            · (intro W hSW; (try dsimp only at hSW); first | (go_simp; done) | (go_simp; with_reducible rfl) | (obtain ⟨_, z0, z1, z2, z3⟩ := hSW; go_simp; done) | (obtain ⟨_, z0, z1, z2, z3⟩ := hSW; go_simp; with_reducible rfl))
            try simp only [Act.put, List.setIfInBounds_toArray, List.set_cons_zero, List.set_cons_succ]
            refine wpAnyG_takeT (i := 7) (oi := { dst := some 49, op := Op.load 46 (Operand.tmp 11), type := 46, pos := "checker.go:40", after := #[{ on := 2, ground := Ground.guard }], guard := some (2, false) }) (v := ?_) rfl rfl (by kernel_rfl) (by decide) (by kernel_rfl) (by kernel_rfl) (by kernel_rfl) (by kernel_rfl) (fun _ _ _ h => h) (Or.inl ⟨by rfl, ?_⟩) (by assumption) ?_
            rotate_left 1
            · (intro W hSW; (try dsimp only at hSW); first | (go_simp; done) | (go_simp; with_reducible rfl) | (obtain ⟨_, z0, z1, z2, z3⟩ := hSW; go_simp; done) | (obtain ⟨_, z0, z1, z2, z3⟩ := hSW; go_simp; with_reducible rfl))
            try simp only [Act.put, List.setIfInBounds_toArray, List.set_cons_zero, List.set_cons_succ]
            refine wpAnyG_ready (rs := [8]) (by kernel_rfl) (by simp) ?_
            refine (AllReadyG.cons (o := { dst := some 50, op := Op.call { callee := Callee.value (Operand.func 29), args := #[Operand.tmp 48, Operand.tmp 49], argTypes := #[3, 46] }, type := 4, pos := "checker.go:40", after := #[{ on := 6, ground := Ground.data }, { on := 7, ground := Ground.data }, { on := 2, ground := Ground.chain }, { on := 2, ground := Ground.guard }], guard := some (2, false) }) rfl (fun KK hK => ?_) AllReadyG.nil)
            rw [if_pos (by rfl)]
            go_simp
            go_at_call 29
            refine (HWFC.out _ hdr9).mono ?_
            rintro e w8 ⟨rfl, g8⟩
            have hgr8 := World.grownBy.trans hdr9 g8
            go_wp2_with fail
            refine hK.out _ _ ⟨trivial, .inl (by rfl)⟩ (fun hHeld => ?_)
            clear hK KK
            try simp only [Act.put, List.setIfInBounds_toArray, List.set_cons_zero, List.set_cons_succ]
            refine wpAnyG_take (i := 9) (oi := { dst := some 51, op := Op.unOp UnOp.not 4 (Operand.tmp 50), type := 4, pos := "checker.go:40", after := #[{ on := 8, ground := Ground.data }, { on := 2, ground := Ground.guard }], guard := some (2, false) }) (v := ?_) rfl (by decide) (by kernel_rfl) (by kernel_rfl) (by kernel_rfl) (fun _ _ _ h => h) (Or.inl ⟨by rfl, ?_⟩) (by assumption) ?_
            rotate_left 1
            · (intro W hSW; (try dsimp only at hSW); first | (go_simp; done) | (go_simp; with_reducible rfl) | (obtain ⟨_, z0, z1, z2, z3⟩ := hSW; go_simp; done) | (obtain ⟨_, z0, z1, z2, z3⟩ := hSW; go_simp; with_reducible rfl))
            try simp only [Act.put, List.setIfInBounds_toArray, List.set_cons_zero, List.set_cons_succ]
            refine wpAnyG_take (i := 10) (oi := { dst := some 52, op := Op.pick (Operand.tmp 44) (Operand.const (Value.bool true)) (Operand.tmp 51), type := 4, pos := "checker.go:40", after := #[{ on := 2, ground := Ground.data }, { on := 9, ground := Ground.data }], guard := none }) (v := ?_) rfl (by decide) (by kernel_rfl) (by kernel_rfl) (by kernel_rfl) (fun _ _ _ h => h) (Or.inl ⟨by rfl, ?_⟩) (by assumption) ?_
            rotate_left 1
            · (intro W hSW; (try dsimp only at hSW); first | (go_simp; done) | (go_simp; with_reducible rfl) | (obtain ⟨_, z0, z1, z2, z3⟩ := hSW; go_simp; done) | (obtain ⟨_, z0, z1, z2, z3⟩ := hSW; go_simp; with_reducible rfl))
            try simp only [Act.put, List.setIfInBounds_toArray, List.set_cons_zero, List.set_cons_succ]
            refine wpAnyG_take (i := 11) (oi := { dst := some 53, op := Op.move (Operand.tmp 52), type := 4, pos := "checker.go:40", after := #[{ on := 10, ground := Ground.data }, { on := 8, ground := Ground.chain }], guard := none }) (v := ?_) rfl (by decide) (by kernel_rfl) (by kernel_rfl) (by kernel_rfl) (fun _ _ _ h => h) (Or.inl ⟨by rfl, ?_⟩) (by assumption) ?_
            rotate_left 1
            · (intro W hSW; (try dsimp only at hSW); first | (go_simp; done) | (go_simp; with_reducible rfl) | (obtain ⟨_, z0, z1, z2, z3⟩ := hSW; go_simp; done) | (obtain ⟨_, z0, z1, z2, z3⟩ := hSW; go_simp; with_reducible rfl))
            try simp only [Act.put, List.setIfInBounds_toArray, List.set_cons_zero, List.set_cons_succ]
            refine wpAnyG_take (i := 12) (oi := { dst := some 54, op := Op.move (Operand.tmp 12), type := 56, pos := "checker.go:40", after := #[{ on := 11, ground := Ground.guard }], guard := some (11, false) }) (v := undef) rfl (by decide) (by kernel_rfl) (by kernel_rfl) (by kernel_rfl) (fun _ _ _ h => h) (Or.inr ⟨by rfl, rfl⟩) (by assumption) ?_
            try simp only [Act.put, List.setIfInBounds_toArray, List.set_cons_zero, List.set_cons_succ]
            refine wpAnyG_take (i := 13) (oi := { dst := some 55, op := Op.move (Operand.tmp 8), type := 49, pos := "checker.go:40", after := #[{ on := 11, ground := Ground.guard }], guard := some (11, false) }) (v := undef) rfl (by decide) (by kernel_rfl) (by kernel_rfl) (by kernel_rfl) (fun _ _ _ h => h) (Or.inr ⟨by rfl, rfl⟩) (by assumption) ?_
            try simp only [Act.put, List.setIfInBounds_toArray, List.set_cons_zero, List.set_cons_succ]
            refine wpAnyG_take (i := 14) (oi := { dst := some 56, op := Op.load 46 (Operand.tmp 11), type := 46, pos := "checker.go:40", after := #[{ on := 11, ground := Ground.guard }], guard := some (11, false) }) (v := undef) rfl (by decide) (by kernel_rfl) (by kernel_rfl) (by kernel_rfl) (fun _ _ _ h => h) (Or.inr ⟨by rfl, rfl⟩) (by assumption) ?_
            try simp only [Act.put, List.setIfInBounds_toArray, List.set_cons_zero, List.set_cons_succ]
            refine wpAnyG_take (i := 15) (oi := { dst := some 57, op := Op.call { callee := Callee.value (Operand.tmp 54), args := #[Operand.tmp 55, Operand.tmp 56], argTypes := #[49, 46] }, type := 4, pos := "checker.go:40", after := #[{ on := 12, ground := Ground.data }, { on := 13, ground := Ground.data }, { on := 14, ground := Ground.data }, { on := 11, ground := Ground.chain }, { on := 11, ground := Ground.guard }], guard := some (11, false) }) (v := undef) rfl (by decide) (by kernel_rfl) (by kernel_rfl) (by kernel_rfl) (fun _ _ _ h => h) (Or.inr ⟨by rfl, rfl⟩) (by assumption) ?_
            try simp only [Act.put, List.setIfInBounds_toArray, List.set_cons_zero, List.set_cons_succ]
            refine wpAnyG_take (i := 16) (oi := { dst := some 58, op := Op.unOp UnOp.not 4 (Operand.tmp 57), type := 4, pos := "checker.go:40", after := #[{ on := 15, ground := Ground.data }, { on := 11, ground := Ground.guard }], guard := some (11, false) }) (v := undef) rfl (by decide) (by kernel_rfl) (by kernel_rfl) (by kernel_rfl) (fun _ _ _ h => h) (Or.inr ⟨by rfl, rfl⟩) (by assumption) ?_
            try simp only [Act.put, List.setIfInBounds_toArray, List.set_cons_zero, List.set_cons_succ]
            refine wpAnyG_take (i := 17) (oi := { dst := some 59, op := Op.pick (Operand.tmp 53) (Operand.const (Value.bool true)) (Operand.tmp 58), type := 4, pos := "checker.go:40", after := #[{ on := 11, ground := Ground.data }, { on := 16, ground := Ground.data }], guard := none }) (v := ?_) rfl (by decide) (by kernel_rfl) (by kernel_rfl) (by kernel_rfl) (fun _ _ _ h => h) (Or.inl ⟨by rfl, ?_⟩) (by assumption) ?_
            rotate_left 1
            · (intro W hSW; (try dsimp only at hSW); first | (go_simp; done) | (go_simp; with_reducible rfl) | (obtain ⟨_, z0, z1, z2, z3⟩ := hSW; go_simp; done) | (obtain ⟨_, z0, z1, z2, z3⟩ := hSW; go_simp; with_reducible rfl))
            try simp only [Act.put, List.setIfInBounds_toArray, List.set_cons_zero, List.set_cons_succ]
            refine wpAnyG_done (by kernel_rfl) ?_ _
            have HE := Lib.hid (HGW6.out.trans hgr8)
            clear hHeld hdr9 g8 hgr8
            go_wp2_with fail
            refine bodyPost_ret (v := .tuple #[.int .i64 (k : Int), .int .i64 220]) (HRES.out _ _ _ _ rfl rfl) rfl ?_
            exact ⟨by rw [HR.out.2, HR.out.1], HE.out⟩
          | true =>
            have HDO : Hid (∀ W, W6.grownBy W none → Calls Tryz.prog 47 #[.pointer (some ⟨b, 0, none⟩), .agg #[.int .i64 3, .slice sa sn sc, .int .i64 sy]] W (Done w Q b s k (3, L, sy))) := Lib.hid (fun W hg => by
              have hst := HDO1.out W hg
              have hw := HBW.out
              have := do3_calls hst HFINE.out hw rfl
              simp only at this
              rwa [HX.out.2.2] at this)
            obtain ⟨d, hd⟩ : ∃ z, (doP Q.fs Q.Y s (3, L, sy)).isSome = z := ⟨_, rfl⟩
            have HDV := Lib.hid hd
            have HSTEP : Hid (stepP K.fs K.Y s (3, L, sy) = doP Q.fs Q.Y s (3, L, sy)) := Lib.hid (by unfold stepP; rw [HBW.out, if_pos rfl, HQ.out.1, HQ.out.2.1])
            clear hd
            go_wp2_with fail
            clear hW6 hbx hlk x0 x1 x2 t0 t1 t2 t5
            refine wp_region_gone_drew (S := (fun _ => True)) (T := (fun Wh : World => Wh.cell? ⟨b, 5, none⟩ = some (.int .i64 (s.1 : Int)) ∧ Wh.cell? ⟨bx, 0, none⟩ = some (.int .i64 3) ∧ Wh.cell? ⟨bx, 1, none⟩ = some (.slice sa sn sc) ∧ Wh.cell? ⟨bx, 2, none⟩ = some (.int .i64 sy))) (m := 8) (by kernel_rfl) ⟨trivial, HT9.out _ hdr9⟩ (fun hHeld => ?_)
            refine wpAnyG_take (i := 0) (oi := { dst := some 42, op := Op.move (Operand.tmp 13), type := 4, pos := "checker.go:40", after := #[], guard := none }) (v := ?_) rfl (by decide) (by kernel_rfl) (by kernel_rfl) (by kernel_rfl) (fun _ _ _ h => h) (Or.inl ⟨by rfl, ?_⟩) (by assumption) ?_
            rotate_left 1
            · (intro W hSW; (try dsimp only at hSW); first | (go_simp; done) | (go_simp; with_reducible rfl) | (obtain ⟨_, z0, z1, z2, z3⟩ := hSW; go_simp; done) | (obtain ⟨_, z0, z1, z2, z3⟩ := hSW; go_simp; with_reducible rfl))
            try simp only [Act.put, List.setIfInBounds_toArray, List.set_cons_zero, List.set_cons_succ]
            refine wpAnyG_take (i := 1) (oi := { dst := some 43, op := Op.unOp UnOp.not 4 (Operand.tmp 42), type := 4, pos := "checker.go:40", after := #[{ on := 0, ground := Ground.data }], guard := none }) (v := ?_) rfl (by decide) (by kernel_rfl) (by kernel_rfl) (by kernel_rfl) (fun _ _ _ h => h) (Or.inl ⟨by rfl, ?_⟩) (by assumption) ?_
            rotate_left 1
            · (intro W hSW; (try dsimp only at hSW); first | (go_simp; done) | (go_simp; with_reducible rfl) | (obtain ⟨_, z0, z1, z2, z3⟩ := hSW; go_simp; done) | (obtain ⟨_, z0, z1, z2, z3⟩ := hSW; go_simp; with_reducible rfl))
            try simp only [Act.put, List.setIfInBounds_toArray, List.set_cons_zero, List.set_cons_succ]
            refine wpAnyG_take (i := 2) (oi := { dst := some 44, op := Op.move (Operand.tmp 43), type := 4, pos := "checker.go:40", after := #[{ on := 1, ground := Ground.data }], guard := none }) (v := ?_) rfl (by decide) (by kernel_rfl) (by kernel_rfl) (by kernel_rfl) (fun _ _ _ h => h) (Or.inl ⟨by rfl, ?_⟩) (by assumption) ?_
            rotate_left 1
            · (intro W hSW; (try dsimp only at hSW); first | (go_simp; done) | (go_simp; with_reducible rfl) | (obtain ⟨_, z0, z1, z2, z3⟩ := hSW; go_simp; done) | (obtain ⟨_, z0, z1, z2, z3⟩ := hSW; go_simp; with_reducible rfl))
            try simp only [Act.put, List.setIfInBounds_toArray, List.set_cons_zero, List.set_cons_succ]
            refine wpAnyG_take (i := 3) (oi := { dst := some 45, op := Op.move (Operand.tmp 8), type := 49, pos := "checker.go:40", after := #[{ on := 2, ground := Ground.guard }], guard := some (2, false) }) (v := ?_) rfl (by decide) (by kernel_rfl) (by kernel_rfl) (by kernel_rfl) (fun _ _ _ h => h) (Or.inl ⟨by rfl, ?_⟩) (by assumption) ?_
            rotate_left 1
            · (intro W hSW; (try dsimp only at hSW); first | (go_simp; done) | (go_simp; with_reducible rfl) | (obtain ⟨_, z0, z1, z2, z3⟩ := hSW; go_simp; done) | (obtain ⟨_, z0, z1, z2, z3⟩ := hSW; go_simp; with_reducible rfl))
            try simp only [Act.put, List.setIfInBounds_toArray, List.set_cons_zero, List.set_cons_succ]
            refine wpAnyG_take (i := 4) (oi := { dst := some 46, op := Op.nilCheck (Operand.tmp 45), type := 0, pos := "checker.go:40", after := #[{ on := 3, ground := Ground.data }, { on := 2, ground := Ground.guard }], guard := some (2, false) }) (v := ?_) rfl (by decide) (by kernel_rfl) (by kernel_rfl) (by kernel_rfl) (fun _ _ _ h => h) (Or.inl ⟨by rfl, ?_⟩) (by assumption) ?_
            rotate_left 1
            · (intro W hSW; (try dsimp only at hSW); first | (go_simp; done) | (go_simp; with_reducible rfl) | (obtain ⟨_, z0, z1, z2, z3⟩ := hSW; go_simp; done) | (obtain ⟨_, z0, z1, z2, z3⟩ := hSW; go_simp; with_reducible rfl))
            try simp only [Act.put, List.setIfInBounds_toArray, List.set_cons_zero, List.set_cons_succ]
            refine wpAnyG_take (i := 5) (oi := { dst := some 47, op := Op.fieldAddr 53 (Operand.tmp 46) 4, type := 0, pos := "checker.go:40", after := #[{ on := 4, ground := Ground.data }, { on := 2, ground := Ground.guard }], guard := some (2, false) }) (v := ?_) rfl (by decide) (by kernel_rfl) (by kernel_rfl) (by kernel_rfl) (fun _ _ _ h => h) (Or.inl ⟨by rfl, ?_⟩) (by assumption) ?_
            rotate_left 1
            · (intro W hSW; (try dsimp only at hSW); first | (go_simp; done) | (go_simp; with_reducible rfl) | (obtain ⟨_, z0, z1, z2, z3⟩ := hSW; go_simp; done) | (obtain ⟨_, z0, z1, z2, z3⟩ := hSW; go_simp; with_reducible rfl))
            try simp only [Act.put, List.setIfInBounds_toArray, List.set_cons_zero, List.set_cons_succ]
            refine wpAnyG_takeT (i := 6) (oi := { dst := some 48, op := Op.load 3 (Operand.tmp 47), type := 3, pos := "checker.go:40", after := #[{ on := 5, ground := Ground.data }, { on := 2, ground := Ground.guard }], guard := some (2, false) }) (v := ?_) rfl rfl (by kernel_rfl) (by decide) (by kernel_rfl) (by kernel_rfl) (by kernel_rfl) (by kernel_rfl) (fun _ _ _ h => h) (Or.inl ⟨by rfl, ?_⟩) (by assumption) ?_
            rotate_left 1
            · (intro W hSW; (try dsimp only at hSW); first | (go_simp; done) | (go_simp; with_reducible rfl) | (obtain ⟨_, z0, z1, z2, z3⟩ := hSW; go_simp; done) | (obtain ⟨_, z0, z1, z2, z3⟩ := hSW; go_simp; with_reducible rfl))
            try simp only [Act.put, List.setIfInBounds_toArray, List.set_cons_zero, List.set_cons_succ]
            refine wpAnyG_takeT (i := 7) (oi := { dst := some 49, op := Op.load 46 (Operand.tmp 11), type := 46, pos := "checker.go:40", after := #[{ on := 2, ground := Ground.guard }], guard := some (2, false) }) (v := ?_) rfl rfl (by kernel_rfl) (by decide) (by kernel_rfl) (by kernel_rfl) (by kernel_rfl) (by kernel_rfl) (fun _ _ _ h => h) (Or.inl ⟨by rfl, ?_⟩) (by assumption) ?_
            rotate_left 1
            · (intro W hSW; (try dsimp only at hSW); first | (go_simp; done) | (go_simp; with_reducible rfl) | (obtain ⟨_, z0, z1, z2, z3⟩ := hSW; go_simp; done) | (obtain ⟨_, z0, z1, z2, z3⟩ := hSW; go_simp; with_reducible rfl))
            try simp only [Act.put, List.setIfInBounds_toArray, List.set_cons_zero, List.set_cons_succ]
            refine wpAnyG_ready (rs := [8]) (by kernel_rfl) (by simp) ?_
            refine (AllReadyG.cons (o := { dst := some 50, op := Op.call { callee := Callee.value (Operand.func 29), args := #[Operand.tmp 48, Operand.tmp 49], argTypes := #[3, 46] }, type := 4, pos := "checker.go:40", after := #[{ on := 6, ground := Ground.data }, { on := 7, ground := Ground.data }, { on := 2, ground := Ground.chain }, { on := 2, ground := Ground.guard }], guard := some (2, false) }) rfl (fun KK hK => ?_) AllReadyG.nil)
            rw [if_pos (by rfl)]
            go_simp
            go_at_call 29
            refine (HWFC.out _ hdr9).mono ?_
            rintro e w8 ⟨rfl, g8⟩
            have hgr8 := World.grownBy.trans hdr9 g8
            go_wp2_with fail
            refine hK.out _ _ ⟨trivial, .inl (by rfl)⟩ (fun hHeld => ?_)
            clear hK KK
            try simp only [Act.put, List.setIfInBounds_toArray, List.set_cons_zero, List.set_cons_succ]
            refine wpAnyG_take (i := 9) (oi := { dst := some 51, op := Op.unOp UnOp.not 4 (Operand.tmp 50), type := 4, pos := "checker.go:40", after := #[{ on := 8, ground := Ground.data }, { on := 2, ground := Ground.guard }], guard := some (2, false) }) (v := ?_) rfl (by decide) (by kernel_rfl) (by kernel_rfl) (by kernel_rfl) (fun _ _ _ h => h) (Or.inl ⟨by rfl, ?_⟩) (by assumption) ?_
            rotate_left 1
            · (intro W hSW; (try dsimp only at hSW); first | (go_simp; done) | (go_simp; with_reducible rfl) | (obtain ⟨_, z0, z1, z2, z3⟩ := hSW; go_simp; done) | (obtain ⟨_, z0, z1, z2, z3⟩ := hSW; go_simp; with_reducible rfl))
            try simp only [Act.put, List.setIfInBounds_toArray, List.set_cons_zero, List.set_cons_succ]
            refine wpAnyG_take (i := 10) (oi := { dst := some 52, op := Op.pick (Operand.tmp 44) (Operand.const (Value.bool true)) (Operand.tmp 51), type := 4, pos := "checker.go:40", after := #[{ on := 2, ground := Ground.data }, { on := 9, ground := Ground.data }], guard := none }) (v := ?_) rfl (by decide) (by kernel_rfl) (by kernel_rfl) (by kernel_rfl) (fun _ _ _ h => h) (Or.inl ⟨by rfl, ?_⟩) (by assumption) ?_
            rotate_left 1
            · (intro W hSW; (try dsimp only at hSW); first | (go_simp; done) | (go_simp; with_reducible rfl) | (obtain ⟨_, z0, z1, z2, z3⟩ := hSW; go_simp; done) | (obtain ⟨_, z0, z1, z2, z3⟩ := hSW; go_simp; with_reducible rfl))
            try simp only [Act.put, List.setIfInBounds_toArray, List.set_cons_zero, List.set_cons_succ]
            refine wpAnyG_take (i := 11) (oi := { dst := some 53, op := Op.move (Operand.tmp 52), type := 4, pos := "checker.go:40", after := #[{ on := 10, ground := Ground.data }, { on := 8, ground := Ground.chain }], guard := none }) (v := ?_) rfl (by decide) (by kernel_rfl) (by kernel_rfl) (by kernel_rfl) (fun _ _ _ h => h) (Or.inl ⟨by rfl, ?_⟩) (by assumption) ?_
            rotate_left 1
            · (intro W hSW; (try dsimp only at hSW); first | (go_simp; done) | (go_simp; with_reducible rfl) | (obtain ⟨_, z0, z1, z2, z3⟩ := hSW; go_simp; done) | (obtain ⟨_, z0, z1, z2, z3⟩ := hSW; go_simp; with_reducible rfl))
            try simp only [Act.put, List.setIfInBounds_toArray, List.set_cons_zero, List.set_cons_succ]
            refine wpAnyG_take (i := 12) (oi := { dst := some 54, op := Op.move (Operand.tmp 12), type := 56, pos := "checker.go:40", after := #[{ on := 11, ground := Ground.guard }], guard := some (11, false) }) (v := ?_) rfl (by decide) (by kernel_rfl) (by kernel_rfl) (by kernel_rfl) (fun _ _ _ h => h) (Or.inl ⟨by rfl, ?_⟩) (by assumption) ?_
            rotate_left 1
            · (intro W hSW; (try dsimp only at hSW); first | (go_simp; done) | (go_simp; with_reducible rfl) | (obtain ⟨_, z0, z1, z2, z3⟩ := hSW; go_simp; done) | (obtain ⟨_, z0, z1, z2, z3⟩ := hSW; go_simp; with_reducible rfl))
            try simp only [Act.put, List.setIfInBounds_toArray, List.set_cons_zero, List.set_cons_succ]
            refine wpAnyG_take (i := 13) (oi := { dst := some 55, op := Op.move (Operand.tmp 8), type := 49, pos := "checker.go:40", after := #[{ on := 11, ground := Ground.guard }], guard := some (11, false) }) (v := ?_) rfl (by decide) (by kernel_rfl) (by kernel_rfl) (by kernel_rfl) (fun _ _ _ h => h) (Or.inl ⟨by rfl, ?_⟩) (by assumption) ?_
            rotate_left 1
            · (intro W hSW; (try dsimp only at hSW); first | (go_simp; done) | (go_simp; with_reducible rfl) | (obtain ⟨_, z0, z1, z2, z3⟩ := hSW; go_simp; done) | (obtain ⟨_, z0, z1, z2, z3⟩ := hSW; go_simp; with_reducible rfl))
            try simp only [Act.put, List.setIfInBounds_toArray, List.set_cons_zero, List.set_cons_succ]
            refine wpAnyG_ready (rs := [14]) (by kernel_rfl) (by simp) ?_
            refine (AllReadyG.cons (o := { dst := some 56, op := Op.load 46 (Operand.tmp 11), type := 46, pos := "checker.go:40", after := #[{ on := 11, ground := Ground.guard }], guard := some (11, false) }) rfl (fun KK hK => ?_) AllReadyG.nil)
            rw [if_pos (by rfl)]
            obtain ⟨z0, z1, z2, z3⟩ := HT9.out _ hgr8
            go_simp
            clear z0 z1 z2 z3
            refine hK.out _ _ ⟨trivial, .inl (by rfl)⟩ (fun hHeld => ?_)
            clear hK KK
            try simp only [Act.put, List.setIfInBounds_toArray, List.set_cons_zero, List.set_cons_succ]
            refine wpAnyG_ready (rs := [15]) (by kernel_rfl) (by simp) ?_
            refine (AllReadyG.cons (o := { dst := some 57, op := Op.call { callee := Callee.value (Operand.tmp 54), args := #[Operand.tmp 55, Operand.tmp 56], argTypes := #[49, 46] }, type := 4, pos := "checker.go:40", after := #[{ on := 12, ground := Ground.data }, { on := 13, ground := Ground.data }, { on := 14, ground := Ground.data }, { on := 11, ground := Ground.chain }, { on := 11, ground := Ground.guard }], guard := some (11, false) }) rfl (fun KK hK => ?_) AllReadyG.nil)
            rw [if_pos (by rfl)]
            go_simp
            go_at_call 47
            refine (HDO.out _ hgr8).mono ?_
            rintro e w9 hdn
            obtain ⟨he, hst, hgw⟩ := hdn
            rw [HDV.out] at he
            subst he
            go_wp2_with fail
            refine hK.out _ _ ⟨trivial, .inl (by rfl)⟩ (fun hHeld => ?_)
            clear hK KK
            try simp only [Act.put, List.setIfInBounds_toArray, List.set_cons_zero, List.set_cons_succ]
            refine wpAnyG_take (i := 16) (oi := { dst := some 58, op := Op.unOp UnOp.not 4 (Operand.tmp 57), type := 4, pos := "checker.go:40", after := #[{ on := 15, ground := Ground.data }, { on := 11, ground := Ground.guard }], guard := some (11, false) }) (v := ?_) rfl (by decide) (by kernel_rfl) (by kernel_rfl) (by kernel_rfl) (fun _ _ _ h => h) (Or.inl ⟨by rfl, ?_⟩) (by assumption) ?_
            rotate_left 1
            · (intro W hSW; (try dsimp only at hSW); first | (go_simp; done) | (go_simp; with_reducible rfl) | (obtain ⟨_, z0, z1, z2, z3⟩ := hSW; go_simp; done) | (obtain ⟨_, z0, z1, z2, z3⟩ := hSW; go_simp; with_reducible rfl))
            try simp only [Act.put, List.setIfInBounds_toArray, List.set_cons_zero, List.set_cons_succ]
            refine wpAnyG_take (i := 17) (oi := { dst := some 59, op := Op.pick (Operand.tmp 53) (Operand.const (Value.bool true)) (Operand.tmp 58), type := 4, pos := "checker.go:40", after := #[{ on := 11, ground := Ground.data }, { on := 16, ground := Ground.data }], guard := none }) (v := ?_) rfl (by decide) (by kernel_rfl) (by kernel_rfl) (by kernel_rfl) (fun _ _ _ h => h) (Or.inl ⟨by rfl, ?_⟩) (by assumption) ?_
            rotate_left 1
            · (intro W hSW; (try dsimp only at hSW); first | (go_simp; done) | (go_simp; with_reducible rfl) | (obtain ⟨_, z0, z1, z2, z3⟩ := hSW; go_simp; done) | (obtain ⟨_, z0, z1, z2, z3⟩ := hSW; go_simp; with_reducible rfl))
            try simp only [Act.put, List.setIfInBounds_toArray, List.set_cons_zero, List.set_cons_succ]
            refine wpAnyG_done (by kernel_rfl) ?_ _
            have HGW := Lib.hid hgw
            have HST := Lib.hid hst
            clear hHeld hdr9 g8 hgr8 hgw hst
            cases d with
            | false =>
              have HR := Lib.hid (HSTOP.out (by rw [HSTEP.out]; exact Option.isNone_iff_eq_none.1 (by rw [← Option.not_isSome, HDV.out]; rfl)))
              go_wp2_with fail
              all_goals (refine bodyPost_ret (v := .tuple #[.int .i64 (k : Int), .int .i64 220]) (HRES.out _ _ _ _ rfl rfl) rfl ?_; exact ⟨by rw [HR.out.2, HR.out.1], HGW.out⟩)
            | true =>
              obtain ⟨t, ht⟩ := Option.isSome_iff_exists.1 HDV.out
              have HT := Lib.hid ht
              clear ht
              go_wp2_with fail
              go_roundg (n - (k + 1))
              case measure => rw [HI.out.1]; omega
              case rel =>
                have hs := HSTEP.out.trans HT.out
                have hf := (step_fit hs HI.out.2.2.2 (HF.out.1.lw _ HX.out.2.1)).1
                exact ⟨k + 1, t, rfl, rfl, by omega, HST.out t HT.out, run_next HX.out.1 HI.out.2.2.1 hs, hf.le (by omega) (by omega)⟩
        · simp only [Int.reduceEq, if_true, if_false, or_true, decide_true] at hlk
          cases bw with
          | false =>
            have HR := Lib.hid (HSTOP.out (by unfold stepP; rw [HBW.out]; rfl))
            go_wp2_with fail
            clear hW6 hbx hlk x0 x1 x2 t0 t1 t2 t5
            refine wp_region_gone_drew (S := (fun _ => True)) (T := (fun Wh : World => Wh.cell? ⟨b, 5, none⟩ = some (.int .i64 (s.1 : Int)) ∧ Wh.cell? ⟨bx, 0, none⟩ = some (.int .i64 4) ∧ Wh.cell? ⟨bx, 1, none⟩ = some (.slice sa sn sc) ∧ Wh.cell? ⟨bx, 2, none⟩ = some (.int .i64 sy))) (m := 8) (by kernel_rfl) ⟨trivial, HT9.out _ hdr9⟩ (fun hHeld => ?_)
            refine wpAnyG_take (i := 0) (oi := { dst := some 42, op := Op.move (Operand.tmp 13), type := 4, pos := "checker.go:40", after := #[], guard := none }) (v := ?_) rfl (by decide) (by kernel_rfl) (by kernel_rfl) (by kernel_rfl) (fun _ _ _ h => h) (Or.inl ⟨by rfl, ?_⟩) (by assumption) ?_
            rotate_left 1
            · (intro W hSW; (try dsimp only at hSW); first | (go_simp; done) | (go_simp; with_reducible rfl) | (obtain ⟨_, z0, z1, z2, z3⟩ := hSW; go_simp; done) | (obtain ⟨_, z0, z1, z2, z3⟩ := hSW; go_simp; with_reducible rfl))
            try simp only [Act.put, List.setIfInBounds_toArray, List.set_cons_zero, List.set_cons_succ]
            refine wpAnyG_take (i := 1) (oi := { dst := some 43, op := Op.unOp UnOp.not 4 (Operand.tmp 42), type := 4, pos := "checker.go:40", after := #[{ on := 0, ground := Ground.data }], guard := none }) (v := ?_) rfl (by decide) (by kernel_rfl) (by kernel_rfl) (by kernel_rfl) (fun _ _ _ h => h) (Or.inl ⟨by rfl, ?_⟩) (by assumption) ?_
            rotate_left 1
            · (intro W hSW; (try dsimp only at hSW); first | (go_simp; done) | (go_simp; with_reducible rfl) | (obtain ⟨_, z0, z1, z2, z3⟩ := hSW; go_simp; done) | (obtain ⟨_, z0, z1, z2, z3⟩ := hSW; go_simp; with_reducible rfl))
            try simp only [Act.put, List.setIfInBounds_toArray, List.set_cons_zero, List.set_cons_succ]
            refine wpAnyG_take (i := 2) (oi := { dst := some 44, op := Op.move (Operand.tmp 43), type := 4, pos := "checker.go:40", after := #[{ on := 1, ground := Ground.data }], guard := none }) (v := ?_) rfl (by decide) (by kernel_rfl) (by kernel_rfl) (by kernel_rfl) (fun _ _ _ h => h) (Or.inl ⟨by rfl, ?_⟩) (by assumption) ?_
            rotate_left 1
            · (intro W hSW; (try dsimp only at hSW); first | (go_simp; done) | (go_simp; with_reducible rfl) | (obtain ⟨_, z0, z1, z2, z3⟩ := hSW; go_simp; done) | (obtain ⟨_, z0, z1, z2, z3⟩ := hSW; go_simp; with_reducible rfl))
            try simp only [Act.put, List.setIfInBounds_toArray, List.set_cons_zero, List.set_cons_succ]
            refine wpAnyG_take (i := 3) (oi := { dst := some 45, op := Op.move (Operand.tmp 8), type := 49, pos := "checker.go:40", after := #[{ on := 2, ground := Ground.guard }], guard := some (2, false) }) (v := ?_) rfl (by decide) (by kernel_rfl) (by kernel_rfl) (by kernel_rfl) (fun _ _ _ h => h) (Or.inl ⟨by rfl, ?_⟩) (by assumption) ?_
            rotate_left 1
            · (intro W hSW; (try dsimp only at hSW); first | (go_simp; done) | (go_simp; with_reducible rfl) | (obtain ⟨_, z0, z1, z2, z3⟩ := hSW; go_simp; done) | (obtain ⟨_, z0, z1, z2, z3⟩ := hSW; go_simp; with_reducible rfl))
            try simp only [Act.put, List.setIfInBounds_toArray, List.set_cons_zero, List.set_cons_succ]
            refine wpAnyG_take (i := 4) (oi := { dst := some 46, op := Op.nilCheck (Operand.tmp 45), type := 0, pos := "checker.go:40", after := #[{ on := 3, ground := Ground.data }, { on := 2, ground := Ground.guard }], guard := some (2, false) }) (v := ?_) rfl (by decide) (by kernel_rfl) (by kernel_rfl) (by kernel_rfl) (fun _ _ _ h => h) (Or.inl ⟨by rfl, ?_⟩) (by assumption) ?_
            rotate_left 1
            · (intro W hSW; (try dsimp only at hSW); first | (go_simp; done) | (go_simp; with_reducible rfl) | (obtain ⟨_, z0, z1, z2, z3⟩ := hSW; go_simp; done) | (obtain ⟨_, z0, z1, z2, z3⟩ := hSW; go_simp; with_reducible rfl))
            try simp only [Act.put, List.setIfInBounds_toArray, List.set_cons_zero, List.set_cons_succ]
            refine wpAnyG_take (i := 5) (oi := { dst := some 47, op := Op.fieldAddr 53 (Operand.tmp 46) 4, type := 0, pos := "checker.go:40", after := #[{ on := 4, ground := Ground.data }, { on := 2, ground := Ground.guard }], guard := some (2, false) }) (v := ?_) rfl (by decide) (by kernel_rfl) (by kernel_rfl) (by kernel_rfl) (fun _ _ _ h => h) (Or.inl ⟨by rfl, ?_⟩) (by assumption) ?_
            rotate_left 1
            · (intro W hSW; (try dsimp only at hSW); first | (go_simp; done) | (go_simp; with_reducible rfl) | (obtain ⟨_, z0, z1, z2, z3⟩ := hSW; go_simp; done) | (obtain ⟨_, z0, z1, z2, z3⟩ := hSW; go_simp; with_reducible rfl))
            try simp only [Act.put, List.setIfInBounds_toArray, List.set_cons_zero, List.set_cons_succ]
            refine wpAnyG_takeT (i := 6) (oi := { dst := some 48, op := Op.load 3 (Operand.tmp 47), type := 3, pos := "checker.go:40", after := #[{ on := 5, ground := Ground.data }, { on := 2, ground := Ground.guard }], guard := some (2, false) }) (v := ?_) rfl rfl (by kernel_rfl) (by decide) (by kernel_rfl) (by kernel_rfl) (by kernel_rfl) (by kernel_rfl) (fun _ _ _ h => h) (Or.inl ⟨by rfl, ?_⟩) (by assumption) ?_
            rotate_left 1
            · (intro W hSW; (try dsimp only at hSW); first | (go_simp; done) | (go_simp; with_reducible rfl) | (obtain ⟨_, z0, z1, z2, z3⟩ := hSW; go_simp; done) | (obtain ⟨_, z0, z1, z2, z3⟩ := hSW; go_simp; with_reducible rfl))
            try simp only [Act.put, List.setIfInBounds_toArray, List.set_cons_zero, List.set_cons_succ]
            refine wpAnyG_takeT (i := 7) (oi := { dst := some 49, op := Op.load 46 (Operand.tmp 11), type := 46, pos := "checker.go:40", after := #[{ on := 2, ground := Ground.guard }], guard := some (2, false) }) (v := ?_) rfl rfl (by kernel_rfl) (by decide) (by kernel_rfl) (by kernel_rfl) (by kernel_rfl) (by kernel_rfl) (fun _ _ _ h => h) (Or.inl ⟨by rfl, ?_⟩) (by assumption) ?_
            rotate_left 1
            · (intro W hSW; (try dsimp only at hSW); first | (go_simp; done) | (go_simp; with_reducible rfl) | (obtain ⟨_, z0, z1, z2, z3⟩ := hSW; go_simp; done) | (obtain ⟨_, z0, z1, z2, z3⟩ := hSW; go_simp; with_reducible rfl))
            try simp only [Act.put, List.setIfInBounds_toArray, List.set_cons_zero, List.set_cons_succ]
            refine wpAnyG_ready (rs := [8]) (by kernel_rfl) (by simp) ?_
            refine (AllReadyG.cons (o := { dst := some 50, op := Op.call { callee := Callee.value (Operand.func 29), args := #[Operand.tmp 48, Operand.tmp 49], argTypes := #[3, 46] }, type := 4, pos := "checker.go:40", after := #[{ on := 6, ground := Ground.data }, { on := 7, ground := Ground.data }, { on := 2, ground := Ground.chain }, { on := 2, ground := Ground.guard }], guard := some (2, false) }) rfl (fun KK hK => ?_) AllReadyG.nil)
            rw [if_pos (by rfl)]
            go_simp
            go_at_call 29
            refine (HWFC.out _ hdr9).mono ?_
            rintro e w8 ⟨rfl, g8⟩
            have hgr8 := World.grownBy.trans hdr9 g8
            go_wp2_with fail
            refine hK.out _ _ ⟨trivial, .inl (by rfl)⟩ (fun hHeld => ?_)
            clear hK KK
            try simp only [Act.put, List.setIfInBounds_toArray, List.set_cons_zero, List.set_cons_succ]
            refine wpAnyG_take (i := 9) (oi := { dst := some 51, op := Op.unOp UnOp.not 4 (Operand.tmp 50), type := 4, pos := "checker.go:40", after := #[{ on := 8, ground := Ground.data }, { on := 2, ground := Ground.guard }], guard := some (2, false) }) (v := ?_) rfl (by decide) (by kernel_rfl) (by kernel_rfl) (by kernel_rfl) (fun _ _ _ h => h) (Or.inl ⟨by rfl, ?_⟩) (by assumption) ?_
            rotate_left 1
            · (intro W hSW; (try dsimp only at hSW); first | (go_simp; done) | (go_simp; with_reducible rfl) | (obtain ⟨_, z0, z1, z2, z3⟩ := hSW; go_simp; done) | (obtain ⟨_, z0, z1, z2, z3⟩ := hSW; go_simp; with_reducible rfl))
            try simp only [Act.put, List.setIfInBounds_toArray, List.set_cons_zero, List.set_cons_succ]
            refine wpAnyG_take (i := 10) (oi := { dst := some 52, op := Op.pick (Operand.tmp 44) (Operand.const (Value.bool true)) (Operand.tmp 51), type := 4, pos := "checker.go:40", after := #[{ on := 2, ground := Ground.data }, { on := 9, ground := Ground.data }], guard := none }) (v := ?_) rfl (by decide) (by kernel_rfl) (by kernel_rfl) (by kernel_rfl) (fun _ _ _ h => h) (Or.inl ⟨by rfl, ?_⟩) (by assumption) ?_
            rotate_left 1
            · (intro W hSW; (try dsimp only at hSW); first | (go_simp; done) | (go_simp; with_reducible rfl) | (obtain ⟨_, z0, z1, z2, z3⟩ := hSW; go_simp; done) | (obtain ⟨_, z0, z1, z2, z3⟩ := hSW; go_simp; with_reducible rfl))
            try simp only [Act.put, List.setIfInBounds_toArray, List.set_cons_zero, List.set_cons_succ]
            refine wpAnyG_take (i := 11) (oi := { dst := some 53, op := Op.move (Operand.tmp 52), type := 4, pos := "checker.go:40", after := #[{ on := 10, ground := Ground.data }, { on := 8, ground := Ground.chain }], guard := none }) (v := ?_) rfl (by decide) (by kernel_rfl) (by kernel_rfl) (by kernel_rfl) (fun _ _ _ h => h) (Or.inl ⟨by rfl, ?_⟩) (by assumption) ?_
            rotate_left 1
            · (intro W hSW; (try dsimp only at hSW); first | (go_simp; done) | (go_simp; with_reducible rfl) | (obtain ⟨_, z0, z1, z2, z3⟩ := hSW; go_simp; done) | (obtain ⟨_, z0, z1, z2, z3⟩ := hSW; go_simp; with_reducible rfl))
            try simp only [Act.put, List.setIfInBounds_toArray, List.set_cons_zero, List.set_cons_succ]
            refine wpAnyG_take (i := 12) (oi := { dst := some 54, op := Op.move (Operand.tmp 12), type := 56, pos := "checker.go:40", after := #[{ on := 11, ground := Ground.guard }], guard := some (11, false) }) (v := undef) rfl (by decide) (by kernel_rfl) (by kernel_rfl) (by kernel_rfl) (fun _ _ _ h => h) (Or.inr ⟨by rfl, rfl⟩) (by assumption) ?_
            try simp only [Act.put, List.setIfInBounds_toArray, List.set_cons_zero, List.set_cons_succ]
            refine wpAnyG_take (i := 13) (oi := { dst := some 55, op := Op.move (Operand.tmp 8), type := 49, pos := "checker.go:40", after := #[{ on := 11, ground := Ground.guard }], guard := some (11, false) }) (v := undef) rfl (by decide) (by kernel_rfl) (by kernel_rfl) (by kernel_rfl) (fun _ _ _ h => h) (Or.inr ⟨by rfl, rfl⟩) (by assumption) ?_
            try simp only [Act.put, List.setIfInBounds_toArray, List.set_cons_zero, List.set_cons_succ]
            refine wpAnyG_take (i := 14) (oi := { dst := some 56, op := Op.load 46 (Operand.tmp 11), type := 46, pos := "checker.go:40", after := #[{ on := 11, ground := Ground.guard }], guard := some (11, false) }) (v := undef) rfl (by decide) (by kernel_rfl) (by kernel_rfl) (by kernel_rfl) (fun _ _ _ h => h) (Or.inr ⟨by rfl, rfl⟩) (by assumption) ?_
            try simp only [Act.put, List.setIfInBounds_toArray, List.set_cons_zero, List.set_cons_succ]
            refine wpAnyG_take (i := 15) (oi := { dst := some 57, op := Op.call { callee := Callee.value (Operand.tmp 54), args := #[Operand.tmp 55, Operand.tmp 56], argTypes := #[49, 46] }, type := 4, pos := "checker.go:40", after := #[{ on := 12, ground := Ground.data }, { on := 13, ground := Ground.data }, { on := 14, ground := Ground.data }, { on := 11, ground := Ground.chain }, { on := 11, ground := Ground.guard }], guard := some (11, false) }) (v := undef) rfl (by decide) (by kernel_rfl) (by kernel_rfl) (by kernel_rfl) (fun _ _ _ h => h) (Or.inr ⟨by rfl, rfl⟩) (by assumption) ?_
            try simp only [Act.put, List.setIfInBounds_toArray, List.set_cons_zero, List.set_cons_succ]
            refine wpAnyG_take (i := 16) (oi := { dst := some 58, op := Op.unOp UnOp.not 4 (Operand.tmp 57), type := 4, pos := "checker.go:40", after := #[{ on := 15, ground := Ground.data }, { on := 11, ground := Ground.guard }], guard := some (11, false) }) (v := undef) rfl (by decide) (by kernel_rfl) (by kernel_rfl) (by kernel_rfl) (fun _ _ _ h => h) (Or.inr ⟨by rfl, rfl⟩) (by assumption) ?_
            try simp only [Act.put, List.setIfInBounds_toArray, List.set_cons_zero, List.set_cons_succ]
            refine wpAnyG_take (i := 17) (oi := { dst := some 59, op := Op.pick (Operand.tmp 53) (Operand.const (Value.bool true)) (Operand.tmp 58), type := 4, pos := "checker.go:40", after := #[{ on := 11, ground := Ground.data }, { on := 16, ground := Ground.data }], guard := none }) (v := ?_) rfl (by decide) (by kernel_rfl) (by kernel_rfl) (by kernel_rfl) (fun _ _ _ h => h) (Or.inl ⟨by rfl, ?_⟩) (by assumption) ?_
            rotate_left 1
            · (intro W hSW; (try dsimp only at hSW); first | (go_simp; done) | (go_simp; with_reducible rfl) | (obtain ⟨_, z0, z1, z2, z3⟩ := hSW; go_simp; done) | (obtain ⟨_, z0, z1, z2, z3⟩ := hSW; go_simp; with_reducible rfl))
            try simp only [Act.put, List.setIfInBounds_toArray, List.set_cons_zero, List.set_cons_succ]
            refine wpAnyG_done (by kernel_rfl) ?_ _
            have HE := Lib.hid (HGW6.out.trans hgr8)
            clear hHeld hdr9 g8 hgr8
            go_wp2_with fail
            refine bodyPost_ret (v := .tuple #[.int .i64 (k : Int), .int .i64 220]) (HRES.out _ _ _ _ rfl rfl) rfl ?_
            exact ⟨by rw [HR.out.2, HR.out.1], HE.out⟩
          | true =>
            have HDO : Hid (∀ W, W6.grownBy W none → Calls Tryz.prog 48 #[.pointer (some ⟨b, 0, none⟩), .agg #[.int .i64 4, .slice sa sn sc, .int .i64 sy]] W (Done w Q b s k (4, L, sy))) := Lib.hid (fun W hg => by
              have hst := HDO1.out W hg
              have hw := HBW.out
              have := do4_calls HQ.out.2.2.2.2 hst HFINE.out rfl
              simp only at this
              rwa [HX.out.2.2] at this)
            obtain ⟨d, hd⟩ : ∃ z, (doP Q.fs Q.Y s (4, L, sy)).isSome = z := ⟨_, rfl⟩
            have HDV := Lib.hid hd
            have HSTEP : Hid (stepP K.fs K.Y s (4, L, sy) = doP Q.fs Q.Y s (4, L, sy)) := Lib.hid (by unfold stepP; rw [HBW.out, if_pos rfl, HQ.out.1, HQ.out.2.1])
            clear hd
            go_wp2_with fail
            clear hW6 hbx hlk x0 x1 x2 t0 t1 t2 t5
            refine wp_region_gone_drew (S := (fun _ => True)) (T := (fun Wh : World => Wh.cell? ⟨b, 5, none⟩ = some (.int .i64 (s.1 : Int)) ∧ Wh.cell? ⟨bx, 0, none⟩ = some (.int .i64 4) ∧ Wh.cell? ⟨bx, 1, none⟩ = some (.slice sa sn sc) ∧ Wh.cell? ⟨bx, 2, none⟩ = some (.int .i64 sy))) (m := 8) (by kernel_rfl) ⟨trivial, HT9.out _ hdr9⟩ (fun hHeld => ?_)
            refine wpAnyG_take (i := 0) (oi := { dst := some 42, op := Op.move (Operand.tmp 13), type := 4, pos := "checker.go:40", after := #[], guard := none }) (v := ?_) rfl (by decide) (by kernel_rfl) (by kernel_rfl) (by kernel_rfl) (fun _ _ _ h => h) (Or.inl ⟨by rfl, ?_⟩) (by assumption) ?_
            rotate_left 1
            · (intro W hSW; (try dsimp only at hSW); first | (go_simp; done) | (go_simp; with_reducible rfl) | (obtain ⟨_, z0, z1, z2, z3⟩ := hSW; go_simp; done) | (obtain ⟨_, z0, z1, z2, z3⟩ := hSW; go_simp; with_reducible rfl))
            try simp only [Act.put, List.setIfInBounds_toArray, List.set_cons_zero, List.set_cons_succ]
            refine wpAnyG_take (i := 1) (oi := { dst := some 43, op := Op.unOp UnOp.not 4 (Operand.tmp 42), type := 4, pos := "checker.go:40", after := #[{ on := 0, ground := Ground.data }], guard := none }) (v := ?_) rfl (by decide) (by kernel_rfl) (by kernel_rfl) (by kernel_rfl) (fun _ _ _ h => h) (Or.inl ⟨by rfl, ?_⟩) (by assumption) ?_
            rotate_left 1
            · (intro W hSW; (try dsimp only at hSW); first | (go_simp; done) | (go_simp; with_reducible rfl) | (obtain ⟨_, z0, z1, z2, z3⟩ := hSW; go_simp; done) | (obtain ⟨_, z0, z1, z2, z3⟩ := hSW; go_simp; with_reducible rfl))
            try simp only [Act.put, List.setIfInBounds_toArray, List.set_cons_zero, List.set_cons_succ]
            refine wpAnyG_take (i := 2) (oi := { dst := some 44, op := Op.move (Operand.tmp 43), type := 4, pos := "checker.go:40", after := #[{ on := 1, ground := Ground.data }], guard := none }) (v := ?_) rfl (by decide) (by kernel_rfl) (by kernel_rfl) (by kernel_rfl) (fun _ _ _ h => h) (Or.inl ⟨by rfl, ?_⟩) (by assumption) ?_
            rotate_left 1
            · (intro W hSW; (try dsimp only at hSW); first | (go_simp; done) | (go_simp; with_reducible rfl) | (obtain ⟨_, z0, z1, z2, z3⟩ := hSW; go_simp; done) | (obtain ⟨_, z0, z1, z2, z3⟩ := hSW; go_simp; with_reducible rfl))
            try simp only [Act.put, List.setIfInBounds_toArray, List.set_cons_zero, List.set_cons_succ]
            refine wpAnyG_take (i := 3) (oi := { dst := some 45, op := Op.move (Operand.tmp 8), type := 49, pos := "checker.go:40", after := #[{ on := 2, ground := Ground.guard }], guard := some (2, false) }) (v := ?_) rfl (by decide) (by kernel_rfl) (by kernel_rfl) (by kernel_rfl) (fun _ _ _ h => h) (Or.inl ⟨by rfl, ?_⟩) (by assumption) ?_
            rotate_left 1
            · (intro W hSW; (try dsimp only at hSW); first | (go_simp; done) | (go_simp; with_reducible rfl) | (obtain ⟨_, z0, z1, z2, z3⟩ := hSW; go_simp; done) | (obtain ⟨_, z0, z1, z2, z3⟩ := hSW; go_simp; with_reducible rfl))
            try simp only [Act.put, List.setIfInBounds_toArray, List.set_cons_zero, List.set_cons_succ]
            refine wpAnyG_take (i := 4) (oi := { dst := some 46, op := Op.nilCheck (Operand.tmp 45), type := 0, pos := "checker.go:40", after := #[{ on := 3, ground := Ground.data }, { on := 2, ground := Ground.guard }], guard := some (2, false) }) (v := ?_) rfl (by decide) (by kernel_rfl) (by kernel_rfl) (by kernel_rfl) (fun _ _ _ h => h) (Or.inl ⟨by rfl, ?_⟩) (by assumption) ?_
            rotate_left 1
            · (intro W hSW; (try dsimp only at hSW); first | (go_simp; done) | (go_simp; with_reducible rfl) | (obtain ⟨_, z0, z1, z2, z3⟩ := hSW; go_simp; done) | (obtain ⟨_, z0, z1, z2, z3⟩ := hSW; go_simp; with_reducible rfl))
            try simp only [Act.put, List.setIfInBounds_toArray, List.set_cons_zero, List.set_cons_succ]
            refine wpAnyG_take (i := 5) (oi := { dst := some 47, op := Op.fieldAddr 53 (Operand.tmp 46) 4, type := 0, pos := "checker.go:40", after := #[{ on := 4, ground := Ground.data }, { on := 2, ground := Ground.guard }], guard := some (2, false) }) (v := ?_) rfl (by decide) (by kernel_rfl) (by kernel_rfl) (by kernel_rfl) (fun _ _ _ h => h) (Or.inl ⟨by rfl, ?_⟩) (by assumption) ?_
            rotate_left 1
            · (intro W hSW; (try dsimp only at hSW); first | (go_simp; done) | (go_simp; with_reducible rfl) | (obtain ⟨_, z0, z1, z2, z3⟩ := hSW; go_simp; done) | (obtain ⟨_, z0, z1, z2, z3⟩ := hSW; go_simp; with_reducible rfl))
            try simp only [Act.put, List.setIfInBounds_toArray, List.set_cons_zero, List.set_cons_succ]
            refine wpAnyG_takeT (i := 6) (oi := { dst := some 48, op := Op.load 3 (Operand.tmp 47), type := 3, pos := "checker.go:40", after := #[{ on := 5, ground := Ground.data }, { on := 2, ground := Ground.guard }], guard := some (2, false) }) (v := ?_) rfl rfl (by kernel_rfl) (by decide) (by kernel_rfl) (by kernel_rfl) (by kernel_rfl) (by kernel_rfl) (fun _ _ _ h => h) (Or.inl ⟨by rfl, ?_⟩) (by assumption) ?_
            rotate_left 1
            · (intro W hSW; (try dsimp only at hSW); first | (go_simp; done) | (go_simp; with_reducible rfl) | (obtain ⟨_, z0, z1, z2, z3⟩ := hSW; go_simp; done) | (obtain ⟨_, z0, z1, z2, z3⟩ := hSW; go_simp; with_reducible rfl))
            try simp only [Act.put, List.setIfInBounds_toArray, List.set_cons_zero, List.set_cons_succ]
            refine wpAnyG_takeT (i := 7) (oi := { dst := some 49, op := Op.load 46 (Operand.tmp 11), type := 46, pos := "checker.go:40", after := #[{ on := 2, ground := Ground.guard }], guard := some (2, false) }) (v := ?_) rfl rfl (by kernel_rfl) (by decide) (by kernel_rfl) (by kernel_rfl) (by kernel_rfl) (by kernel_rfl) (fun _ _ _ h => h) (Or.inl ⟨by rfl, ?_⟩) (by assumption) ?_
            rotate_left 1
            · (intro W hSW; (try dsimp only at hSW); first | (go_simp; done) | (go_simp; with_reducible rfl) | (obtain ⟨_, z0, z1, z2, z3⟩ := hSW; go_simp; done) | (obtain ⟨_, z0, z1, z2, z3⟩ := hSW; go_simp; with_reducible rfl))
            try simp only [Act.put, List.setIfInBounds_toArray, List.set_cons_zero, List.set_cons_succ]
            refine wpAnyG_ready (rs := [8]) (by kernel_rfl) (by simp) ?_
            refine (AllReadyG.cons (o := { dst := some 50, op := Op.call { callee := Callee.value (Operand.func 29), args := #[Operand.tmp 48, Operand.tmp 49], argTypes := #[3, 46] }, type := 4, pos := "checker.go:40", after := #[{ on := 6, ground := Ground.data }, { on := 7, ground := Ground.data }, { on := 2, ground := Ground.chain }, { on := 2, ground := Ground.guard }], guard := some (2, false) }) rfl (fun KK hK => ?_) AllReadyG.nil)
            rw [if_pos (by rfl)]
            go_simp
            go_at_call 29
            refine (HWFC.out _ hdr9).mono ?_
            rintro e w8 ⟨rfl, g8⟩
            have hgr8 := World.grownBy.trans hdr9 g8
            go_wp2_with fail
            refine hK.out _ _ ⟨trivial, .inl (by rfl)⟩ (fun hHeld => ?_)
            clear hK KK
            try simp only [Act.put, List.setIfInBounds_toArray, List.set_cons_zero, List.set_cons_succ]
            refine wpAnyG_take (i := 9) (oi := { dst := some 51, op := Op.unOp UnOp.not 4 (Operand.tmp 50), type := 4, pos := "checker.go:40", after := #[{ on := 8, ground := Ground.data }, { on := 2, ground := Ground.guard }], guard := some (2, false) }) (v := ?_) rfl (by decide) (by kernel_rfl) (by kernel_rfl) (by kernel_rfl) (fun _ _ _ h => h) (Or.inl ⟨by rfl, ?_⟩) (by assumption) ?_
            rotate_left 1
            · (intro W hSW; (try dsimp only at hSW); first | (go_simp; done) | (go_simp; with_reducible rfl) | (obtain ⟨_, z0, z1, z2, z3⟩ := hSW; go_simp; done) | (obtain ⟨_, z0, z1, z2, z3⟩ := hSW; go_simp; with_reducible rfl))
            try simp only [Act.put, List.setIfInBounds_toArray, List.set_cons_zero, List.set_cons_succ]
            refine wpAnyG_take (i := 10) (oi := { dst := some 52, op := Op.pick (Operand.tmp 44) (Operand.const (Value.bool true)) (Operand.tmp 51), type := 4, pos := "checker.go:40", after := #[{ on := 2, ground := Ground.data }, { on := 9, ground := Ground.data }], guard := none }) (v := ?_) rfl (by decide) (by kernel_rfl) (by kernel_rfl) (by kernel_rfl) (fun _ _ _ h => h) (Or.inl ⟨by rfl, ?_⟩) (by assumption) ?_
            rotate_left 1
            · (intro W hSW; (try dsimp only at hSW); first | (go_simp; done) | (go_simp; with_reducible rfl) | (obtain ⟨_, z0, z1, z2, z3⟩ := hSW; go_simp; done) | (obtain ⟨_, z0, z1, z2, z3⟩ := hSW; go_simp; with_reducible rfl))
            try simp only [Act.put, List.setIfInBounds_toArray, List.set_cons_zero, List.set_cons_succ]
            refine wpAnyG_take (i := 11) (oi := { dst := some 53, op := Op.move (Operand.tmp 52), type := 4, pos := "checker.go:40", after := #[{ on := 10, ground := Ground.data }, { on := 8, ground := Ground.chain }], guard := none }) (v := ?_) rfl (by decide) (by kernel_rfl) (by kernel_rfl) (by kernel_rfl) (fun _ _ _ h => h) (Or.inl ⟨by rfl, ?_⟩) (by assumption) ?_
            rotate_left 1
            · (intro W hSW; (try dsimp only at hSW); first | (go_simp; done) | (go_simp; with_reducible rfl) | (obtain ⟨_, z0, z1, z2, z3⟩ := hSW; go_simp; done) | (obtain ⟨_, z0, z1, z2, z3⟩ := hSW; go_simp; with_reducible rfl))
            try simp only [Act.put, List.setIfInBounds_toArray, List.set_cons_zero, List.set_cons_succ]
            refine wpAnyG_take (i := 12) (oi := { dst := some 54, op := Op.move (Operand.tmp 12), type := 56, pos := "checker.go:40", after := #[{ on := 11, ground := Ground.guard }], guard := some (11, false) }) (v := ?_) rfl (by decide) (by kernel_rfl) (by kernel_rfl) (by kernel_rfl) (fun _ _ _ h => h) (Or.inl ⟨by rfl, ?_⟩) (by assumption) ?_
            rotate_left 1
            · (intro W hSW; (try dsimp only at hSW); first | (go_simp; done) | (go_simp; with_reducible rfl) | (obtain ⟨_, z0, z1, z2, z3⟩ := hSW; go_simp; done) | (obtain ⟨_, z0, z1, z2, z3⟩ := hSW; go_simp; with_reducible rfl))
            try simp only [Act.put, List.setIfInBounds_toArray, List.set_cons_zero, List.set_cons_succ]
            refine wpAnyG_take (i := 13) (oi := { dst := some 55, op := Op.move (Operand.tmp 8), type := 49, pos := "checker.go:40", after := #[{ on := 11, ground := Ground.guard }], guard := some (11, false) }) (v := ?_) rfl (by decide) (by kernel_rfl) (by kernel_rfl) (by kernel_rfl) (fun _ _ _ h => h) (Or.inl ⟨by rfl, ?_⟩) (by assumption) ?_
            rotate_left 1
            · (intro W hSW; (try dsimp only at hSW); first | (go_simp; done) | (go_simp; with_reducible rfl) | (obtain ⟨_, z0, z1, z2, z3⟩ := hSW; go_simp; done) | (obtain ⟨_, z0, z1, z2, z3⟩ := hSW; go_simp; with_reducible rfl))
            try simp only [Act.put, List.setIfInBounds_toArray, List.set_cons_zero, List.set_cons_succ]
            refine wpAnyG_ready (rs := [14]) (by kernel_rfl) (by simp) ?_
            refine (AllReadyG.cons (o := { dst := some 56, op := Op.load 46 (Operand.tmp 11), type := 46, pos := "checker.go:40", after := #[{ on := 11, ground := Ground.guard }], guard := some (11, false) }) rfl (fun KK hK => ?_) AllReadyG.nil)
            rw [if_pos (by rfl)]
            obtain ⟨z0, z1, z2, z3⟩ := HT9.out _ hgr8
            go_simp
            clear z0 z1 z2 z3
            refine hK.out _ _ ⟨trivial, .inl (by rfl)⟩ (fun hHeld => ?_)
            clear hK KK
            try simp only [Act.put, List.setIfInBounds_toArray, List.set_cons_zero, List.set_cons_succ]
            refine wpAnyG_ready (rs := [15]) (by kernel_rfl) (by simp) ?_
            refine (AllReadyG.cons (o := { dst := some 57, op := Op.call { callee := Callee.value (Operand.tmp 54), args := #[Operand.tmp 55, Operand.tmp 56], argTypes := #[49, 46] }, type := 4, pos := "checker.go:40", after := #[{ on := 12, ground := Ground.data }, { on := 13, ground := Ground.data }, { on := 14, ground := Ground.data }, { on := 11, ground := Ground.chain }, { on := 11, ground := Ground.guard }], guard := some (11, false) }) rfl (fun KK hK => ?_) AllReadyG.nil)
            rw [if_pos (by rfl)]
            go_simp
            go_at_call 48
            refine (HDO.out _ hgr8).mono ?_
            rintro e w9 hdn
            obtain ⟨he, hst, hgw⟩ := hdn
            rw [HDV.out] at he
            subst he
            go_wp2_with fail
            refine hK.out _ _ ⟨trivial, .inl (by rfl)⟩ (fun hHeld => ?_)
            clear hK KK
            try simp only [Act.put, List.setIfInBounds_toArray, List.set_cons_zero, List.set_cons_succ]
            refine wpAnyG_take (i := 16) (oi := { dst := some 58, op := Op.unOp UnOp.not 4 (Operand.tmp 57), type := 4, pos := "checker.go:40", after := #[{ on := 15, ground := Ground.data }, { on := 11, ground := Ground.guard }], guard := some (11, false) }) (v := ?_) rfl (by decide) (by kernel_rfl) (by kernel_rfl) (by kernel_rfl) (fun _ _ _ h => h) (Or.inl ⟨by rfl, ?_⟩) (by assumption) ?_
            rotate_left 1
            · (intro W hSW; (try dsimp only at hSW); first | (go_simp; done) | (go_simp; with_reducible rfl) | (obtain ⟨_, z0, z1, z2, z3⟩ := hSW; go_simp; done) | (obtain ⟨_, z0, z1, z2, z3⟩ := hSW; go_simp; with_reducible rfl))
            try simp only [Act.put, List.setIfInBounds_toArray, List.set_cons_zero, List.set_cons_succ]
            refine wpAnyG_take (i := 17) (oi := { dst := some 59, op := Op.pick (Operand.tmp 53) (Operand.const (Value.bool true)) (Operand.tmp 58), type := 4, pos := "checker.go:40", after := #[{ on := 11, ground := Ground.data }, { on := 16, ground := Ground.data }], guard := none }) (v := ?_) rfl (by decide) (by kernel_rfl) (by kernel_rfl) (by kernel_rfl) (fun _ _ _ h => h) (Or.inl ⟨by rfl, ?_⟩) (by assumption) ?_
            rotate_left 1
            · (intro W hSW; (try dsimp only at hSW); first | (go_simp; done) | (go_simp; with_reducible rfl) | (obtain ⟨_, z0, z1, z2, z3⟩ := hSW; go_simp; done) | (obtain ⟨_, z0, z1, z2, z3⟩ := hSW; go_simp; with_reducible rfl))
            try simp only [Act.put, List.setIfInBounds_toArray, List.set_cons_zero, List.set_cons_succ]
            refine wpAnyG_done (by kernel_rfl) ?_ _
            have HGW := Lib.hid hgw
            have HST := Lib.hid hst
            clear hHeld hdr9 g8 hgr8 hgw hst
            cases d with
            | false =>
              have HR := Lib.hid (HSTOP.out (by rw [HSTEP.out]; exact Option.isNone_iff_eq_none.1 (by rw [← Option.not_isSome, HDV.out]; rfl)))
              go_wp2_with fail
              all_goals (refine bodyPost_ret (v := .tuple #[.int .i64 (k : Int), .int .i64 220]) (HRES.out _ _ _ _ rfl rfl) rfl ?_; exact ⟨by rw [HR.out.2, HR.out.1], HGW.out⟩)
            | true =>
              obtain ⟨t, ht⟩ := Option.isSome_iff_exists.1 HDV.out
              have HT := Lib.hid ht
              clear ht
              go_wp2_with fail
              go_roundg (n - (k + 1))
              case measure => rw [HI.out.1]; omega
              case rel =>
                have hs := HSTEP.out.trans HT.out
                have hf := (step_fit hs HI.out.2.2.2 (HF.out.1.lw _ HX.out.2.1)).1
                exact ⟨k + 1, t, rfl, rfl, by omega, HST.out t HT.out, run_next HX.out.1 HI.out.2.2.1 hs, hf.le (by omega) (by omega)⟩
      · have hke : k = n := by omega
        subst hke
        have f2 : decide ((k : Int) < (k : Int)) = false := decide_eq_false (by omega)
        have f2' : decide (k < k) = false := by simp
        have HR : Hid (chkP K.fs K.Y l = k) := Lib.hid (by
          have := HI.out.2.2.1
          rw [List.take_of_length_le (by rw [HF.out.2.1]; exact Nat.le_refl _)] at this
          unfold chkP; rw [this])
        have HRE : Hid (errC (chkP K.fs K.Y l) k = 0) := Lib.hid (by rw [HR.out]; unfold errC; rw [if_pos rfl])
        have HGW := Lib.hid HI.out.2.1.grown
        go_wp2_with fail
        refine bodyPost_ret (v := .tuple #[.int .i64 (k : Int), .int .i64 0]) (HRES.out _ _ _ _ rfl rfl) rfl ?_
        exact ⟨by rw [HRE.out, HR.out], HGW.out⟩
end Go.Proofs.YtihaheinkpmnnaaGreat

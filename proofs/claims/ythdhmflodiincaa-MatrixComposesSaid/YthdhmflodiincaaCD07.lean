/- Texts of the proof: M5. -/
import Derived.Test.YthdhmflodiincaaCD00
import Derived.Test.YthdhmflodiincaaCD06
set_option maxRecDepth 100000
set_option maxHeartbeats 8000000
namespace Go.Proofs.Ythdhmflodiincaa
open Lib (hid)
open Go.RowKit Go.Maps

abbrev m5o0 : Oper := { dst := some 31, op := Op.load 28 (Operand.tmp 30), type := 28, pos := "gates.go:87", after := #[{ on := 3, ground := Ground.data }], guard := none }
abbrev m5o1 : Oper := { dst := some 38, op := Op.load 28 (Operand.tmp 37), type := 28, pos := "gates.go:87", after := #[{ on := 10, ground := Ground.data }], guard := none }
abbrev m5o2 : Oper := { dst := some 32, op := Op.call { callee := Callee.builtin Builtin.len, args := #[Operand.tmp 31], argTypes := #[28] }, type := 3, pos := "gates.go:87", after := #[{ on := 4, ground := Ground.data }], guard := none }
abbrev m5o3 : Oper := { dst := some 33, op := Op.binOp BinOp.add 3 (Operand.tmp 32) (Operand.const (Value.int IntKind.i64 16)) 3, type := 3, pos := "gates.go:87", after := #[{ on := 5, ground := Ground.data }], guard := none }
abbrev m5o4 : Oper := { dst := some 34, op := Op.makeSlice 28 (Operand.const (Value.int IntKind.i64 0)) (Operand.tmp 33), type := 28, pos := "gates.go:87", after := #[{ on := 6, ground := Ground.data }], guard := none }
abbrev m5o5 : Oper := { dst := some 39, op := Op.call { callee := Callee.builtin Builtin.append, args := #[Operand.tmp 34, Operand.tmp 38], argTypes := #[28, 28] }, type := 28, pos := "gates.go:87", after := #[{ on := 7, ground := Ground.data }, { on := 11, ground := Ground.data }], guard := none }
abbrev m5o6 : Oper := { dst := some 40, op := Op.nilCheck (Operand.tmp 27), type := 0, pos := "gates.go:87", after := #[{ on := 0, ground := Ground.data }, { on := 0, ground := Ground.phase }, { on := 1, ground := Ground.phase }, { on := 2, ground := Ground.phase }, { on := 3, ground := Ground.phase }, { on := 4, ground := Ground.phase }, { on := 5, ground := Ground.phase }, { on := 6, ground := Ground.phase }, { on := 7, ground := Ground.phase }, { on := 8, ground := Ground.phase }, { on := 9, ground := Ground.phase }, { on := 10, ground := Ground.phase }, { on := 11, ground := Ground.phase }, { on := 12, ground := Ground.phase }], guard := none }
abbrev m5o7 : Oper := { dst := some 41, op := Op.fieldAddr 122 (Operand.tmp 40) 0, type := 0, pos := "gates.go:87", after := #[{ on := 13, ground := Ground.data }, { on := 0, ground := Ground.phase }, { on := 1, ground := Ground.phase }, { on := 2, ground := Ground.phase }, { on := 3, ground := Ground.phase }, { on := 4, ground := Ground.phase }, { on := 5, ground := Ground.phase }, { on := 6, ground := Ground.phase }, { on := 7, ground := Ground.phase }, { on := 8, ground := Ground.phase }, { on := 9, ground := Ground.phase }, { on := 10, ground := Ground.phase }, { on := 11, ground := Ground.phase }, { on := 12, ground := Ground.phase }], guard := none }
abbrev m5o8 : Oper := { dst := none, op := Op.store 28 (Operand.tmp 41) (Operand.tmp 39), type := 0, pos := "gates.go:87", after := #[{ on := 14, ground := Ground.data }, { on := 12, ground := Ground.data }, { on := 12, ground := Ground.chain }, { on := 0, ground := Ground.phase }, { on := 1, ground := Ground.phase }, { on := 2, ground := Ground.phase }, { on := 3, ground := Ground.phase }, { on := 4, ground := Ground.phase }, { on := 5, ground := Ground.phase }, { on := 6, ground := Ground.phase }, { on := 7, ground := Ground.phase }, { on := 8, ground := Ground.phase }, { on := 9, ground := Ground.phase }, { on := 10, ground := Ground.phase }, { on := 11, ground := Ground.phase }, { on := 12, ground := Ground.phase }], guard := none }
set_option maxRecDepth 100000
open Go.RowKit Go.Maps

theorem ready_make_gates {ops : Array Oper} {o : Oper} {a : Act} {Q : Exit → Act → World → Prop} {K' : Act → World → Prop} {w : World} (x y : Operand) (hgd : o.guard = none)
  (ho : o.op = .makeSlice 28 x y) (base c : Nat) (hx : a.eval x = .int .i64 0) (hy : a.eval y = .int .i64 (c : Int)) (hc : c ≤ 100000) (hbase : base ≤ w.heap.size)
  (h : ∀ w', w'.ownsRow base 99 3 (.slice (some ⟨w.heap.size, 0, none⟩) 0 c) 0 (gateCells []) → w.grownBy w' none → K' (a.put o.dst (.slice (some ⟨w.heap.size, 0, none⟩) 0 c)) w') :
  if Region.wanted o (yielded ops a.tmps) = true then Oper.wp Try.prog o a w K' Q else K' (a.put o.dst undef) w := by
 have hw : Region.wanted o (yielded ops a.tmps) = true := by simp only [Region.wanted, hgd]
 rw [if_pos hw]
 obtain ⟨i0, hi0, hz0, hz1, hz2⟩ := info_parts infoG
 obtain ⟨w', hr, h2, h3⟩ := run_make_own (P := Try.prog) w base 28 99 i0 _ 3 Try.underlying28 hi0 hz0 hz1 .i64 .i64 c (by rw [hz2]; omega) (by unfold maxLen; omega) hbase
 unfold Oper.wp execOp
 simp only [ho, hx, hy, hr, Result.andThen_ok, Sem.run_bind, Sem.run_pure]
 exact h w' h2 h3
theorem Off.at {M : Nat → Prop} {w w' : World} {b : Nat} {x : Gt} (h : Off M w w') (hx : GateAt w b 0 x) (hm : ¬ M b) : GateAt w' b 0 x := ⟨h.cell hx.1 hm, h.cell hx.2.1 hm, h.cell hx.2.2 hm⟩

theorem greference_calls (gs : List Gt) (x : Gt) (fm p : Nat) (owned : Bool) (va : Option Addr) (vc : Nat) (mb0 : Option Nat) (vis : Int) (w : World) (M : Nat → Prop) (h : Grw p w owned va vc gs mb0 vis) (hl : gs.length ≤ 990) (hv : 0 ≤ vis)
  (hxw : WfG x) (hwf : ∀ g ∈ gs, WfG g) (hone : ∀ (i j : Nat) (g : Gt), gs[i]? = some g → gs[j]? = some g → i = j) (hfrom : ∀ i : Nat, gs[i]? = some x → fm ≤ i) (hM : ∀ k, mine p owned va mb0 k → M k) :
  Calls Try.prog 118 #[.pointer (some ⟨p, 0, none⟩), gv x, .int .i64 (fm : Int)] w fun e w' => ∃ owned' va' vc' mb' vis', e = .returned (.int .i64 (addG gs x).2) ∧ Grw p w' owned' va' vc' (addG gs x).1 mb' vis' ∧ (vis ≤ vis' ∧ vis' ≤ vis + (gs.length : Int)) ∧ Off M w w' ∧ ∀ k, mine p owned' va' mb' k → M k ∨ w.heap.size ≤ k := by
 have hg := gAl w (.cells #[.int .i64 x.1, .int .i64 x.2.1, .int .i64 x.2.2] 99) none
 have hx := gate_cells w x
 obtain ⟨W, hW⟩ : ∃ W, w.alloc (.cells #[.int .i64 x.1, .int .i64 x.2.1, .int .i64 x.2.2] 99) = W := ⟨_, rfl⟩
 rw [hW] at hg hx
 have HX := hid (And.intro hx (lies_lt h.c0))
 have HG := hid (show Off M w W from Off.of hg (fun k e => by cases e))
 have HW := hid (h.grown hg)
 have HONE := hid (And.intro hone hfrom)
 have HWF := hid (And.intro hxw hwf)
 have HL := hid (And.intro hl hv)
 have HMP := hid (hM p (.inl rfl))
 have HMO := hid (show owned = true → ∀ a, va = some a → M a.block from fun ho a e => hM _ (.inr (.inl ⟨ho, a, e, rfl⟩)))
 have HMB := hid (show ∀ b, mb0 = some b → M b from fun b e => hM _ (.inr (.inr e)))
 have HLT0 := hid hg.size
 obtain ⟨q0, q1, q2⟩ := hx
 clear h hone hfrom hg hl hv hxw hwf hM
 go_enter Try.func118, Try.ntmps118
 go_wp2_with fail
 refine (gfind_calls gs x fm p owned va vc mb0 vis _ HW.out (by have := HL.out.1; omega) HL.out.2 HWF.out.1 HWF.out.2 HONE.out.1 HONE.out.2).mono ?_
 rintro e w2 ⟨mb, vis', rfl, hgr, hvis, ho2, hmb⟩
 have HG2 := hid (HG.out.trans ho2 (fun k hk e => by have := HMP.out; rw [e]; exact this))
 have HX2 := hid (ho2.at HX.out.1 (fun e => by have := HX.out.2; omega))
 have HMI := hid (show ∀ b, mb = some b → M b ∨ w.heap.size ≤ b from fun b e => by
  by_cases hb : b < w.heap.size
  · exact .inl (HMB.out b (hmb b (Nat.lt_of_lt_of_le hb HLT0.out) e))
  · exact .inr (by omega))
 have HGR := hid hgr
 have HVI := hid hvis
 clear hgr hvis ho2 hmb q0 q1 q2
 cases hloc : locG x gs with
 | some i =>
  have hi := (List.getElem?_eq_some_iff.1 (locG_some hloc)).1
  have hL := HL.out.1
  have HA := hid (addG_some hloc)
  rw [locI_nat hloc]
  have HQ := hid hloc; clear hloc
  have f1 : decide ((0 : Int) ≤ (i : Int)) = true := decide_eq_true (by omega)
  have f2 : IntKind.i64.wrap (2 * (i : Int)) = 2 * (i : Int) := IntWalk.i64_in _ (by omega)
  clear hL hi
  go_wp2_with fail
  go_ret
  exact ⟨owned, va, vc, mb, vis', by rw [HA.out]; rfl, by rw [HA.out]; exact HGR.out, HVI.out, HG2.out, by
   rintro k (rfl | ⟨ho, a, e1, rfl⟩ | e)
   · exact .inl HMP.out
   · exact .inl (HMO.out ho a e1)
   · exact HMI.out k e⟩
 | none =>
  have HA := hid (addG_none hloc (by have := HL.out.1; omega))
  have HNX := hid (locG_none hloc)
  rw [locI_neg hloc]
  have HQ := hid hloc; clear hloc
  obtain ⟨n, hn⟩ : ∃ n, gs.length = n := ⟨_, rfl⟩
  have hL : n ≤ 990 := by rw [← hn]; exact HL.out.1
  have k0 := HGR.out.c0; have k1 := HGR.out.c1
  rw [hn] at k0
  have HN := hid hn; clear hn
  have f1 : decide ((20000 : Int) ≤ (n : Int)) = false := decide_eq_false (by omega)
  have f1b : decide (20000 ≤ n) = false := decide_eq_false (by omega)
  have HXB := hid (show ∀ b, mb = some b → w.heap.size ≠ b from fun b e c => by
   obtain ⟨D, ⟨es, clock, hb, _⟩, _⟩ := (HGR.out.ix b e).2
   have h1 := HX2.out.1
   unfold World.cell? at h1
   rw [c] at h1
   simp [hb] at h1)
  have HLT2 := hid (show p < w2.heap.size from lies_lt HGR.out.c0)
  have HPR := hid HGR.out.pre
  have fw16 : IntKind.i64.wrap ((n : Int) + 16) = ((n + 16 : Nat) : Int) := by rw [IntWalk.i64_in _ (by omega)]; omega
  cases owned with
  | false =>
   go_wp2_with fail
   clear k0 k1 f1 f1b
   have HS : Hid (∀ Wh : World, Off M w Wh → Off M w Wh) := hid (fun _ h => h)
   have hdr : Off M w w2.drew := Off.own HG2.out (⟨rfl, rfl, rfl, Nat.le_refl _, fun _ _ _ => rfl⟩ : w2.grownBy w2.drew none) (fun k e => by cases e)
   refine wp_region_held_drew (S := (fun Wh : World => Off M w Wh)) (by kernel_rfl) (HS.out _ hdr) (fun hH => ?_)
   refine tq 0 ({ dst := some 27, op := Op.move (Operand.tmp 0), type := 86, pos := "gates.go:87", after := #[], guard := none }) ?_ ?_ hH ?_
   rotate_left 1
   · (intro W h; (try dsimp only at h); go_simp <;> with_reducible rfl)
   try simp only [Act.put, sA, sB, sC]
   refine tq 1 ({ dst := some 28, op := Op.move (Operand.tmp 0), type := 86, pos := "gates.go:87", after := #[], guard := none }) ?_ ?_ hH ?_
   rotate_left 1
   · (intro W h; (try dsimp only at h); go_simp <;> with_reducible rfl)
   try simp only [Act.put, sA, sB, sC]
   refine tq 2 ({ dst := some 29, op := Op.nilCheck (Operand.tmp 28), type := 0, pos := "gates.go:87", after := #[{ on := 1, ground := Ground.data }], guard := none }) ?_ ?_ hH ?_
   rotate_left 1
   · (intro W h; (try dsimp only at h); go_simp <;> with_reducible rfl)
   try simp only [Act.put, sA, sB, sC]
   refine tq 3 ({ dst := some 30, op := Op.fieldAddr 122 (Operand.tmp 29) 0, type := 0, pos := "gates.go:87", after := #[{ on := 2, ground := Ground.data }], guard := none }) ?_ ?_ hH ?_
   rotate_left 1
   · (intro W h; (try dsimp only at h); go_simp <;> with_reducible rfl)
   try simp only [Act.put, sA, sB, sC]
   refine tq 8 ({ dst := some 35, op := Op.move (Operand.tmp 0), type := 86, pos := "gates.go:87", after := #[], guard := none }) ?_ ?_ hH ?_
   rotate_left 1
   · (intro W h; (try dsimp only at h); go_simp <;> with_reducible rfl)
   try simp only [Act.put, sA, sB, sC]
   refine tq 9 ({ dst := some 36, op := Op.nilCheck (Operand.tmp 35), type := 0, pos := "gates.go:87", after := #[{ on := 8, ground := Ground.data }], guard := none }) ?_ ?_ hH ?_
   rotate_left 1
   · (intro W h; (try dsimp only at h); go_simp <;> with_reducible rfl)
   try simp only [Act.put, sA, sB, sC]
   refine tq 10 ({ dst := some 37, op := Op.fieldAddr 122 (Operand.tmp 36) 0, type := 0, pos := "gates.go:87", after := #[{ on := 9, ground := Ground.data }], guard := none }) ?_ ?_ hH ?_
   rotate_left 1
   · (intro W h; (try dsimp only at h); go_simp <;> with_reducible rfl)
   try simp only [Act.put, sA, sB, sC]
   refine wpAnyH_ready (rs := [4, 11]) (by kernel_rfl) (by simp) ?_
   refine (AllReadyH.cons (o := m5o0) rfl (fun K hK => ?_) (AllReadyH.cons (o := m5o1) rfl (fun K hK => ?_) AllReadyH.nil))
   ·
    rw [if_pos (by rfl)]
    have hrow := (HPR.out).core.c0
    rw [HN.out] at hrow
    go_simp
    clear hrow
    refine hK.out _ _ (HS.out _ hdr) (fun hH => ?_)
    clear hK K
    try simp only [Act.put, sA, sB, sC]
    refine tq 5 m5o2 ?_ ?_ hH ?_
    rotate_left 1
    · (intro W h; (try dsimp only at h); go_simp <;> with_reducible rfl)
    try simp only [Act.put, sA, sB, sC]
    refine tq 6 m5o3 ?_ ?_ hH ?_
    rotate_left 1
    · (intro W h; (try dsimp only at h); go_simp <;> with_reducible rfl)
    try simp only [Act.put, sA, sB, sC]
    refine wpAnyH_ready (rs := [7, 11]) (by kernel_rfl) (by simp) ?_
    refine (AllReadyH.cons (o := m5o4) rfl (fun K hK => ?_) (AllReadyH.cons (o := m5o1) rfl (fun K hK => ?_) AllReadyH.nil))
    ·
     refine ready_make_gates (.const (.int .i64 0)) (.tmp 33) rfl rfl w2.heap.size (n + 16) rfl rfl (by omega) (Nat.le_refl _) (fun WM hownM hgM => ?_)
     have hmk := Off.own hdr hgM (fun k e => by cases e)
     have HGM := hid (HPR.out.grown (gT (⟨rfl, rfl, rfl, Nat.le_refl _, fun _ _ _ => rfl⟩ : w2.grownBy w2.drew none) hgM))
     have HOM := hid hownM
     clear hownM
     refine hK.out _ _ (HS.out _ hmk) (fun hH => ?_)
     clear hK K
     try simp only [Act.put, sA, sB, sC]
     refine wpAnyH_ready (rs := [11]) (by kernel_rfl) (by simp) ?_
     refine (AllReadyH.cons (o := m5o1) rfl (fun K hK => ?_) AllReadyH.nil)
     rw [if_pos (by rfl)]
     have hrow := (HGM.out).core.c0
     rw [HN.out] at hrow
     go_simp
     clear hrow
     refine hK.out _ _ (HS.out _ hmk) (fun hH => ?_)
     clear hK K
     try simp only [Act.put, sA, sB, sC]
     refine wpAnyH_ready (rs := [12]) (by kernel_rfl) (by simp) ?_
     refine (AllReadyH.cons (o := m5o5) rfl (fun K hK => ?_) AllReadyH.nil)
     refine ready_append_gates (.tmp 34) (.tmp 38) rfl rfl w2.heap.size _ 0 [] rfl HOM.out va n vc gs rfl HN.out HGM.out.core.row.gates (by omega) (show w2.heap.size ≤ WM.heap.size from hgM.size) (fun v' w6 hown' hgrow6 hat6 => ?_)
     have hg6 := Off.own hmk hgrow6 (fun k hk => by injection hk with hk; have h2 : w2.heap.size = k := hk; exact .inr (by have := HG2.out.size; omega))
     rw [Nat.zero_add, List.nil_append] at hown'
     obtain ⟨va1, vc1, rfl⟩ := own_shape hown'
     have HOB := hid (show ∀ a, va1 = some a → M a.block ∨ w.heap.size ≤ a.block from fun a e => by subst e; have h1 := (hown'.lt a.block rfl).1; have := HG2.out.size; exact .inr (by omega))
     have hown' := (show w6.ownsRow (p + 1) 99 3 (.slice va1 n vc1) n (gateCells gs) from ⟨hown'.1, hown'.2.imp id (fun ⟨g, cap, cur, h1, h2, h3⟩ => ⟨g, cap, cur, h1, by have := HLT2.out; omega, h3⟩)⟩)
     have HPUT := hid (Pre.put (m := n) HN.out HGM.out hgrow6 (fun e => by injection e with e; have h1 := HLT2.out; have h2 : p = w2.heap.size := e; omega) (fun b e c => by injection c with c; have h1 := (HPR.out.ix b e).2.lt; have h2 : b = w2.heap.size := c; omega) hown')
     clear hown' hat6
     have hs1 := HPUT.out.2.2.1
     have hs2 := HPUT.out.2.2.2.1
     refine hK.out _ _ (HS.out _ hg6) (fun hH => ?_)
     clear hK K
     try simp only [Act.put, sA, sB, sC]
     refine tq 13 m5o6 ?_ ?_ hH ?_
     rotate_left 1
     · (intro W h; (try dsimp only at h); go_simp <;> with_reducible rfl)
     try simp only [Act.put, sA, sB, sC]
     refine tq 14 m5o7 ?_ ?_ hH ?_
     rotate_left 1
     · (intro W h; (try dsimp only at h); go_simp <;> with_reducible rfl)
     try simp only [Act.put, sA, sB, sC]
     refine wpAnyH_ready (rs := [15]) (by kernel_rfl) (by simp) ?_
     refine (AllReadyH.cons (o := m5o8) rfl (fun K hK => ?_) AllReadyH.nil)
     rw [if_pos (by rfl)]
     go_simp
     have hgs := Off.own hg6 (grown_set w6 p 0 (.slice va1 n vc1)) (fun k hk => by cases hk; exact .inl HMP.out)
     refine hK.out _ _ (HS.out _ hgs) (fun hH => ?_)
     clear hK K
     try simp only [Act.put, sA, sB, sC]
     refine wpAnyH_done (by kernel_rfl) ?_ _
     have hEND := hgs
     clear hH
     clear hdr hEND
     have k1 := HPUT.out.2.2.2.2.1
     have k1f := HPUT.out.2.2.2.2.2
     go_upto_region 9 with fail
     have HGV := hid HPUT.out.1
     have HV0 := hid (Off.own hgs (grown_set _ p 1 (.bool true)) (fun k hk => by cases hk; exact .inl HMP.out))
     have HVX := hid (show GateAt ((w6.setCell ⟨p, 0, none⟩ (.slice va1 n vc1)).setCell ⟨p, 1, none⟩ (.bool true)) w.heap.size 0 x from (((HX2.out.moved (gT (⟨rfl, rfl, rfl, Nat.le_refl _, fun _ _ _ => rfl⟩ : w2.grownBy w2.drew none) hgM) (by simp)).moved hgrow6 (fun e => by injection e with e; have h1 : w.heap.size < w2.heap.size := lies_lt HX2.out.1; have h2 : w.heap.size = w2.heap.size := e; omega)).moved (grown_set _ p 0 _) (fun e => by injection e with e; have := HX.out.2; omega)).moved (grown_set _ p 1 _) (fun e => by injection e with e; have := HX.out.2; omega))
     clear k1 k1f hs1 hs2
     obtain ⟨V, hV⟩ : ∃ V, (w6.setCell ⟨p, 0, none⟩ (.slice va1 n vc1)).setCell ⟨p, 1, none⟩ (.bool true) = V := ⟨_, rfl⟩
     rw [hV] at HGV HV0 HVX ⊢
     clear hV
     clear HS
     try clear hgs hg6 hgrow6 hgM hmk
     cases mb with
     | none =>
      have k2 := HGV.out.c2
      have hNe := nilmap_ne
      go_wp2_with fail
      clear k2 hNe
      have HGV := hid (Pre.bare (is := gs ++ [x]) HGV.out.grw)
      refine ref11 (fun c a d v w h => by cases d <;> exact h) hL HN HMP HGV HV0 HVX HOB ?_
      intro _ _ _ _ _ _ _ _ _ _ _ _ _ _ _ _ _ _ _ _ _ _ _ _ _ _ _ _ _ _ _ _ _ _ _ _ _ _ _ _ _ _ _ _ _ _ _ _ _ _ _ _ _ _ _ _ _ _ _ _ _ _ _ _ _ _ _ _ _ _ _ _ _ _ _ _ rgA rcA m wF hm hF hO hR
      have HGF := hid hF
      have HF0 := hid hO
      have HOR := hid hR
      clear hF hO hR
      have k0 := HGF.out.core.c0
      rw [show (gs ++ [x]).length = m by rw [List.length_append, HN.out]; exact hm] at k0
      have fs1 : IntKind.i64.wrap ((m : Int) - 1) = (n : Int) := by rw [IntWalk.i64_in _ (by omega)]; omega
      have fs2 : IntKind.i64.wrap (2 * (n : Int)) = 2 * (n : Int) := IntWalk.i64_in _ (by omega)
      clear hm
      go_wp2_with fail
      go_ret
      exact ⟨true, rgA, rcA, (none : Option Nat), vis', by rw [HA.out, HN.out]; rfl, by rw [HA.out]; exact HGF.out.grw, HVI.out, HF0.out, by
       rintro k (rfl | ⟨_, a, e1, rfl⟩ | e)
       · exact .inl HMP.out
       · exact HOR.out a e1
       · exact HMI.out k e⟩
     | some bI =>
      have k2 := HGV.out.c2
      have hNe := mapnil_ne bI
      have k0 := HGV.out.core.c0
      rw [HN.out] at k0
      obtain ⟨y0, y1, y2⟩ := HVX.out
      go_wp2_with fail
      clear hNe
      have hd : V.grownBy V.drew none := ⟨rfl, rfl, rfl, Nat.le_refl _, fun _ _ _ => rfl⟩
      have HPD := hid (HGV.out.grown hd)
      have HVD := hid (Off.own HV0.out hd (fun k e => by cases e))
      have HXD := hid (HVX.out.moved hd (by simp))
      clear hd
      go_still_tail 10, (by kernel_rfl)
      change wpList _ _ _ _ _ V.drew
      obtain ⟨wD, hwD⟩ : ∃ z, V.drew = z := ⟨_, rfl⟩
      rw [hwD] at HPD HVD HXD ⊢
      clear hwD k0 k2 y0 y1 y2
      refine wpList_setM rfl _ _ _ rfl bI gs rfl (HPD.out.ix bI rfl).2 (by rw [HN.out]; omega) x rfl HWF.out.1 HNX.out (by rw [HN.out]; rfl) ?_
      intro w5 hset5 hgr5
      have HGV := hid (show Pre p w5 true va1 vc1 gs (some bI) (gs ++ [x]) vis' from ⟨HPD.out.core.far hgr5 (fun z e => by cases e; exact ⟨(HPD.out.ix bI rfl).1, MapG.ne_row HPD.out.core.row (HPD.out.ix bI rfl).2⟩), hgr5.cell HPD.out.c2 (fun e => Nat.ne_of_lt (HPD.out.ix bI rfl).1 (Option.some.inj e)), fun b e => by injection e with e; subst e; exact ⟨(HPD.out.ix bI rfl).1, hset5⟩⟩)
      have HV0 := hid (Off.own HVD.out hgr5 (fun k e => by cases e; exact HMI.out bI rfl))
      have HVX := hid (HXD.out.moved hgr5 (fun e => by have h1 : w.heap.size = bI := Option.some.inj e; exact HXB.out bI rfl h1))
      clear hset5 hgr5
      go_wp2_with fail
      refine ref11 (fun c a d v w h => by cases d <;> exact h) hL HN HMP HGV HV0 HVX HOB ?_
      intro _ _ _ _ _ _ _ _ _ _ _ _ _ _ _ _ _ _ _ _ _ _ _ _ _ _ _ _ _ _ _ _ _ _ _ _ _ _ _ _ _ _ _ _ _ _ _ _ _ _ _ _ _ _ _ _ _ _ _ _ _ _ _ _ _ _ _ _ _ _ _ _ _ _ _ _ rgA rcA m wF hm hF hO hR
      have HGF := hid hF
      have HF0 := hid hO
      have HOR := hid hR
      clear hF hO hR
      have k0 := HGF.out.core.c0
      rw [show (gs ++ [x]).length = m by rw [List.length_append, HN.out]; exact hm] at k0
      have fs1 : IntKind.i64.wrap ((m : Int) - 1) = (n : Int) := by rw [IntWalk.i64_in _ (by omega)]; omega
      have fs2 : IntKind.i64.wrap (2 * (n : Int)) = 2 * (n : Int) := IntWalk.i64_in _ (by omega)
      clear hm
      go_wp2_with fail
      go_ret
      exact ⟨true, rgA, rcA, some bI, vis', by rw [HA.out, HN.out]; rfl, by rw [HA.out]; exact HGF.out.grw, HVI.out, HF0.out, by
       rintro k (rfl | ⟨_, a, e1, rfl⟩ | e)
       · exact .inl HMP.out
       · exact HOR.out a e1
       · exact HMI.out k e⟩
    ·
     rw [if_pos (by rfl)]
     have hrow := (HPR.out).core.c0
     rw [HN.out] at hrow
     go_simp
     clear hrow
     refine hK.out _ _ (HS.out _ hdr) (fun hH => ?_)
     clear hK K
     try simp only [Act.put, sA, sB, sC]
     refine wpAnyH_ready (rs := [7]) (by kernel_rfl) (by simp) ?_
     refine (AllReadyH.cons (o := m5o4) rfl (fun K hK => ?_) AllReadyH.nil)
     refine ready_make_gates (.const (.int .i64 0)) (.tmp 33) rfl rfl w2.heap.size (n + 16) rfl rfl (by omega) (Nat.le_refl _) (fun WM hownM hgM => ?_)
     have hmk := Off.own hdr hgM (fun k e => by cases e)
     have HGM := hid (HPR.out.grown (gT (⟨rfl, rfl, rfl, Nat.le_refl _, fun _ _ _ => rfl⟩ : w2.grownBy w2.drew none) hgM))
     have HOM := hid hownM
     clear hownM
     refine hK.out _ _ (HS.out _ hmk) (fun hH => ?_)
     clear hK K
     try simp only [Act.put, sA, sB, sC]
     refine wpAnyH_ready (rs := [12]) (by kernel_rfl) (by simp) ?_
     refine (AllReadyH.cons (o := m5o5) rfl (fun K hK => ?_) AllReadyH.nil)
     refine ready_append_gates (.tmp 34) (.tmp 38) rfl rfl w2.heap.size _ 0 [] rfl HOM.out va n vc gs rfl HN.out HGM.out.core.row.gates (by omega) (show w2.heap.size ≤ WM.heap.size from hgM.size) (fun v' w6 hown' hgrow6 hat6 => ?_)
     have hg6 := Off.own hmk hgrow6 (fun k hk => by injection hk with hk; have h2 : w2.heap.size = k := hk; exact .inr (by have := HG2.out.size; omega))
     rw [Nat.zero_add, List.nil_append] at hown'
     obtain ⟨va1, vc1, rfl⟩ := own_shape hown'
     have HOB := hid (show ∀ a, va1 = some a → M a.block ∨ w.heap.size ≤ a.block from fun a e => by subst e; have h1 := (hown'.lt a.block rfl).1; have := HG2.out.size; exact .inr (by omega))
     have hown' := (show w6.ownsRow (p + 1) 99 3 (.slice va1 n vc1) n (gateCells gs) from ⟨hown'.1, hown'.2.imp id (fun ⟨g, cap, cur, h1, h2, h3⟩ => ⟨g, cap, cur, h1, by have := HLT2.out; omega, h3⟩)⟩)
     have HPUT := hid (Pre.put (m := n) HN.out HGM.out hgrow6 (fun e => by injection e with e; have h1 := HLT2.out; have h2 : p = w2.heap.size := e; omega) (fun b e c => by injection c with c; have h1 := (HPR.out.ix b e).2.lt; have h2 : b = w2.heap.size := c; omega) hown')
     clear hown' hat6
     have hs1 := HPUT.out.2.2.1
     have hs2 := HPUT.out.2.2.2.1
     refine hK.out _ _ (HS.out _ hg6) (fun hH => ?_)
     clear hK K
     try simp only [Act.put, sA, sB, sC]
     refine tq 13 m5o6 ?_ ?_ hH ?_
     rotate_left 1
     · (intro W h; (try dsimp only at h); go_simp <;> with_reducible rfl)
     try simp only [Act.put, sA, sB, sC]
     refine tq 14 m5o7 ?_ ?_ hH ?_
     rotate_left 1
     · (intro W h; (try dsimp only at h); go_simp <;> with_reducible rfl)
     try simp only [Act.put, sA, sB, sC]
     refine wpAnyH_ready (rs := [15]) (by kernel_rfl) (by simp) ?_
     refine (AllReadyH.cons (o := m5o8) rfl (fun K hK => ?_) AllReadyH.nil)
     rw [if_pos (by rfl)]
     go_simp
     have hgs := Off.own hg6 (grown_set w6 p 0 (.slice va1 n vc1)) (fun k hk => by cases hk; exact .inl HMP.out)
     refine hK.out _ _ (HS.out _ hgs) (fun hH => ?_)
     clear hK K
     try simp only [Act.put, sA, sB, sC]
     refine wpAnyH_done (by kernel_rfl) ?_ _
     have hEND := hgs
     clear hH
     clear hdr hEND
     have k1 := HPUT.out.2.2.2.2.1
     have k1f := HPUT.out.2.2.2.2.2
     go_upto_region 9 with fail
     have HGV := hid HPUT.out.1
     have HV0 := hid (Off.own hgs (grown_set _ p 1 (.bool true)) (fun k hk => by cases hk; exact .inl HMP.out))
     have HVX := hid (show GateAt ((w6.setCell ⟨p, 0, none⟩ (.slice va1 n vc1)).setCell ⟨p, 1, none⟩ (.bool true)) w.heap.size 0 x from (((HX2.out.moved (gT (⟨rfl, rfl, rfl, Nat.le_refl _, fun _ _ _ => rfl⟩ : w2.grownBy w2.drew none) hgM) (by simp)).moved hgrow6 (fun e => by injection e with e; have h1 : w.heap.size < w2.heap.size := lies_lt HX2.out.1; have h2 : w.heap.size = w2.heap.size := e; omega)).moved (grown_set _ p 0 _) (fun e => by injection e with e; have := HX.out.2; omega)).moved (grown_set _ p 1 _) (fun e => by injection e with e; have := HX.out.2; omega))
     clear k1 k1f hs1 hs2
     obtain ⟨V, hV⟩ : ∃ V, (w6.setCell ⟨p, 0, none⟩ (.slice va1 n vc1)).setCell ⟨p, 1, none⟩ (.bool true) = V := ⟨_, rfl⟩
     rw [hV] at HGV HV0 HVX ⊢
     clear hV
     clear HS
     try clear hgs hg6 hgrow6 hgM hmk
     cases mb with
     | none =>
      have k2 := HGV.out.c2
      have hNe := nilmap_ne
      go_wp2_with fail
      clear k2 hNe
      have HGV := hid (Pre.bare (is := gs ++ [x]) HGV.out.grw)
      refine ref11 (fun c a d v w h => by cases d <;> exact h) hL HN HMP HGV HV0 HVX HOB ?_
      intro _ _ _ _ _ _ _ _ _ _ _ _ _ _ _ _ _ _ _ _ _ _ _ _ _ _ _ _ _ _ _ _ _ _ _ _ _ _ _ _ _ _ _ _ _ _ _ _ _ _ _ _ _ _ _ _ _ _ _ _ _ _ _ _ _ _ _ _ _ _ _ _ _ _ _ _ rgA rcA m wF hm hF hO hR
      have HGF := hid hF
      have HF0 := hid hO
      have HOR := hid hR
      clear hF hO hR
      have k0 := HGF.out.core.c0
      rw [show (gs ++ [x]).length = m by rw [List.length_append, HN.out]; exact hm] at k0
      have fs1 : IntKind.i64.wrap ((m : Int) - 1) = (n : Int) := by rw [IntWalk.i64_in _ (by omega)]; omega
      have fs2 : IntKind.i64.wrap (2 * (n : Int)) = 2 * (n : Int) := IntWalk.i64_in _ (by omega)
      clear hm
      go_wp2_with fail
      go_ret
      exact ⟨true, rgA, rcA, (none : Option Nat), vis', by rw [HA.out, HN.out]; rfl, by rw [HA.out]; exact HGF.out.grw, HVI.out, HF0.out, by
       rintro k (rfl | ⟨_, a, e1, rfl⟩ | e)
       · exact .inl HMP.out
       · exact HOR.out a e1
       · exact HMI.out k e⟩
     | some bI =>
      have k2 := HGV.out.c2
      have hNe := mapnil_ne bI
      have k0 := HGV.out.core.c0
      rw [HN.out] at k0
      obtain ⟨y0, y1, y2⟩ := HVX.out
      go_wp2_with fail
      clear hNe
      have hd : V.grownBy V.drew none := ⟨rfl, rfl, rfl, Nat.le_refl _, fun _ _ _ => rfl⟩
      have HPD := hid (HGV.out.grown hd)
      have HVD := hid (Off.own HV0.out hd (fun k e => by cases e))
      have HXD := hid (HVX.out.moved hd (by simp))
      clear hd
      go_still_tail 10, (by kernel_rfl)
      change wpList _ _ _ _ _ V.drew
      obtain ⟨wD, hwD⟩ : ∃ z, V.drew = z := ⟨_, rfl⟩
      rw [hwD] at HPD HVD HXD ⊢
      clear hwD k0 k2 y0 y1 y2
      refine wpList_setM rfl _ _ _ rfl bI gs rfl (HPD.out.ix bI rfl).2 (by rw [HN.out]; omega) x rfl HWF.out.1 HNX.out (by rw [HN.out]; rfl) ?_
      intro w5 hset5 hgr5
      have HGV := hid (show Pre p w5 true va1 vc1 gs (some bI) (gs ++ [x]) vis' from ⟨HPD.out.core.far hgr5 (fun z e => by cases e; exact ⟨(HPD.out.ix bI rfl).1, MapG.ne_row HPD.out.core.row (HPD.out.ix bI rfl).2⟩), hgr5.cell HPD.out.c2 (fun e => Nat.ne_of_lt (HPD.out.ix bI rfl).1 (Option.some.inj e)), fun b e => by injection e with e; subst e; exact ⟨(HPD.out.ix bI rfl).1, hset5⟩⟩)
      have HV0 := hid (Off.own HVD.out hgr5 (fun k e => by cases e; exact HMI.out bI rfl))
      have HVX := hid (HXD.out.moved hgr5 (fun e => by have h1 : w.heap.size = bI := Option.some.inj e; exact HXB.out bI rfl h1))
      clear hset5 hgr5
      go_wp2_with fail
      refine ref11 (fun c a d v w h => by cases d <;> exact h) hL HN HMP HGV HV0 HVX HOB ?_
      intro _ _ _ _ _ _ _ _ _ _ _ _ _ _ _ _ _ _ _ _ _ _ _ _ _ _ _ _ _ _ _ _ _ _ _ _ _ _ _ _ _ _ _ _ _ _ _ _ _ _ _ _ _ _ _ _ _ _ _ _ _ _ _ _ _ _ _ _ _ _ _ _ _ _ _ _ rgA rcA m wF hm hF hO hR
      have HGF := hid hF
      have HF0 := hid hO
      have HOR := hid hR
      clear hF hO hR
      have k0 := HGF.out.core.c0
      rw [show (gs ++ [x]).length = m by rw [List.length_append, HN.out]; exact hm] at k0
      have fs1 : IntKind.i64.wrap ((m : Int) - 1) = (n : Int) := by rw [IntWalk.i64_in _ (by omega)]; omega
      have fs2 : IntKind.i64.wrap (2 * (n : Int)) = 2 * (n : Int) := IntWalk.i64_in _ (by omega)
      clear hm
      go_wp2_with fail
      go_ret
      exact ⟨true, rgA, rcA, some bI, vis', by rw [HA.out, HN.out]; rfl, by rw [HA.out]; exact HGF.out.grw, HVI.out, HF0.out, by
       rintro k (rfl | ⟨_, a, e1, rfl⟩ | e)
       · exact .inl HMP.out
       · exact HOR.out a e1
       · exact HMI.out k e⟩
   ·
    rw [if_pos (by rfl)]
    have hrow := (HPR.out).core.c0
    rw [HN.out] at hrow
    go_simp
    clear hrow
    refine hK.out _ _ (HS.out _ hdr) (fun hH => ?_)
    clear hK K
    try simp only [Act.put, sA, sB, sC]
    refine wpAnyH_ready (rs := [4]) (by kernel_rfl) (by simp) ?_
    refine (AllReadyH.cons (o := m5o0) rfl (fun K hK => ?_) AllReadyH.nil)
    rw [if_pos (by rfl)]
    have hrow := (HPR.out).core.c0
    rw [HN.out] at hrow
    go_simp
    clear hrow
    refine hK.out _ _ (HS.out _ hdr) (fun hH => ?_)
    clear hK K
    try simp only [Act.put, sA, sB, sC]
    refine tq 5 m5o2 ?_ ?_ hH ?_
    rotate_left 1
    · (intro W h; (try dsimp only at h); go_simp <;> with_reducible rfl)
    try simp only [Act.put, sA, sB, sC]
    refine tq 6 m5o3 ?_ ?_ hH ?_
    rotate_left 1
    · (intro W h; (try dsimp only at h); go_simp <;> with_reducible rfl)
    try simp only [Act.put, sA, sB, sC]
    refine wpAnyH_ready (rs := [7]) (by kernel_rfl) (by simp) ?_
    refine (AllReadyH.cons (o := m5o4) rfl (fun K hK => ?_) AllReadyH.nil)
    refine ready_make_gates (.const (.int .i64 0)) (.tmp 33) rfl rfl w2.heap.size (n + 16) rfl rfl (by omega) (Nat.le_refl _) (fun WM hownM hgM => ?_)
    have hmk := Off.own hdr hgM (fun k e => by cases e)
    have HGM := hid (HPR.out.grown (gT (⟨rfl, rfl, rfl, Nat.le_refl _, fun _ _ _ => rfl⟩ : w2.grownBy w2.drew none) hgM))
    have HOM := hid hownM
    clear hownM
    refine hK.out _ _ (HS.out _ hmk) (fun hH => ?_)
    clear hK K
    try simp only [Act.put, sA, sB, sC]
    refine wpAnyH_ready (rs := [12]) (by kernel_rfl) (by simp) ?_
    refine (AllReadyH.cons (o := m5o5) rfl (fun K hK => ?_) AllReadyH.nil)
    refine ready_append_gates (.tmp 34) (.tmp 38) rfl rfl w2.heap.size _ 0 [] rfl HOM.out va n vc gs rfl HN.out HGM.out.core.row.gates (by omega) (show w2.heap.size ≤ WM.heap.size from hgM.size) (fun v' w6 hown' hgrow6 hat6 => ?_)
    have hg6 := Off.own hmk hgrow6 (fun k hk => by injection hk with hk; have h2 : w2.heap.size = k := hk; exact .inr (by have := HG2.out.size; omega))
    rw [Nat.zero_add, List.nil_append] at hown'
    obtain ⟨va1, vc1, rfl⟩ := own_shape hown'
    have HOB := hid (show ∀ a, va1 = some a → M a.block ∨ w.heap.size ≤ a.block from fun a e => by subst e; have h1 := (hown'.lt a.block rfl).1; have := HG2.out.size; exact .inr (by omega))
    have hown' := (show w6.ownsRow (p + 1) 99 3 (.slice va1 n vc1) n (gateCells gs) from ⟨hown'.1, hown'.2.imp id (fun ⟨g, cap, cur, h1, h2, h3⟩ => ⟨g, cap, cur, h1, by have := HLT2.out; omega, h3⟩)⟩)
    have HPUT := hid (Pre.put (m := n) HN.out HGM.out hgrow6 (fun e => by injection e with e; have h1 := HLT2.out; have h2 : p = w2.heap.size := e; omega) (fun b e c => by injection c with c; have h1 := (HPR.out.ix b e).2.lt; have h2 : b = w2.heap.size := c; omega) hown')
    clear hown' hat6
    have hs1 := HPUT.out.2.2.1
    have hs2 := HPUT.out.2.2.2.1
    refine hK.out _ _ (HS.out _ hg6) (fun hH => ?_)
    clear hK K
    try simp only [Act.put, sA, sB, sC]
    refine tq 13 m5o6 ?_ ?_ hH ?_
    rotate_left 1
    · (intro W h; (try dsimp only at h); go_simp <;> with_reducible rfl)
    try simp only [Act.put, sA, sB, sC]
    refine tq 14 m5o7 ?_ ?_ hH ?_
    rotate_left 1
    · (intro W h; (try dsimp only at h); go_simp <;> with_reducible rfl)
    try simp only [Act.put, sA, sB, sC]
    refine wpAnyH_ready (rs := [15]) (by kernel_rfl) (by simp) ?_
    refine (AllReadyH.cons (o := m5o8) rfl (fun K hK => ?_) AllReadyH.nil)
    rw [if_pos (by rfl)]
    go_simp
    have hgs := Off.own hg6 (grown_set w6 p 0 (.slice va1 n vc1)) (fun k hk => by cases hk; exact .inl HMP.out)
    refine hK.out _ _ (HS.out _ hgs) (fun hH => ?_)
    clear hK K
    try simp only [Act.put, sA, sB, sC]
    refine wpAnyH_done (by kernel_rfl) ?_ _
    have hEND := hgs
    clear hH
    clear hdr hEND
    have k1 := HPUT.out.2.2.2.2.1
    have k1f := HPUT.out.2.2.2.2.2
    go_upto_region 9 with fail
    have HGV := hid HPUT.out.1
    have HV0 := hid (Off.own hgs (grown_set _ p 1 (.bool true)) (fun k hk => by cases hk; exact .inl HMP.out))
    have HVX := hid (show GateAt ((w6.setCell ⟨p, 0, none⟩ (.slice va1 n vc1)).setCell ⟨p, 1, none⟩ (.bool true)) w.heap.size 0 x from (((HX2.out.moved (gT (⟨rfl, rfl, rfl, Nat.le_refl _, fun _ _ _ => rfl⟩ : w2.grownBy w2.drew none) hgM) (by simp)).moved hgrow6 (fun e => by injection e with e; have h1 : w.heap.size < w2.heap.size := lies_lt HX2.out.1; have h2 : w.heap.size = w2.heap.size := e; omega)).moved (grown_set _ p 0 _) (fun e => by injection e with e; have := HX.out.2; omega)).moved (grown_set _ p 1 _) (fun e => by injection e with e; have := HX.out.2; omega))
    clear k1 k1f hs1 hs2
    obtain ⟨V, hV⟩ : ∃ V, (w6.setCell ⟨p, 0, none⟩ (.slice va1 n vc1)).setCell ⟨p, 1, none⟩ (.bool true) = V := ⟨_, rfl⟩
    rw [hV] at HGV HV0 HVX ⊢
    clear hV
    clear HS
    try clear hgs hg6 hgrow6 hgM hmk
    cases mb with
    | none =>
     have k2 := HGV.out.c2
     have hNe := nilmap_ne
     go_wp2_with fail
     clear k2 hNe
     have HGV := hid (Pre.bare (is := gs ++ [x]) HGV.out.grw)
     refine ref11 (fun c a d v w h => by cases d <;> exact h) hL HN HMP HGV HV0 HVX HOB ?_
     intro _ _ _ _ _ _ _ _ _ _ _ _ _ _ _ _ _ _ _ _ _ _ _ _ _ _ _ _ _ _ _ _ _ _ _ _ _ _ _ _ _ _ _ _ _ _ _ _ _ _ _ _ _ _ _ _ _ _ _ _ _ _ _ _ _ _ _ _ _ _ _ _ _ _ _ _ rgA rcA m wF hm hF hO hR
     have HGF := hid hF
     have HF0 := hid hO
     have HOR := hid hR
     clear hF hO hR
     have k0 := HGF.out.core.c0
     rw [show (gs ++ [x]).length = m by rw [List.length_append, HN.out]; exact hm] at k0
     have fs1 : IntKind.i64.wrap ((m : Int) - 1) = (n : Int) := by rw [IntWalk.i64_in _ (by omega)]; omega
     have fs2 : IntKind.i64.wrap (2 * (n : Int)) = 2 * (n : Int) := IntWalk.i64_in _ (by omega)
     clear hm
     go_wp2_with fail
     go_ret
     exact ⟨true, rgA, rcA, (none : Option Nat), vis', by rw [HA.out, HN.out]; rfl, by rw [HA.out]; exact HGF.out.grw, HVI.out, HF0.out, by
      rintro k (rfl | ⟨_, a, e1, rfl⟩ | e)
      · exact .inl HMP.out
      · exact HOR.out a e1
      · exact HMI.out k e⟩
    | some bI =>
     have k2 := HGV.out.c2
     have hNe := mapnil_ne bI
     have k0 := HGV.out.core.c0
     rw [HN.out] at k0
     obtain ⟨y0, y1, y2⟩ := HVX.out
     go_wp2_with fail
     clear hNe
     have hd : V.grownBy V.drew none := ⟨rfl, rfl, rfl, Nat.le_refl _, fun _ _ _ => rfl⟩
     have HPD := hid (HGV.out.grown hd)
     have HVD := hid (Off.own HV0.out hd (fun k e => by cases e))
     have HXD := hid (HVX.out.moved hd (by simp))
     clear hd
     go_still_tail 10, (by kernel_rfl)
     change wpList _ _ _ _ _ V.drew
     obtain ⟨wD, hwD⟩ : ∃ z, V.drew = z := ⟨_, rfl⟩
     rw [hwD] at HPD HVD HXD ⊢
     clear hwD k0 k2 y0 y1 y2
     refine wpList_setM rfl _ _ _ rfl bI gs rfl (HPD.out.ix bI rfl).2 (by rw [HN.out]; omega) x rfl HWF.out.1 HNX.out (by rw [HN.out]; rfl) ?_
     intro w5 hset5 hgr5
     have HGV := hid (show Pre p w5 true va1 vc1 gs (some bI) (gs ++ [x]) vis' from ⟨HPD.out.core.far hgr5 (fun z e => by cases e; exact ⟨(HPD.out.ix bI rfl).1, MapG.ne_row HPD.out.core.row (HPD.out.ix bI rfl).2⟩), hgr5.cell HPD.out.c2 (fun e => Nat.ne_of_lt (HPD.out.ix bI rfl).1 (Option.some.inj e)), fun b e => by injection e with e; subst e; exact ⟨(HPD.out.ix bI rfl).1, hset5⟩⟩)
     have HV0 := hid (Off.own HVD.out hgr5 (fun k e => by cases e; exact HMI.out bI rfl))
     have HVX := hid (HXD.out.moved hgr5 (fun e => by have h1 : w.heap.size = bI := Option.some.inj e; exact HXB.out bI rfl h1))
     clear hset5 hgr5
     go_wp2_with fail
     refine ref11 (fun c a d v w h => by cases d <;> exact h) hL HN HMP HGV HV0 HVX HOB ?_
     intro _ _ _ _ _ _ _ _ _ _ _ _ _ _ _ _ _ _ _ _ _ _ _ _ _ _ _ _ _ _ _ _ _ _ _ _ _ _ _ _ _ _ _ _ _ _ _ _ _ _ _ _ _ _ _ _ _ _ _ _ _ _ _ _ _ _ _ _ _ _ _ _ _ _ _ _ rgA rcA m wF hm hF hO hR
     have HGF := hid hF
     have HF0 := hid hO
     have HOR := hid hR
     clear hF hO hR
     have k0 := HGF.out.core.c0
     rw [show (gs ++ [x]).length = m by rw [List.length_append, HN.out]; exact hm] at k0
     have fs1 : IntKind.i64.wrap ((m : Int) - 1) = (n : Int) := by rw [IntWalk.i64_in _ (by omega)]; omega
     have fs2 : IntKind.i64.wrap (2 * (n : Int)) = 2 * (n : Int) := IntWalk.i64_in _ (by omega)
     clear hm
     go_wp2_with fail
     go_ret
     exact ⟨true, rgA, rcA, some bI, vis', by rw [HA.out, HN.out]; rfl, by rw [HA.out]; exact HGF.out.grw, HVI.out, HF0.out, by
      rintro k (rfl | ⟨_, a, e1, rfl⟩ | e)
      · exact .inl HMP.out
      · exact HOR.out a e1
      · exact HMI.out k e⟩
  | true =>
   go_upto_region 9 with fail
   clear k0 k1 f1 f1b
   have HGV := HPR
   have HV0 := HG2
   have HVX := HX2
   have HOB := hid (show ∀ a, va = some a → M a.block ∨ w.heap.size ≤ a.block from fun a e => .inl (HMO.out (by trivial) a e))
   cases mb with
   | none =>
    have k2 := HGV.out.c2
    have hNe := nilmap_ne
    go_wp2_with fail
    clear k2 hNe
    have HGV := hid (Pre.bare (is := gs ++ [x]) HGV.out.grw)
    refine ref11 (fun c a d v w h => by cases d <;> exact h) hL HN HMP HGV HV0 HVX HOB ?_
    intro _ _ _ _ _ _ _ _ _ _ _ _ _ _ _ _ _ _ _ _ _ _ _ _ _ _ _ _ _ _ _ _ _ _ _ _ _ _ _ _ _ _ _ _ _ _ _ _ _ _ _ _ _ _ _ _ _ _ _ _ _ _ _ _ _ _ _ _ _ _ _ _ _ _ _ _ rgA rcA m wF hm hF hO hR
    have HGF := hid hF
    have HF0 := hid hO
    have HOR := hid hR
    clear hF hO hR
    have k0 := HGF.out.core.c0
    rw [show (gs ++ [x]).length = m by rw [List.length_append, HN.out]; exact hm] at k0
    have fs1 : IntKind.i64.wrap ((m : Int) - 1) = (n : Int) := by rw [IntWalk.i64_in _ (by omega)]; omega
    have fs2 : IntKind.i64.wrap (2 * (n : Int)) = 2 * (n : Int) := IntWalk.i64_in _ (by omega)
    clear hm
    go_wp2_with fail
    go_ret
    exact ⟨true, rgA, rcA, (none : Option Nat), vis', by rw [HA.out, HN.out]; rfl, by rw [HA.out]; exact HGF.out.grw, HVI.out, HF0.out, by
     rintro k (rfl | ⟨_, a, e1, rfl⟩ | e)
     · exact .inl HMP.out
     · exact HOR.out a e1
     · exact HMI.out k e⟩
   | some bI =>
    have k2 := HGV.out.c2
    have hNe := mapnil_ne bI
    have k0 := HGV.out.core.c0
    rw [HN.out] at k0
    obtain ⟨y0, y1, y2⟩ := HVX.out
    go_wp2_with fail
    clear hNe
    have hd : w2.grownBy w2.drew none := ⟨rfl, rfl, rfl, Nat.le_refl _, fun _ _ _ => rfl⟩
    have HPD := hid (HGV.out.grown hd)
    have HVD := hid (Off.own HV0.out hd (fun k e => by cases e))
    have HXD := hid (HVX.out.moved hd (by simp))
    clear hd
    go_still_tail 10, (by kernel_rfl)
    change wpList _ _ _ _ _ w2.drew
    obtain ⟨wD, hwD⟩ : ∃ z, w2.drew = z := ⟨_, rfl⟩
    rw [hwD] at HPD HVD HXD ⊢
    clear hwD k0 k2 y0 y1 y2
    refine wpList_setM rfl _ _ _ rfl bI gs rfl (HPD.out.ix bI rfl).2 (by rw [HN.out]; omega) x rfl HWF.out.1 HNX.out (by rw [HN.out]; rfl) ?_
    intro w5 hset5 hgr5
    have HGV := hid (show Pre p w5 true va vc gs (some bI) (gs ++ [x]) vis' from ⟨HPD.out.core.far hgr5 (fun z e => by cases e; exact ⟨(HPD.out.ix bI rfl).1, MapG.ne_row HPD.out.core.row (HPD.out.ix bI rfl).2⟩), hgr5.cell HPD.out.c2 (fun e => Nat.ne_of_lt (HPD.out.ix bI rfl).1 (Option.some.inj e)), fun b e => by injection e with e; subst e; exact ⟨(HPD.out.ix bI rfl).1, hset5⟩⟩)
    have HV0 := hid (Off.own HVD.out hgr5 (fun k e => by cases e; exact HMI.out bI rfl))
    have HVX := hid (HXD.out.moved hgr5 (fun e => by have h1 : w.heap.size = bI := Option.some.inj e; exact HXB.out bI rfl h1))
    clear hset5 hgr5
    go_wp2_with fail
    refine ref11 (fun c a d v w h => by cases d <;> exact h) hL HN HMP HGV HV0 HVX HOB ?_
    intro _ _ _ _ _ _ _ _ _ _ _ _ _ _ _ _ _ _ _ _ _ _ _ _ _ _ _ _ _ _ _ _ _ _ _ _ _ _ _ _ _ _ _ _ _ _ _ _ _ _ _ _ _ _ _ _ _ _ _ _ _ _ _ _ _ _ _ _ _ _ _ _ _ _ _ _ rgA rcA m wF hm hF hO hR
    have HGF := hid hF
    have HF0 := hid hO
    have HOR := hid hR
    clear hF hO hR
    have k0 := HGF.out.core.c0
    rw [show (gs ++ [x]).length = m by rw [List.length_append, HN.out]; exact hm] at k0
    have fs1 : IntKind.i64.wrap ((m : Int) - 1) = (n : Int) := by rw [IntWalk.i64_in _ (by omega)]; omega
    have fs2 : IntKind.i64.wrap (2 * (n : Int)) = 2 * (n : Int) := IntWalk.i64_in _ (by omega)
    clear hm
    go_wp2_with fail
    go_ret
    exact ⟨true, rgA, rcA, some bI, vis', by rw [HA.out, HN.out]; rfl, by rw [HA.out]; exact HGF.out.grw, HVI.out, HF0.out, by
     rintro k (rfl | ⟨_, a, e1, rfl⟩ | e)
     · exact .inl HMP.out
     · exact HOR.out a e1
     · exact HMI.out k e⟩
end Go.Proofs.Ythdhmflodiincaa

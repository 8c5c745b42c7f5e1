/- Stage 20, joined: R5, R6, R7. -/
import Derived.BigRegion
import Derived.Test.YthkemajekkilmaaGA11
import Derived.Test.YthkemajekkilmaaGA08
/- The reference's Run. -/
namespace Go.Proofs.Ythkemajekkilmaa
open Go.RowKit
def runT (V : Nat) (C : List (List Int)) (A : List Int) : List Int := (prop C (V + 1) (uq A) []).1
def runR (V : Nat) (C : List (List Int)) (A : List Int) : List Int := List.replicate (uq A).length (-1) ++ (prop C (V + 1) (uq A) []).2.1
def runK (V : Nat) (C : List (List Int)) (A : List Int) : Int := (prop C (V + 1) (uq A) []).2.2
theorem res36 (tmps : Array Value) (w : World) (b : Nat) (v0 v1 v2 : Value) (ht : tmps.getD 4 undef = .pointer (some ⟨b, 0, none⟩)) (h0 : w.cell? ⟨b, 0, none⟩ = some v0) (h1 : w.cell? ⟨b, 1, none⟩ = some v1) (h2 : w.cell? ⟨b, 2, none⟩ = some v2) :
    (results Try.f36 tmps).run Try.prog w = .ok (.agg #[v0, v1, v2]) w := by
  have ht' : tmps[4]?.getD undef = .pointer (some ⟨b, 0, none⟩) := by simpa using ht
  simp [results, Try.results36, ht', go_sem, h0, h1, h2]
set_option maxHeartbeats 16000000 in
set_option maxRecDepth 100000 in
theorem run_calls (V : Nat) (C : List (List Int)) (ca : Option Addr) (cc : Nat) (A : List Int) (aa : Option Addr) (ac : Nat) (w : World) (h : ClsW w ca cc C) (hA : IntsW w aa ac A) (hV : V ≤ 40) (hC : C.length ≤ 1000) (hL : ∀ c ∈ C, c.length ≤ 100) (hR : Ran V C) (hAl : A.length ≤ 100) :
    Calls Try.prog 36 #[.agg #[.int .i64 (V : Int), .slice ca C.length cc], .slice aa A.length ac] w fun e w' => ∃ a c a' c', e = .returned (.agg #[.slice a (runT V C A).length c, .slice a' (runR V C A).length c', .int .i64 (runK V C A)]) ∧ IntsW w' a c (runT V C A) ∧ IntsW w' a' c' (runR V C A) ∧ w.grownBy w' none := by
  obtain ⟨n, hn⟩ : ∃ n, C.length = n := ⟨_, rfl⟩
  obtain ⟨an, han⟩ : ∃ n, A.length = n := ⟨_, rfl⟩
  obtain ⟨P, hP⟩ : ∃ P : Ending → World → Prop, (fun e w' => ∃ a c a' c', e = .returned (.agg #[.slice a (runT V C A).length c, .slice a' (runR V C A).length c', .int .i64 (runK V C A)]) ∧ IntsW w' a c (runT V C A) ∧ IntsW w' a' c' (runR V C A) ∧ w.grownBy w' none) = P := ⟨_, rfl⟩
  have HP := Lib.hid hP
  rw [hP]
  obtain ⟨W1, hW1⟩ : ∃ z, w.alloc (.cells #[.int .i64 (V : Int), .slice ca n cc] 24) = z := ⟨_, rfl⟩
  obtain ⟨W2, hW2⟩ : ∃ z, W1.alloc (.cells #[.slice none 0 0, .slice none 0 0, .int .i64 0] 57) = z := ⟨_, rfl⟩
  obtain ⟨W3, hW3⟩ : ∃ z, W2.alloc (.cells #[.slice none 0 0, .slice none 0 0, .int .i64 (-1)] 57) = z := ⟨_, rfl⟩
  obtain ⟨q0, q1, hg1⟩ := box_at w _ _ hW1
  obtain ⟨s0, s1, s2, sf, hg2⟩ := cell_three_new W1 _ _ _ 57 hW2
  obtain ⟨t0, t1, t2, tf, hg3⟩ := cell_three_new W2 _ _ _ 57 hW3
  obtain ⟨bf, hbf⟩ : ∃ z, w.heap.size = z := ⟨_, rfl⟩
  obtain ⟨rb, hrb⟩ : ∃ z, W1.heap.size = z := ⟨_, rfl⟩
  obtain ⟨bt, hbt⟩ : ∃ z, W2.heap.size = z := ⟨_, rfl⟩
  obtain ⟨B, hB⟩ : ∃ z, W3.heap.size = z := ⟨_, rfl⟩
  rw [hbf] at q0 q1
  rw [hrb] at s0 s1 s2 sf
  rw [hbt] at t0 t1 t2 tf
  have hlt : bf < rb ∧ rb < bt ∧ bt < B := ⟨by rw [← hrb]; exact lies_lt q0, by rw [← hbt]; exact lies_lt s0, by rw [← hB]; exact lies_lt t0⟩
  have hRB : RB W1 bt rb B W3 [] [] none 0 none 0 := ⟨World.grownBy.trans hg2 hg3, t0, t1, t2, tf, hg3.cell s0 (by simp), hg3.cell s1 (by simp), hg3.cell s2 (by simp), fun o => (grown_frozen hg3 (b := rb) (by omega) o).trans (sf o), ⟨rfl, .inl ⟨rfl, rfl⟩⟩, ⟨rfl, .inl ⟨rfl, rfl⟩⟩, fun b e => (by cases e), by rw [hB]; exact Nat.le_refl _, ⟨by rw [hrb]; exact Nat.le_refl _, hlt.2⟩⟩
  have HB0 := Lib.hid hRB
  have HC := Lib.hid (And.intro (h.grown hg1) (And.intro hn (And.intro hL hR)))
  have HA := Lib.hid (And.intro hA (And.intro (hA.grown hg1) han))
  have HQ := Lib.hid (And.intro q0 (And.intro q1 hg1))
  have HLT := Lib.hid (And.intro hlt (And.intro hbf hrb))
  rw [hn, han]
  rw [hn] at hC
  rw [han] at hAl
  have hq1 := hg2.cell q1 (by simp)
  clear h hA hL hR hn han hP q0 q1 t0 t1 t2 tf s0 s1 s2 sf hg1 hg2 hg3 hlt hRB
  go_enter Try.func36, Try.ntmps36
  go_wp2_with fail
  clear hW1 hW2 hW3 hbf hrb hbt hB hq1
  obtain ⟨i0, hi0, hz0, hz1, hz2⟩ := info_parts info3
  go_loopg [6, 7] an (fun gk s6 _s7 wr => ∃ (k : Nat) (la : Option Addr) (lc : Nat) (ra : Option Addr) (rc : Nat), s6 = .int .i64 (k : Int) ∧ gk = an - k ∧ k ≤ an ∧ RB W1 bt rb B wr (uq (A.take k)) (List.replicate (uq (A.take k)).length (-1)) la lc ra rc)
  case atStart => exact ⟨0, none, 0, none, 0, rfl, rfl, by omega, by rw [List.take_zero]; exact HB0.out⟩
  case round =>
    obtain ⟨k, la, lc, ra, rc, rfl, hgk, hk, hrb⟩ := hrel
    by_cases hkn : k < an
    · have f1 : decide ((k : Int) < (an : Int)) = true := decide_eq_true (by omega)
      have f1' : decide (k < an) = true := decide_eq_true hkn
      have j0 : (0 : Int) ≤ (k : Int) := by omega
      have j1 : (k : Int) < (an : Int) := by omega
      have k1 : IntKind.i64.wrap ((k : Int) + 1) = (k : Int) + 1 := IntWalk.i64_in _ (by omega)
      obtain ⟨x, hx⟩ : ∃ x, A[k]? = some x := ⟨_, List.getElem?_eq_getElem (by rw [HA.out.2.2]; exact hkn)⟩
      have huq : uq (A.take (k + 1)) = if x ∈ uq (A.take k) then uq (A.take k) else uq (A.take k) ++ [x] := by rw [take_snoc hx, uq_snoc]
      have htb := Nat.le_trans (uq_len (A.take k)) (by rw [List.length_take]; omega : (A.take k).length ≤ 100)
      obtain ⟨tr, htr⟩ : ∃ tr, uq (A.take k) = tr := ⟨_, rfl⟩
      rw [htr] at huq htb hrb
      obtain ⟨rs, hrs⟩ : ∃ rs, List.replicate tr.length (-1 : Int) = rs := ⟨_, rfl⟩
      rw [hrs] at hrb
      have hrl : rs.length = tr.length := by rw [← hrs, List.length_replicate]
      obtain ⟨b, o, hb0, hcell⟩ := (HA.out.2.1.grown hrb.g).at hx
      subst hb0
      have hbw : b < w.heap.size := by
        obtain ⟨b', o', e', h'⟩ := HA.out.1.at hx
        cases e'
        exact lies_lt h'
      have HJ := Lib.hid (And.intro hgk (And.intro huq (And.intro hrb hbw)))
      have c0 := hrb.c0
      have c1 := hrb.c1
      obtain ⟨tn, htn⟩ : ∃ n, tr.length = n := ⟨_, rfl⟩
      have hcall := fun m => has_calls tr la lc x (wr.drewN m) ((own_ints hrb.o0).2.grown (grown_drewN _ _ none)) (by omega)
      rw [htn] at hcall c0 htb hrl
      rw [hrl] at c1
      obtain ⟨d, hd⟩ : ∃ d, decide (x ∈ tr) = d := ⟨_, rfl⟩
      rw [hd] at hcall
      have HCA := Lib.hid hcall
      have HTL := Lib.hid htn
      have HRL := Lib.hid (And.intro hrl (And.intro hrs hd))
      have HTB : Hid (tn ≤ 1000000) := Lib.hid (by omega)
      have HTN := Lib.hid htb
      clear hx huq hrb hgk hcall hrl hrs htr hd
      go_wp2_with fail
      go_quiet ((go_at_call 31; exact (HCA.out _).mono fun _ _ h => ⟨h.1, _, h.2⟩))
      replace HJ := Lib.hid (And.intro HJ.out.1 (And.intro HJ.out.2.1 (And.intro (HJ.out.2.2.1.grown (grown_drewN wr nq none)) HJ.out.2.2.2)))
      have hcell' : (wr.drewN nq).cell? ⟨b, o + k, none⟩ = some (.int .i64 x) := hcell
      clear hcell c0 c1 HCA
      obtain ⟨wr, hws⟩ : ∃ z, wr.drewN nq = z := ⟨_, rfl⟩
      rw [hws] at hcell' HJ ⊢
      clear hws
      cases d
      case true =>
        go_wp2_with fail
        go_roundg (an - (k + 1))
        case measure => rw [HJ.out.1]; omega
        case rel => exact ⟨k + 1, la, lc, ra, rc, rfl, rfl, by omega, by rw [HJ.out.2.1, if_pos (of_decide_eq_true HRL.out.2.2), HRL.out.2.1]; exact HJ.out.2.2.1⟩
      case false =>
        go_wp2_with fail
        have HXC := Lib.hid hcell'
        have HS7 := Lib.hid (fun (W : World) (h : W.cell? ⟨b, o + k, none⟩ = some (.int .i64 x)) => h)
        have hlow : ∀ r, (Value.slice la tn lc).ownBlock = some r → B ≤ r := fun r e => own_low HJ.out.2.2.1.o0 r (by rw [HTL.out]; exact e)
        have HXN : Hid (some b ≠ (Value.slice la tn lc).ownBlock) := Lib.hid (fun e => by have h1 := hlow b e.symm; have h2 := HJ.out.2.2.2; have h3 := HLT.out; omega)
        have HBN : Hid (some bt ≠ (Value.slice la tn lc).ownBlock) := Lib.hid (fun e => by have h1 := hlow bt e.symm; have h3 := HLT.out; omega)
        have HXT : Hid ((some b : Option Nat) ≠ some bt) := Lib.hid (fun e => by cases e; have h2 := HJ.out.2.2.2; have h3 := HLT.out; omega)
        have HBD := HJ.out.2.2.1.grown (grown_drew wr none)
        clear hcell' hlow
        have HBD' := Lib.hid HBD
        clear HBD
        have hdr := (show wr.drew.cell? _ = _ from HXC.out)
        refine wp_region_held_drew (S := (fun Wh : World => Wh.cell? ⟨b, o + k, none⟩ = some (.int .i64 x))) (by kernel_rfl) (HS7.out _ hdr) (fun hHeld => ?_)
        refine wpAnyH_take (i := 0) (oi := { dst := some 27, op := Op.fieldAddr 57 (Operand.tmp 5) 0, type := 0, pos := "ref.go:100", after := #[], guard := none }) (v := ?_) rfl (by kernel_rfl) (by kernel_rfl) (by kernel_rfl) (fun _ _ _ h => h) (Or.inl ⟨by rfl, ?_⟩) (by assumption) ?_
        rotate_left 1
        · (intro W hSW; (try dsimp only at hSW); first | (go_simp; done) | (go_simp; with_reducible rfl))
        try simp only [Act.put, List.setIfInBounds_toArray, List.set_cons_zero, List.set_cons_succ]
        refine wpAnyH_take (i := 2) (oi := { dst := some 29, op := Op.move (Operand.tmp 1), type := 25, pos := "ref.go:100", after := #[], guard := none }) (v := ?_) rfl (by kernel_rfl) (by kernel_rfl) (by kernel_rfl) (fun _ _ _ h => h) (Or.inl ⟨by rfl, ?_⟩) (by assumption) ?_
        rotate_left 1
        · (intro W hSW; (try dsimp only at hSW); first | (go_simp; done) | (go_simp; with_reducible rfl))
        try simp only [Act.put, List.setIfInBounds_toArray, List.set_cons_zero, List.set_cons_succ]
        refine wpAnyH_take (i := 3) (oi := { dst := some 30, op := Op.move (Operand.tmp 6), type := 3, pos := "ref.go:100", after := #[], guard := none }) (v := ?_) rfl (by kernel_rfl) (by kernel_rfl) (by kernel_rfl) (fun _ _ _ h => h) (Or.inl ⟨by rfl, ?_⟩) (by assumption) ?_
        rotate_left 1
        · (intro W hSW; (try dsimp only at hSW); first | (go_simp; done) | (go_simp; with_reducible rfl))
        try simp only [Act.put, List.setIfInBounds_toArray, List.set_cons_zero, List.set_cons_succ]
        refine wpAnyH_take (i := 4) (oi := { dst := some 31, op := Op.indexAddr 25 (Operand.tmp 29) (Operand.tmp 30), type := 0, pos := "ref.go:100", after := #[{ on := 2, ground := Ground.data }, { on := 3, ground := Ground.data }], guard := none }) (v := ?_) rfl (by kernel_rfl) (by kernel_rfl) (by kernel_rfl) (fun _ _ _ h => h) (Or.inl ⟨by rfl, ?_⟩) (by assumption) ?_
        rotate_left 1
        · (intro W hSW; (try dsimp only at hSW); first | (go_simp; done) | (go_simp; with_reducible rfl))
        try simp only [Act.put, List.setIfInBounds_toArray, List.set_cons_zero, List.set_cons_succ]
        refine wpAnyH_take (i := 5) (oi := { dst := some 32, op := Op.load 3 (Operand.tmp 31), type := 3, pos := "ref.go:100", after := #[{ on := 4, ground := Ground.data }], guard := none }) (v := ?_) rfl (by kernel_rfl) (by kernel_rfl) (by kernel_rfl) (fun _ _ _ h => h) (Or.inl ⟨by rfl, ?_⟩) (by assumption) ?_
        rotate_left 1
        · (intro W hSW; (try dsimp only at hSW); first | (go_simp; done) | (go_simp; with_reducible rfl))
        try simp only [Act.put, List.setIfInBounds_toArray, List.set_cons_zero, List.set_cons_succ]
        refine wpAnyH_ready (rs := [1, 6]) (by kernel_rfl) (by simp) ?_
        refine (AllReadyH.cons (o := { dst := some 28, op := Op.load 25 (Operand.tmp 27), type := 25, pos := "ref.go:100", after := #[{ on := 0, ground := Ground.data }], guard := none }) rfl (fun K hK => ?_) (AllReadyH.cons (o := { dst := some 33, op := Op.buildSlice 25 1 #[(0, Operand.tmp 32)], type := 25, pos := "ref.go:100", after := #[{ on := 5, ground := Ground.data }], guard := none }) rfl (fun K hK => ?_) AllReadyH.nil))
        · rw [if_pos (by rfl)]
          have hq := HBD'.out.c0
          rw [HTL.out] at hq
          go_simp
          clear hq
          refine hK.out _ _ (HS7.out _ hdr) (fun hHeld => ?_)
          clear hK K
          try simp only [Act.put, List.setIfInBounds_toArray, List.set_cons_zero, List.set_cons_succ]
          refine wpAnyH_ready (rs := [6]) (by kernel_rfl) (by simp) ?_
          refine (AllReadyH.cons (o := { dst := some 33, op := Op.buildSlice 25 1 #[(0, Operand.tmp 32)], type := 25, pos := "ref.go:100", after := #[{ on := 5, ground := Ground.data }], guard := none }) rfl (fun K hK => ?_) AllReadyH.nil)
          rw [if_pos (by rfl)]
          go_simp
          have haA : ∀ r, wr.grownBy ((World.alloc wr (.cells #[.int .i64 x] 3)).drew) r := fun r => (World.grownBy_alloc wr _ r).trans (grown_drew _ r)
          have hnA : ∀ j u, [Value.int .i64 x][j]? = some u → ((World.alloc wr (.cells #[.int .i64 x] 3)).drew).cell? ((⟨wr.heap.size, 0, none⟩ : Addr).add j) = some u := cell_one_new wr _ _
          obtain ⟨WA, hWA⟩ : ∃ WA, (World.alloc wr (.cells #[.int .i64 x] 3)).drew = WA := ⟨_, rfl⟩
          rw [hWA] at haA hnA ⊢
          clear hWA
          have htA := (haA none).cell HXC.out (by simp)
          have HBA := HJ.out.2.2.1.grown (haA none)
          refine hK.out _ _ (HS7.out _ htA) (fun hHeld => ?_)
          clear hK K
          try simp only [Act.put, List.setIfInBounds_toArray, List.set_cons_zero, List.set_cons_succ]
          refine wpAnyH_ready (rs := [7]) (by kernel_rfl) (by simp) ?_
          refine (AllReadyH.cons (o := { dst := some 34, op := Op.call { callee := Callee.builtin Builtin.append, args := #[Operand.tmp 28, Operand.tmp 33], argTypes := #[25, 25] }, type := 25, pos := "ref.go:100", after := #[{ on := 1, ground := Ground.data }, { on := 6, ground := Ground.data }], guard := none }) rfl (fun K hK => ?_) AllReadyH.nil)
          refine ready_append_g 25 3 (.tmp 28) (.tmp 33) rfl rfl Try.underlying25 hi0 hz0 hz1 hz2 rfl (by decide) (by omega) B _ _ (intCells tr) rfl (by rw [← HTL.out]; exact HBA.o0) ⟨wr.heap.size, 0, none⟩ [.int .i64 x] rfl rfl hnA (fun u hu => by simp at hu; subst hu; rfl) HTB.out HBA.hB (fun v' w6 hown' hgrow6 hat6 => ?_)
          obtain ⟨rgA, rcA, rfl⟩ := own_shape hown'
          have htX := hgrow6.cell htA HXN.out
          refine hK.out _ _ (HS7.out _ htX) (fun hHeld => ?_)
          clear hK K
          try simp only [Act.put, List.setIfInBounds_toArray, List.set_cons_zero, List.set_cons_succ]
          refine wpAnyH_take (i := 8) (oi := { dst := some 35, op := Op.fieldAddr 57 (Operand.tmp 5) 0, type := 0, pos := "ref.go:100", after := #[{ on := 0, ground := Ground.phase }, { on := 1, ground := Ground.phase }, { on := 2, ground := Ground.phase }, { on := 3, ground := Ground.phase }, { on := 4, ground := Ground.phase }, { on := 5, ground := Ground.phase }, { on := 6, ground := Ground.phase }, { on := 7, ground := Ground.phase }], guard := none }) (v := ?_) rfl (by kernel_rfl) (by kernel_rfl) (by kernel_rfl) (fun _ _ _ h => h) (Or.inl ⟨by rfl, ?_⟩) (by assumption) ?_
          rotate_left 1
          · (intro W hSW; (try dsimp only at hSW); first | (go_simp; done) | (go_simp; with_reducible rfl))
          try simp only [Act.put, List.setIfInBounds_toArray, List.set_cons_zero, List.set_cons_succ]
          refine wpAnyH_ready (rs := [9]) (by kernel_rfl) (by simp) ?_
          refine (AllReadyH.cons (o := { dst := none, op := Op.store 25 (Operand.tmp 35) (Operand.tmp 34), type := 0, pos := "ref.go:100", after := #[{ on := 8, ground := Ground.data }, { on := 7, ground := Ground.data }, { on := 7, ground := Ground.chain }, { on := 0, ground := Ground.phase }, { on := 1, ground := Ground.phase }, { on := 2, ground := Ground.phase }, { on := 3, ground := Ground.phase }, { on := 4, ground := Ground.phase }, { on := 5, ground := Ground.phase }, { on := 6, ground := Ground.phase }, { on := 7, ground := Ground.phase }], guard := none }) rfl (fun K hK => ?_) AllReadyH.nil)
          rw [if_pos (by rfl)]
          have hAPP := HJ.out.2.2.1.app0 (by rw [HTL.out]; exact (haA _).trans hgrow6) (by rw [HTL.out]; exact hown') (by rw [HTL.out]; exact hat6.imp id (fun h => ⟨_, h, (haA none).size⟩))
          have hc := hgrow6.cell (HBA.c0) HBN.out
          have hz : w6.frozen? ⟨bt, 0, none⟩ = false := (World.frozen?_of_block (a := ⟨bt, 0, none⟩) (hgrow6.block bt (lies_lt HBA.c0) HBN.out)).trans (HBA.fr 0)
          rw [HTL.out] at hc hAPP
          go_simp
          clear hc hz
          obtain ⟨WX, hWX⟩ : ∃ z, w6.setCell ⟨bt, 0, none⟩ (.slice rgA (tn + 1) rcA) = z := ⟨_, rfl⟩
          have htY : WX.cell? ⟨b, o + k, none⟩ = some (.int .i64 x) := by rw [← hWX]; exact (grown_set w6 bt 0 _).cell htX HXT.out
          rw [hWX] at hAPP ⊢
          clear hWX
          refine hK.out _ _ (HS7.out _ htY) (fun hHeld => ?_)
          clear hK K
          try simp only [Act.put, List.setIfInBounds_toArray, List.set_cons_zero, List.set_cons_succ]
          refine wpAnyH_done (by kernel_rfl) ?_ _
          have hEND := htY
          clear hHeld
          have HAPP := Lib.hid hAPP
          clear hAPP
          have y1 := HAPP.out.c1
          rw [HRL.out.1] at y1
          have yf := HAPP.out.fr 1
          have HO1 : Hid (WX.ownsRow B 3 1 (.slice ra tn rc) tn (intCells rs)) := Lib.hid (by have h1 := HAPP.out.o1; rw [HRL.out.1] at h1; exact h1)
          have hszX : B ≤ WX.heap.size := HAPP.out.hB
          have htn : tn ≤ 100 := HTN.out
          clear hnA haA htA HBA hown' hgrow6 hat6 htX htY hHeld hEND
          go_wp2_with (at_builtin; refine wpList_append_own_at _ rfl _ _ 25 rfl B 3 i0 (.int .i64 0) 1 8 Try.underlying25 hi0 hz0 hz1 hz2 rfl (by decide) _ tn (intCells rs) rfl (HO1.out.alloc _) ⟨WX.heap.size, 0, none⟩ 1 1 [.int .i64 (-1)] rfl rfl (cell_one_new _ _ _) (fun u hu => by simp at hu; subst hu; rfl) (by unfold maxLen; omega) (by omega) (by simp; omega) ?_)
          intro v9 w9 hown9 hgrow9 _ hat9
          obtain ⟨sa, sc, rfl⟩ := own_shape hown9
          have hg9 : WX.grownBy w9 (Value.slice ra tn rc).ownBlock := (World.grownBy_alloc WX _ _).trans hgrow9
          have HAP1 := Lib.hid (HAPP.out.app1 (by rw [HRL.out.1]; exact hg9) (by rw [HRL.out.1]; exact hown9) (by rw [HRL.out.1]; exact hat9.imp id (fun h => ⟨_, h, by simp⟩)))
          have hne9 : some bt ≠ (Value.slice ra tn rc).ownBlock := fun e => by have h1 := own_low HO1.out bt e.symm; have h2 := HAPP.out.lt; omega
          have u1 := hg9.cell y1 hne9
          have uf : w9.frozen? ⟨bt, 1, none⟩ = false := (World.frozen?_of_block (a := ⟨bt, 1, none⟩) (hg9.block bt (lies_lt y1) hne9)).trans yf
          clear hown9 hgrow9 hat9 hg9 hne9 y1 yf
          go_wp2_with fail
          go_roundg (an - (k + 1))
          case measure => rw [HJ.out.1]; omega
          case rel => exact ⟨k + 1, rgA, rcA, sa, sc, rfl, rfl, by omega, by rw [HJ.out.2.1, if_neg (of_decide_eq_false HRL.out.2.2), List.length_append, HTL.out, List.length_singleton, List.replicate_succ', ← HTL.out, HRL.out.2.1]; have h1 := HAP1.out; rw [HRL.out.1, HTL.out.symm] at h1; exact h1⟩
        · rw [if_pos (by rfl)]
          go_simp
          have haA : ∀ r, wr.grownBy ((World.alloc wr (.cells #[.int .i64 x] 3)).drew) r := fun r => (World.grownBy_alloc wr _ r).trans (grown_drew _ r)
          have hnA : ∀ j u, [Value.int .i64 x][j]? = some u → ((World.alloc wr (.cells #[.int .i64 x] 3)).drew).cell? ((⟨wr.heap.size, 0, none⟩ : Addr).add j) = some u := cell_one_new wr _ _
          obtain ⟨WA, hWA⟩ : ∃ WA, (World.alloc wr (.cells #[.int .i64 x] 3)).drew = WA := ⟨_, rfl⟩
          rw [hWA] at haA hnA ⊢
          clear hWA
          have htA := (haA none).cell HXC.out (by simp)
          have HBA := HJ.out.2.2.1.grown (haA none)
          refine hK.out _ _ (HS7.out _ htA) (fun hHeld => ?_)
          clear hK K
          try simp only [Act.put, List.setIfInBounds_toArray, List.set_cons_zero, List.set_cons_succ]
          refine wpAnyH_ready (rs := [1]) (by kernel_rfl) (by simp) ?_
          refine (AllReadyH.cons (o := { dst := some 28, op := Op.load 25 (Operand.tmp 27), type := 25, pos := "ref.go:100", after := #[{ on := 0, ground := Ground.data }], guard := none }) rfl (fun K hK => ?_) AllReadyH.nil)
          rw [if_pos (by rfl)]
          have hq := HBA.c0
          rw [HTL.out] at hq
          go_simp
          clear hq
          refine hK.out _ _ (HS7.out _ htA) (fun hHeld => ?_)
          clear hK K
          try simp only [Act.put, List.setIfInBounds_toArray, List.set_cons_zero, List.set_cons_succ]
          refine wpAnyH_ready (rs := [7]) (by kernel_rfl) (by simp) ?_
          refine (AllReadyH.cons (o := { dst := some 34, op := Op.call { callee := Callee.builtin Builtin.append, args := #[Operand.tmp 28, Operand.tmp 33], argTypes := #[25, 25] }, type := 25, pos := "ref.go:100", after := #[{ on := 1, ground := Ground.data }, { on := 6, ground := Ground.data }], guard := none }) rfl (fun K hK => ?_) AllReadyH.nil)
          refine ready_append_g 25 3 (.tmp 28) (.tmp 33) rfl rfl Try.underlying25 hi0 hz0 hz1 hz2 rfl (by decide) (by omega) B _ _ (intCells tr) rfl (by rw [← HTL.out]; exact HBA.o0) ⟨wr.heap.size, 0, none⟩ [.int .i64 x] rfl rfl hnA (fun u hu => by simp at hu; subst hu; rfl) HTB.out HBA.hB (fun v' w6 hown' hgrow6 hat6 => ?_)
          obtain ⟨rgA, rcA, rfl⟩ := own_shape hown'
          have htX := hgrow6.cell htA HXN.out
          refine hK.out _ _ (HS7.out _ htX) (fun hHeld => ?_)
          clear hK K
          try simp only [Act.put, List.setIfInBounds_toArray, List.set_cons_zero, List.set_cons_succ]
          refine wpAnyH_take (i := 8) (oi := { dst := some 35, op := Op.fieldAddr 57 (Operand.tmp 5) 0, type := 0, pos := "ref.go:100", after := #[{ on := 0, ground := Ground.phase }, { on := 1, ground := Ground.phase }, { on := 2, ground := Ground.phase }, { on := 3, ground := Ground.phase }, { on := 4, ground := Ground.phase }, { on := 5, ground := Ground.phase }, { on := 6, ground := Ground.phase }, { on := 7, ground := Ground.phase }], guard := none }) (v := ?_) rfl (by kernel_rfl) (by kernel_rfl) (by kernel_rfl) (fun _ _ _ h => h) (Or.inl ⟨by rfl, ?_⟩) (by assumption) ?_
          rotate_left 1
          · (intro W hSW; (try dsimp only at hSW); first | (go_simp; done) | (go_simp; with_reducible rfl))
          try simp only [Act.put, List.setIfInBounds_toArray, List.set_cons_zero, List.set_cons_succ]
          refine wpAnyH_ready (rs := [9]) (by kernel_rfl) (by simp) ?_
          refine (AllReadyH.cons (o := { dst := none, op := Op.store 25 (Operand.tmp 35) (Operand.tmp 34), type := 0, pos := "ref.go:100", after := #[{ on := 8, ground := Ground.data }, { on := 7, ground := Ground.data }, { on := 7, ground := Ground.chain }, { on := 0, ground := Ground.phase }, { on := 1, ground := Ground.phase }, { on := 2, ground := Ground.phase }, { on := 3, ground := Ground.phase }, { on := 4, ground := Ground.phase }, { on := 5, ground := Ground.phase }, { on := 6, ground := Ground.phase }, { on := 7, ground := Ground.phase }], guard := none }) rfl (fun K hK => ?_) AllReadyH.nil)
          rw [if_pos (by rfl)]
          have hAPP := HJ.out.2.2.1.app0 (by rw [HTL.out]; exact (haA _).trans hgrow6) (by rw [HTL.out]; exact hown') (by rw [HTL.out]; exact hat6.imp id (fun h => ⟨_, h, (haA none).size⟩))
          have hc := hgrow6.cell (HBA.c0) HBN.out
          have hz : w6.frozen? ⟨bt, 0, none⟩ = false := (World.frozen?_of_block (a := ⟨bt, 0, none⟩) (hgrow6.block bt (lies_lt HBA.c0) HBN.out)).trans (HBA.fr 0)
          rw [HTL.out] at hc hAPP
          go_simp
          clear hc hz
          obtain ⟨WX, hWX⟩ : ∃ z, w6.setCell ⟨bt, 0, none⟩ (.slice rgA (tn + 1) rcA) = z := ⟨_, rfl⟩
          have htY : WX.cell? ⟨b, o + k, none⟩ = some (.int .i64 x) := by rw [← hWX]; exact (grown_set w6 bt 0 _).cell htX HXT.out
          rw [hWX] at hAPP ⊢
          clear hWX
          refine hK.out _ _ (HS7.out _ htY) (fun hHeld => ?_)
          clear hK K
          try simp only [Act.put, List.setIfInBounds_toArray, List.set_cons_zero, List.set_cons_succ]
          refine wpAnyH_done (by kernel_rfl) ?_ _
          have hEND := htY
          clear hHeld
          have HAPP := Lib.hid hAPP
          clear hAPP
          have y1 := HAPP.out.c1
          rw [HRL.out.1] at y1
          have yf := HAPP.out.fr 1
          have HO1 : Hid (WX.ownsRow B 3 1 (.slice ra tn rc) tn (intCells rs)) := Lib.hid (by have h1 := HAPP.out.o1; rw [HRL.out.1] at h1; exact h1)
          have hszX : B ≤ WX.heap.size := HAPP.out.hB
          have htn : tn ≤ 100 := HTN.out
          clear hnA haA htA HBA hown' hgrow6 hat6 htX htY hHeld hEND
          go_wp2_with (at_builtin; refine wpList_append_own_at _ rfl _ _ 25 rfl B 3 i0 (.int .i64 0) 1 8 Try.underlying25 hi0 hz0 hz1 hz2 rfl (by decide) _ tn (intCells rs) rfl (HO1.out.alloc _) ⟨WX.heap.size, 0, none⟩ 1 1 [.int .i64 (-1)] rfl rfl (cell_one_new _ _ _) (fun u hu => by simp at hu; subst hu; rfl) (by unfold maxLen; omega) (by omega) (by simp; omega) ?_)
          intro v9 w9 hown9 hgrow9 _ hat9
          obtain ⟨sa, sc, rfl⟩ := own_shape hown9
          have hg9 : WX.grownBy w9 (Value.slice ra tn rc).ownBlock := (World.grownBy_alloc WX _ _).trans hgrow9
          have HAP1 := Lib.hid (HAPP.out.app1 (by rw [HRL.out.1]; exact hg9) (by rw [HRL.out.1]; exact hown9) (by rw [HRL.out.1]; exact hat9.imp id (fun h => ⟨_, h, by simp⟩)))
          have hne9 : some bt ≠ (Value.slice ra tn rc).ownBlock := fun e => by have h1 := own_low HO1.out bt e.symm; have h2 := HAPP.out.lt; omega
          have u1 := hg9.cell y1 hne9
          have uf : w9.frozen? ⟨bt, 1, none⟩ = false := (World.frozen?_of_block (a := ⟨bt, 1, none⟩) (hg9.block bt (lies_lt y1) hne9)).trans yf
          clear hown9 hgrow9 hat9 hg9 hne9 y1 yf
          go_wp2_with fail
          go_roundg (an - (k + 1))
          case measure => rw [HJ.out.1]; omega
          case rel => exact ⟨k + 1, rgA, rcA, sa, sc, rfl, rfl, by omega, by rw [HJ.out.2.1, if_neg (of_decide_eq_false HRL.out.2.2), List.length_append, HTL.out, List.length_singleton, List.replicate_succ', ← HTL.out, HRL.out.2.1]; have h1 := HAP1.out; rw [HRL.out.1, HTL.out.symm] at h1; exact h1⟩
    · have hke : k = an := by omega
      subst hke
      have f1 : decide (k < k) = false := by simp
      rw [List.take_of_length_le (by rw [HA.out.2.2]; exact Nat.le_refl _)] at hrb
      have HR0 := Lib.hid hrb.toRC
      obtain ⟨m, hm⟩ : ∃ m, (uq A).length = m := ⟨_, rfl⟩
      have hm100 : m ≤ 100 := by rw [← hm]; have h1 := uq_len A; rw [HA.out.2.2] at h1; omega
      have HM := Lib.hid hm
      clear hrb hm hgk hkn hi0 hz0 hz1 hz2
      go_wp2_with fail
      go_loopg [8, 9, 10] (V + 1) (fun gk s8 _s9 _s10 wr => ∃ (q : Nat) (tr rs0 : List Int) (la : Option Addr) (lc : Nat) (ra : Option Addr) (rc : Nat), s8 = .int .i64 (q : Int) ∧ gk = V + 1 - q ∧ q ≤ V + 1 ∧ RC W1 bt rb wr tr (List.replicate m (-1) ++ rs0) (-1) la lc ra rc ∧ prop C (V + 1) (uq A) [] = prop C (V + 1 - q) tr rs0 ∧ tr.length ≤ m + q ∧ rs0.length ≤ q)
      case atStart => exact ⟨0, uq A, [], la, lc, ra, rc, rfl, rfl, Nat.zero_le _, by rw [List.append_nil, ← HM.out]; exact HR0.out, rfl, by rw [HM.out]; exact Nat.le_refl _, Nat.le_refl _⟩
      case round =>
        obtain ⟨q, tr, rs0, la, lc, ra, rc, rfl, hgk, hq, hrc, hprop, htl, hrl⟩ := hrel
        obtain ⟨rs, hrs⟩ : ∃ rs, List.replicate m (-1) ++ rs0 = rs := ⟨_, rfl⟩
        rw [hrs] at hrc
        have hrsl : rs.length ≤ m + q := by rw [← hrs, List.length_append, List.length_replicate]; omega
        have HJ := Lib.hid (And.intro hgk (And.intro hrc (And.intro hprop (And.intro htl (And.intro hrl hrs)))))
        obtain ⟨tn, htn⟩ : ∃ n, tr.length = n := ⟨_, rfl⟩
        obtain ⟨rn, hrn⟩ : ∃ n, rs.length = n := ⟨_, rfl⟩
        have q0 := hrc.g.cell HQ.out.1 (by simp)
        have q1 := hrc.g.cell HQ.out.2.1 (by simp)
        have c0 := hrc.c0
        have c1 := hrc.c1
        have c2 := hrc.c2
        rw [htn] at c0
        rw [hrn] at c1
        by_cases hqV : q ≤ V
        · have g1 : decide ((q : Int) ≤ (V : Int)) = true := decide_eq_true (by omega)
          have g1' : decide (q ≤ V) = true := decide_eq_true hqV
          have k1 : IntKind.i64.wrap ((q : Int) + 1) = (q : Int) + 1 := IntWalk.i64_in _ (by omega)
          have hst := step_calls V C ca cc tr rs la lc ra rc (-1) wr (HC.out.1.grown hrc.g) hrc.o0.1 hrc.o1.1 hV (by rw [HC.out.2.1]; omega) HC.out.2.2.1 HC.out.2.2.2 (by omega) (by omega)
          rw [HC.out.2.1, htn, hrn] at hst
          have HST := Lib.hid hst
          clear hst hrc hprop htl hrl hgk hrs htn hrn
          go_wp2_with fail
          refine HST.out.mono ?_
          intro e w6 hR6
          obtain ⟨hg6, tr', rs', kk, more, pa, pc, qa, qc, rfl, hp, hqq, hno, hyes⟩ := step_uni hR6 HJ.out.2.1.o0 HJ.out.2.1.o1 (lies_lt HJ.out.2.1.c0) (lies_lt HJ.out.2.1.r0)
          have H6 := Lib.hid (And.intro hno hyes)
          obtain ⟨W7, hW7⟩ : ∃ z, w6.alloc (.cells #[.slice pa tr'.length pc, .slice qa rs'.length qc, .int .i64 kk] 57) = z := ⟨_, rfl⟩
          obtain ⟨n0, n1, n2, _, hg7⟩ := cell_three_new w6 _ _ _ 57 hW7
          obtain ⟨b9, hb9⟩ : ∃ z, w6.heap.size = z := ⟨_, rfl⟩
          rw [hb9] at n0 n1 n2
          have hrc7 := (HJ.out.2.1.grown hg6).grown hg7
          obtain ⟨Z, hZ⟩ : ∃ z, ((W7.setCell ⟨bt, 0, none⟩ (.slice pa tr'.length pc)).setCell ⟨bt, 1, none⟩ (.slice qa rs'.length qc)).setCell ⟨bt, 2, none⟩ (.int .i64 kk) = z := ⟨_, rfl⟩
          have hrcZ := hrc7.set (hp.grown hg7) (hqq.grown hg7) hZ
          have y0 := hrc7.c0
          have y1 := hrc7.c1
          have y2 := hrc7.c2
          have yf0 := hrc7.fr 0
          have yf1 := hrc7.fr 1
          have yf2 := hrc7.fr 2
          have HRZ := Lib.hid hrcZ
          have z0 := hrcZ.c0
          have z1 := hrcZ.c1
          have z2 := hrcZ.c2
          have r0 := hrcZ.r0
          have r1 := hrcZ.r1
          have r2 := hrcZ.r2
          have rf0 := hrcZ.rf 0
          have rf1 := hrcZ.rf 1
          have rf2 := hrcZ.rf 2
          obtain ⟨tl', htl'⟩ : ∃ n, tr'.length = n := ⟨_, rfl⟩
          obtain ⟨rl', hrl'⟩ : ∃ n, rs'.length = n := ⟨_, rfl⟩
          rw [htl', hrl'] at hW7 hZ ⊢
          rw [htl'] at n0 z0
          rw [hrl'] at n1 z1
          have HLN := Lib.hid (And.intro htl' hrl')
          clear hR6 hp hqq hno hyes hg6 hg7 hrc7 hrcZ q0 q1 c0 c1 c2 htl' hrl'
          cases more
          case false =>
            go_wp2_with fail
            obtain ⟨Y, hY⟩ : ∃ z, ((Z.setCell ⟨rb, 0, none⟩ (.slice pa tl' pc)).setCell ⟨rb, 1, none⟩ (.slice qa rl' qc)).setCell ⟨rb, 2, none⟩ (.int .i64 kk) = z := ⟨_, rfl⟩
            obtain ⟨v0, v1, v2, hgY⟩ := set_three _ _ _ r0 r1 r2 hY
            rw [hY]
            obtain ⟨e1, e2, hpr⟩ := H6.out.1 (by trivial)
            subst e1 e2
            have hpr2 : prop C (V + 1) (uq A) [] = (tr', rs0, kk) := by rw [HJ.out.2.2.1, show V + 1 - q = (V - q) + 1 from by omega]; exact hpr _ _
            refine bodyPost_ret (v := .agg #[.slice pa tl' pc, .slice qa rl' qc, .int .i64 kk]) (res36 _ _ rb _ _ _ rfl v0 v1 v2) rfl ?_
            have hR : runR V C A = rs' := by unfold runR; rw [hpr2, HM.out]; exact HJ.out.2.2.2.2.2
            have hT : runT V C A = tr' := by unfold runT; rw [hpr2]
            have hK : runK V C A = kk := by unfold runK; rw [hpr2]
            rw [← HP.out, hR, hT, hK]
            refine ⟨pa, pc, qa, qc, by rw [HLN.out.1, HLN.out.2], (HRZ.out.o0.off (.inr rfl) hgY).1, (HRZ.out.o1.off (.inr rfl) hgY).1, ?_⟩
            exact World.grownBy.trans HQ.out.2.2 (grown_own HRZ.out.g hgY (fun b e => by cases e; exact HRZ.out.lt.1))
          case true =>
            go_wp2_with fail
            obtain ⟨hkk, x, i, e1, e2, hpr⟩ := H6.out.2 (by trivial)
            subst hkk
            go_roundg (V + 1 - (q + 1))
            case measure => rw [HJ.out.1]; omega
            case rel =>
              refine ⟨q + 1, tr', rs0 ++ [i], pa, pc, qa, qc, rfl, rfl, by omega, ?_, ?_, ?_, ?_⟩
              · rw [← List.append_assoc, HJ.out.2.2.2.2.2, ← e2]; exact HRZ.out
              · rw [HJ.out.2.2.1, show V + 1 - q = (V + 1 - (q + 1)) + 1 from by omega, e1]; exact hpr _ _
              · rw [e1, List.length_append]; have := HJ.out.2.2.2.1; simp; omega
              · rw [List.length_append]; have := HJ.out.2.2.2.2.1; simp; omega
        · have hqe : q = V + 1 := by omega
          have g1 : decide ((q : Int) ≤ (V : Int)) = false := decide_eq_false (by omega)
          have g1' : decide (q ≤ V) = false := decide_eq_false (by omega)
          have r0 := hrc.r0
          have r1 := hrc.r1
          have r2 := hrc.r2
          have rf0 := hrc.rf 0
          have rf1 := hrc.rf 1
          have rf2 := hrc.rf 2
          have HLN := Lib.hid (And.intro htn (And.intro hrn hqe))
          clear hrc hprop htl hrl hgk hrs htn hrn hqe
          go_wp2_with fail
          obtain ⟨Y, hY⟩ : ∃ z, ((wr.setCell ⟨rb, 0, none⟩ (.slice la tn lc)).setCell ⟨rb, 1, none⟩ (.slice ra rn rc)).setCell ⟨rb, 2, none⟩ (.int .i64 (-1)) = z := ⟨_, rfl⟩
          obtain ⟨v0, v1, v2, hgY⟩ := set_three _ _ _ r0 r1 r2 hY
          rw [hY]
          have hpr2 : prop C (V + 1) (uq A) [] = (tr, rs0, -1) := by rw [HJ.out.2.2.1, show V + 1 - q = 0 from by have := HLN.out.2.2; omega]; rfl
          refine bodyPost_ret (v := .agg #[.slice la tn lc, .slice ra rn rc, .int .i64 (-1)]) (res36 _ _ rb _ _ _ rfl v0 v1 v2) rfl ?_
          have hR : runR V C A = rs := by unfold runR; rw [hpr2, HM.out]; exact HJ.out.2.2.2.2.2
          have hT : runT V C A = tr := by unfold runT; rw [hpr2]
          have hK : runK V C A = -1 := by unfold runK; rw [hpr2]
          rw [← HP.out, hR, hT, hK]
          refine ⟨la, lc, ra, rc, by rw [HLN.out.1, HLN.out.2.1], (HJ.out.2.1.o0.off (.inr rfl) hgY).1, (HJ.out.2.1.o1.off (.inr rfl) hgY).1, ?_⟩
          exact World.grownBy.trans HQ.out.2.2 (grown_own HJ.out.2.1.g hgY (fun b e => by cases e; exact HJ.out.2.1.lt.1))
end Go.Proofs.Ythkemajekkilmaa
/- The reference's runs, plainly. -/
namespace Go.Proofs.Ythkemajekkilmaa
open Go.RowKit
theorem run_prop (V : Nat) (C : List (List Int)) {A : List Int} (h : contraP A = false) : (propP V C A).1 = runT V C A ∧ (propP V C A).2.1 = (uq A).length ∧ runR V C A = List.replicate (uq A).length (-1) ++ (propP V C A).2.2.1 ∧ cfP V C A = runK V C A := by
  unfold cfP propP runT runR runK
  rw [h, if_neg (by decide)]
  exact ⟨rfl, rfl, rfl, rfl⟩
theorem run_tr {V : Nat} {C : List (List Int)} (hR : Ran V C) {A : List Int} (h : contraP A = false) : runT V C A = uq A ++ impP V C A := by
  obtain ⟨l, qs, k, e, _⟩ := propP_spec hR h
  rw [← (run_prop V C h).1]
  unfold impP
  rw [e]
  simp
theorem run_lens {V : Nat} {C : List (List Int)} (hR : Ran V C) {A : List Int} (h : contraP A = false) : (runT V C A).length = (uq A).length + (impP V C A).length ∧ (runR V C A).length = (uq A).length + (impP V C A).length := by
  rw [run_tr hR h, (run_prop V C h).2.2.1, List.length_append, List.length_append, List.length_replicate, imp_len hR A]
  exact ⟨rfl, rfl⟩
/-- What stands at a place of the trail. -/
theorem run_at {V : Nat} {C : List (List Int)} (hR : Ran V C) {A : List Int} (h : contraP A = false) {k : Nat} (hk : k < (runT V C A).length) :
    (k < (uq A).length ∧ (runR V C A)[k]? = some (-1) ∧ (runT V C A)[k]? = (uq A)[k]?) ∨
    ((uq A).length ≤ k ∧ ∃ (x : Int) (i : Nat), (runT V C A)[k]? = some x ∧ (runR V C A)[k]? = some (i : Int) ∧ (impP V C A)[k - (uq A).length]? = some x ∧ (propP V C A).2.2.1[k - (uq A).length]? = some (i : Int) ∧ i < C.length) := by
  have hl := (run_lens hR h).1
  rw [run_tr hR h, (run_prop V C h).2.2.1]
  by_cases hm : k < (uq A).length
  · left
    refine ⟨hm, ?_, ?_⟩
    · rw [List.getElem?_append_left (by rw [List.length_replicate]; exact hm), List.getElem?_replicate, if_pos hm]
    · rw [List.getElem?_append_left hm]
  · right
    obtain ⟨x, hx⟩ : ∃ x, (impP V C A)[k - (uq A).length]? = some x := ⟨_, List.getElem?_eq_getElem (by omega)⟩
    obtain ⟨r, hr⟩ : ∃ r, (propP V C A).2.2.1[k - (uq A).length]? = some r := ⟨_, List.getElem?_eq_getElem (by rw [← imp_len hR A]; omega)⟩
    obtain ⟨_, _, _, _, h5⟩ := lev_facts hR (A := A)
    obtain ⟨i, hi, hi2, _⟩ := h5 _ x r hx hr
    subst hi
    refine ⟨by omega, x, i, ?_, ?_, hx, hr, hi2⟩
    · rw [List.getElem?_append_right (by omega)]; exact hx
    · rw [List.getElem?_append_right (by rw [List.length_replicate]; omega), List.length_replicate]; exact hr
theorem decs_len (C : List (List Int)) : ∀ (l : List (Int × Int)) (D : List (Int × List Int)), (decsGo C l D).length = D.length + l.length
  | [], _ => rfl
  | (x, r) :: l, D => by unfold decsGo; rw [decs_len C l, List.length_append, List.length_cons]; simp; omega
theorem decs_take (C : List (List Int)) : ∀ (l : List (Int × Int)) (D : List (Int × List Int)) (k : Nat), k ≤ D.length → (decsGo C l D).take k = D.take k
  | [], _, _, _ => rfl
  | (x, r) :: l, D, k, hk => by
    unfold decsGo
    rw [decs_take C l _ k (by rw [List.length_append]; omega), List.take_append_of_le_length hk]
theorem decs_at (C : List (List Int)) : ∀ (l : List (Int × Int)) (D : List (Int × List Int)) (j : Nat) (x r : Int), l[j]? = some (x, r) → (decsGo C l D)[D.length + j]? = some (x, restOn ((decsGo C l D).take (D.length + j)) x (C.getD r.toNat []))
  | [], _, _, _, _, h => by simp at h
  | (x0, r0) :: l, D, j, x, r, h => by
    unfold decsGo
    match j, h with
    | 0, h =>
      simp at h
      obtain ⟨rfl, rfl⟩ := h
      have h1 := decs_take C l (D ++ [(x0, restOn D x0 (C.getD r0.toNat []))]) (D.length + 1) (by simp)
      have h2 : (decsGo C l (D ++ [(x0, restOn D x0 (C.getD r0.toNat []))]))[D.length]? = (D ++ [(x0, restOn D x0 (C.getD r0.toNat []))])[D.length]? := by
        have h3 := congrArg (fun L : List (Int × List Int) => L[D.length]?) h1
        simp only [List.getElem?_take, Nat.lt_succ_self, if_true] at h3
        exact h3
      rw [Nat.add_zero, h2, decs_take C l _ D.length (by simp), List.take_append_of_le_length (Nat.le_refl _), List.take_length]
      simp
    | j + 1, h =>
      simp at h
      have := decs_at C l (D ++ [(x0, restOn D x0 (C.getD r0.toNat []))]) j x r h
      rw [List.length_append, List.length_singleton, show D.length + 1 + j = D.length + (j + 1) from by omega] at this
      exact this
/-- All that is on the trail, with what it rests on. -/
def depF (V : Nat) (C : List (List Int)) (A : List Int) : List (Int × List Int) := decsGo C (reasP V C A) (decs0 A)
def onP (V : Nat) (C : List (List Int)) (A : List Int) (k : Nat) : List Int := ((depF V C A).getD k (0, [])).2
theorem dep_len {V : Nat} {C : List (List Int)} (hR : Ran V C) {A : List Int} (h : contraP A = false) : (depF V C A).length = (runT V C A).length := by
  unfold depF
  rw [decs_len, (run_lens hR h).1]
  unfold decs0 reasP
  rw [List.length_map, List.length_zip, ← imp_len hR A, Nat.min_self]
theorem on_lo {V : Nat} {C : List (List Int)} {A : List Int} {k : Nat} {x : Int} (hx : (uq A)[k]? = some x) : (depF V C A)[k]? = some (x, [x]) := by
  have hk := (List.getElem?_eq_some_iff.1 hx).1
  have h1 := decs_take C (reasP V C A) (decs0 A) (k + 1) (by unfold decs0; rw [List.length_map]; omega)
  have h3 := congrArg (fun L : List (Int × List Int) => L[k]?) h1
  simp only [List.getElem?_take, Nat.lt_succ_self, if_true] at h3
  unfold depF
  rw [h3]
  unfold decs0
  rw [List.getElem?_map, hx]
  rfl
theorem on_hi {V : Nat} {C : List (List Int)} {A : List Int} {j : Nat} {x : Int} {i : Nat} (hx : (impP V C A)[j]? = some x) (hr : (propP V C A).2.2.1[j]? = some (i : Int)) :
    (depF V C A)[(uq A).length + j]? = some (x, restOn ((depF V C A).take ((uq A).length + j)) x (C.getD i [])) := by
  have h1 : (reasP V C A)[j]? = some (x, (i : Int)) := by unfold reasP; rw [List.getElem?_zip_eq_some]; exact ⟨hx, hr⟩
  have := decs_at C (reasP V C A) (decs0 A) j x (i : Int) h1
  rw [show (decs0 A).length = (uq A).length from by unfold decs0; rw [List.length_map]] at this
  exact this
/-- The keys are the trail. -/
theorem dep_keys {V : Nat} {C : List (List Int)} (hR : Ran V C) {A : List Int} (h : contraP A = false) : (depF V C A).map Prod.fst = runT V C A := by
  refine List.ext_getElem? fun k => ?_
  by_cases hk : k < (runT V C A).length
  · rcases run_at hR h hk with ⟨h1, _, h3⟩ | ⟨h1, x, i, h2, _, h4, h5, _⟩
    · obtain ⟨x, hx⟩ : ∃ x, (uq A)[k]? = some x := ⟨_, List.getElem?_eq_getElem h1⟩
      rw [List.getElem?_map, on_lo hx, h3, hx]; rfl
    · have := on_hi h4 h5
      rw [show (uq A).length + (k - (uq A).length) = k from by omega] at this
      rw [List.getElem?_map, this, h2]; rfl
  · rw [List.getElem?_eq_none (by rw [List.length_map, dep_len hR h]; omega), List.getElem?_eq_none (by omega)]
theorem run_nodup {V : Nat} {C : List (List Int)} (hR : Ran V C) {A : List Int} (h : contraP A = false) : (runT V C A).Nodup := by
  obtain ⟨l, qs, k, e, hs, _⟩ := propP_spec hR h
  rw [run_tr hR h]
  have hl : impP V C A = l := by unfold impP; rw [e]; simp
  rw [hl, List.nodup_append]
  obtain ⟨h1, h2⟩ := steps_new l qs _ hs
  exact ⟨nodup_uq A, h1, fun a ha b hb e => h2 b hb (e ▸ ha)⟩
theorem setAt_none {D : List (Int × List Int)} {k : Int} (h : k ∉ D.map Prod.fst) : setAt D k = [] := by
  unfold setAt
  cases hf : D.reverse.find? (fun p => p.1 == k) with
  | none => rfl
  | some p =>
    have h1 := List.mem_of_find?_eq_some hf
    have h2 := List.find?_some hf
    exact absurd (List.mem_map.2 ⟨p, List.mem_reverse.1 h1, by simpa using h2⟩) h
theorem setAt_some {D : List (Int × List Int)} (hn : (D.map Prod.fst).Nodup) {j : Nat} {p : Int × List Int} (h : D[j]? = some p) : setAt D p.1 = p.2 := by
  unfold setAt
  cases hf : D.reverse.find? (fun q => q.1 == p.1) with
  | none =>
    have := List.find?_eq_none.1 hf p (List.mem_reverse.2 (List.mem_of_getElem? h))
    simp at this
  | some q =>
    have h1 := List.mem_reverse.1 (List.mem_of_find?_eq_some hf)
    have h2 : q.1 = p.1 := by simpa using List.find?_some hf
    obtain ⟨i, hi⟩ := List.mem_iff_getElem?.1 h1
    have e1 : (D.map Prod.fst)[i]? = some p.1 := by rw [List.getElem?_map, hi, ← h2]; rfl
    have e2 : (D.map Prod.fst)[j]? = some p.1 := by rw [List.getElem?_map, h]; rfl
    have hil := (List.getElem?_eq_some_iff.1 e1).1
    have := (List.getElem?_inj hil hn).1 (e1.trans e2.symm)
    subst this
    rw [hi] at h
    injection h with h
    rw [h]
theorem take_nodup {l : List Int} (h : l.Nodup) (k : Nat) : (l.take k).Nodup := h.sublist (List.take_sublist k l)
/-- Where the reference looks, and what it finds. -/
theorem on_found {V : Nat} {C : List (List Int)} (hR : Ran V C) {A : List Int} (h : contraP A = false) {k j : Nat} {y : Int} (hk : k ≤ (runT V C A).length) (hf : fnd ((runT V C A).take k) y = (j : Int)) : j < k ∧ setAt ((depF V C A).take k) y = onP V C A j := by
  unfold fnd at hf
  cases hx : ((runT V C A).take k).findIdx? (fun z => z == y) with
  | none => rw [hx] at hf; simp only at hf; omega
  | some i =>
    rw [hx] at hf
    simp only at hf
    obtain rfl : i = j := by omega
    obtain ⟨hi, hy, _⟩ := List.findIdx?_eq_some_iff_getElem.1 hx
    have hik : i < k := by rw [List.length_take] at hi; omega
    have hkeys : ((depF V C A).take k).map Prod.fst = (runT V C A).take k := by rw [List.map_take, dep_keys hR h]
    obtain ⟨p, hp⟩ : ∃ p, (depF V C A)[i]? = some p := ⟨_, List.getElem?_eq_getElem (by rw [dep_len hR h]; omega)⟩
    have hp2 : ((depF V C A).take k)[i]? = some p := by rw [List.getElem?_take, if_pos hik, hp]
    have hpy : p.1 = y := by
      have h1 : ((runT V C A).take k)[i]? = some p.1 := by rw [← hkeys, List.getElem?_map, hp2]; rfl
      rw [List.getElem?_eq_getElem hi] at h1
      injection h1 with h1
      rw [← h1]; simpa using hy
    refine ⟨hik, ?_⟩
    rw [← hpy, setAt_some (by rw [hkeys]; exact take_nodup (run_nodup hR h) k) hp2]
    unfold onP
    rw [List.getD_eq_getElem?_getD, hp]
    rfl
theorem on_missing {V : Nat} {C : List (List Int)} (hR : Ran V C) {A : List Int} (h : contraP A = false) {k : Nat} {y : Int} (hf : fnd ((runT V C A).take k) y < 0) : setAt ((depF V C A).take k) y = [] := by
  refine setAt_none ?_
  rw [List.map_take, dep_keys hR h]
  intro hm
  unfold fnd at hf
  cases hx : ((runT V C A).take k).findIdx? (fun z => z == y) with
  | none =>
    have := (List.findIdx?_eq_none_iff.1 hx) y hm
    simp at this
  | some i => rw [hx] at hf; simp at hf; omega
theorem on_sub {V : Nat} {C : List (List Int)} (hR : Ran V C) {A : List Int} (h : contraP A = false) : ∀ (k : Nat) (p : Int × List Int), (depF V C A)[k]? = some p → ∀ z ∈ p.2, z ∈ A := by
  intro k
  induction k using Nat.strongRecOn with
  | ind k ih =>
    intro p hp z hz
    have hk : k < (runT V C A).length := by rw [← dep_len hR h]; exact (List.getElem?_eq_some_iff.1 hp).1
    rcases run_at hR h hk with ⟨h1, _, _⟩ | ⟨h1, x, i, _, _, h4, h5, _⟩
    · obtain ⟨x, hx⟩ : ∃ x, (uq A)[k]? = some x := ⟨_, List.getElem?_eq_getElem h1⟩
      rw [on_lo hx] at hp
      injection hp with hp
      subst hp
      rw [List.mem_singleton.1 hz]
      exact (mem_uq A x).1 (List.mem_of_getElem? hx)
    · have h6 := on_hi h4 h5
      rw [show (uq A).length + (k - (uq A).length) = k from by omega, hp] at h6
      injection h6 with h6
      rw [h6] at hz
      obtain ⟨y, _, _, hy⟩ := (mem_restOn z).1 hz
      unfold setAt at hy
      split at hy
      · rename_i q hq
        have h7 := List.mem_reverse.1 (List.mem_of_find?_eq_some hq)
        obtain ⟨j, hj⟩ := List.mem_iff_getElem?.1 h7
        rw [List.getElem?_take] at hj
        split at hj
        · rename_i hlt
          exact ih j hlt q hj z hy
        · cases hj
      · cases hy
theorem on_nodup {V : Nat} {C : List (List Int)} (hR : Ran V C) {A : List Int} (h : contraP A = false) (k : Nat) (hk : k < (runT V C A).length) : (onP V C A k).Nodup := by
  unfold onP
  rw [List.getD_eq_getElem?_getD]
  rcases run_at hR h hk with ⟨h1, _, _⟩ | ⟨h1, x, i, _, _, h4, h5, _⟩
  · obtain ⟨x, hx⟩ : ∃ x, (uq A)[k]? = some x := ⟨_, List.getElem?_eq_getElem h1⟩
    rw [on_lo hx]
    simp
  · have h6 := on_hi h4 h5
    rw [show (uq A).length + (k - (uq A).length) = k from by omega] at h6
    rw [h6]
    exact nodup_uq _
theorem on_len {V : Nat} {C : List (List Int)} (hR : Ran V C) {A : List Int} (h : contraP A = false) (k : Nat) : (onP V C A k).length ≤ A.length := by
  by_cases hk : k < (runT V C A).length
  · refine nodup_len (on_nodup hR h k hk) fun z hz => ?_
    unfold onP at hz
    obtain ⟨p, hp⟩ : ∃ p, (depF V C A)[k]? = some p := ⟨_, List.getElem?_eq_getElem (by rw [dep_len hR h]; exact hk)⟩
    rw [List.getD_eq_getElem?_getD, hp] at hz
    exact on_sub hR h k p hp z hz
  · unfold onP
    rw [List.getD_eq_getElem?_getD, List.getElem?_eq_none (by rw [dep_len hR h]; omega)]
    exact Nat.zero_le _
theorem levs_at (C : List (List Int)) : ∀ (l : List (Int × Int)) (D : List (Int × List Int)) (j : Nat), j < l.length → (levsGo C l D)[j]? = some ((((decsGo C l D).getD (D.length + j) (0, [])).2.length : Int))
  | [], _, _, h => by simp at h
  | (x, r) :: l, D, j, h => by
    match j, h with
    | 0, _ =>
      have := decs_at C ((x, r) :: l) D 0 x r rfl
      rw [Nat.add_zero] at this ⊢
      rw [List.getD_eq_getElem?_getD, this, decs_take C _ D D.length (Nat.le_refl _), List.take_length]
      unfold levsGo
      rfl
    | j + 1, h =>
      have := levs_at C l (D ++ [(x, restOn D x (C.getD r.toNat []))]) j (by simpa using h)
      rw [List.length_append, List.length_singleton, show D.length + 1 + j = D.length + (j + 1) from by omega] at this
      unfold levsGo decsGo
      rw [List.getElem?_cons_succ]
      exact this
theorem lev_at {V : Nat} {C : List (List Int)} (hR : Ran V C) (A : List Int) {j : Nat} (h : j < (impP V C A).length) : (levP V C A)[j]? = some ((onP V C A ((uq A).length + j)).length : Int) := by
  have := levs_at C (reasP V C A) (decs0 A) j (by unfold reasP; rw [List.length_zip, ← imp_len hR A, Nat.min_self]; exact h)
  rw [show (decs0 A).length = (uq A).length from by unfold decs0; rw [List.length_map]] at this
  exact this
theorem lev_len {V : Nat} {C : List (List Int)} (hR : Ran V C) (A : List Int) : (levP V C A).length = (impP V C A).length := by
  unfold levP
  rw [levs_len]
  unfold reasP
  rw [List.length_zip, ← imp_len hR A, Nat.min_self]
end Go.Proofs.Ythkemajekkilmaa
/- The reference's On. -/
namespace Go.Proofs.Ythkemajekkilmaa
open Go.RowKit
theorem ints_take {w : World} {a : Option Addr} {c : Nat} {l : List Int} (h : IntsW w a c l) (k : Nat) : IntsW w a c (l.take k) := by
  obtain ⟨h1, h2⟩ := h
  refine ⟨by rw [List.length_take]; omega, ?_⟩
  rcases h2 with h2 | ⟨b, o, h3, h4⟩
  · left; rw [h2]; simp
  · refine .inr ⟨b, o, h3, fun j z hj => h4 j z ?_⟩
    rw [List.getElem?_take] at hj
    split at hj
    · exact hj
    · cases hj
theorem flat_sub {V : Nat} {C : List (List Int)} (hR : Ran V C) {A : List Int} (h : contraP A = false) (k : Nat) (x : Int) (l : List Int) : ∀ y ∈ ((l.filter (fun z => z != x)).flatMap fun z => setAt ((depF V C A).take k) (-z)), y ∈ A := by
  intro y hy
  obtain ⟨u, _, hu⟩ := List.mem_flatMap.1 hy
  refine setAt_sub (D := (depF V C A).take k) (fun p hp => ?_) (-u) y hu
  obtain ⟨j, hj⟩ := List.mem_iff_getElem?.1 hp
  rw [List.getElem?_take] at hj
  split at hj
  · exact on_sub hR h j p hj
  · cases hj
theorem uq_app {l : List Int} {x : Int} : uq (l ++ [x]) = if x ∈ uq l then uq l else uq l ++ [x] := uq_snoc l x
theorem flat_step (D : List (Int × List Int)) {x y : Int} {l : List Int} : (((l ++ [y]).filter (fun z => z != x)).flatMap fun z => setAt D (-z)) = ((l.filter (fun z => z != x)).flatMap fun z => setAt D (-z)) ++ (if y = x then [] else setAt D (-y)) := by
  rw [List.filter_append, List.flatMap_append]
  by_cases h : y = x
  · simp [h]
  · simp [h]
set_option maxHeartbeats 16000000 in
set_option maxRecDepth 100000 in
theorem on_calls (V : Nat) (C : List (List Int)) (ca : Option Addr) (cc : Nat) (A : List Int) (hV : V ≤ 8) (hL : ∀ c ∈ C, c.length ≤ 100) (hR : Ran V C) (hc : contraP A = false) (hAl : A.length ≤ 12) (hAr : ∀ x ∈ A, InR V x) (la : Option Addr) (lc : Nat) (ra : Option Addr) (rc : Nat) (kf : Int) :
    ∀ (at' : Nat), at' < (runT V C A).length → ∀ (w : World), ClsW w ca cc C → IntsW w la lc (runT V C A) → IntsW w ra rc (runR V C A) →
    Calls Try.prog 38 #[.agg #[.int .i64 (V : Int), .slice ca C.length cc], .agg #[.slice la (runT V C A).length lc, .slice ra (runR V C A).length rc, .int .i64 kf], .int .i64 (at' : Int)] w fun e w' => ∃ a c, e = .returned (.slice a (onP V C A at').length c) ∧ w'.ownsRow w.heap.size 3 1 (.slice a (onP V C A at').length c) (onP V C A at').length (intCells (onP V C A at')) ∧ w.grownBy w' none := by
  intro at'
  induction at' using Nat.strongRecOn with
  | ind at' ih =>
  intro hat w h hT hRR
  have IH := Lib.hid ih
  clear ih
  obtain ⟨n, hn⟩ : ∃ n, C.length = n := ⟨_, rfl⟩
  obtain ⟨tn, htn⟩ : ∃ n, (runT V C A).length = n := ⟨_, rfl⟩
  have hrn : (runR V C A).length = tn := by rw [← htn, (run_lens hR hc).1, (run_lens hR hc).2]
  have htn20 : tn ≤ 20 := by rw [← htn, (run_lens hR hc).1]; have h1 := uq_len A; have h2 := imp_le hR A; omega
  obtain ⟨P, hP⟩ : ∃ P : Ending → World → Prop, (fun e w' => ∃ a c, e = .returned (.slice a (onP V C A at').length c) ∧ w'.ownsRow w.heap.size 3 1 (.slice a (onP V C A at').length c) (onP V C A at').length (intCells (onP V C A at')) ∧ w.grownBy w' none) = P := ⟨_, rfl⟩
  have HP := Lib.hid hP
  rw [hP]
  obtain ⟨W1, hW1⟩ : ∃ z, w.alloc (.cells #[.int .i64 (V : Int), .slice ca n cc] 24) = z := ⟨_, rfl⟩
  obtain ⟨W2, hW2⟩ : ∃ z, W1.alloc (.cells #[.slice la tn lc, .slice ra tn rc, .int .i64 kf] 57) = z := ⟨_, rfl⟩
  obtain ⟨q0, q1, hg1⟩ := box_at w _ _ hW1
  obtain ⟨t0, t1, t2, _, hg2⟩ := cell_three_new W1 _ _ _ 57 hW2
  obtain ⟨bf, hbf⟩ : ∃ z, w.heap.size = z := ⟨_, rfl⟩
  obtain ⟨bt, hbt⟩ : ∃ z, W1.heap.size = z := ⟨_, rfl⟩
  rw [hbf] at q0 q1
  rw [hbt] at t0 t1 t2
  replace q0 := hg2.cell q0 (by simp)
  replace q1 := hg2.cell q1 (by simp)
  have HG := Lib.hid (World.grownBy.trans hg1 hg2)
  have HC := Lib.hid (And.intro (h.grown HG.out) (And.intro hn hL))
  have HT := Lib.hid (And.intro (hT.grown HG.out) (And.intro htn (And.intro (hRR.grown HG.out) hrn)))
  have HQ := Lib.hid (And.intro q0 (And.intro q1 (And.intro t0 (And.intro t1 t2))))
  have HX := Lib.hid (And.intro hR (And.intro hc (And.intro hAl hAr)))
  have hate := hat
  rw [htn] at hat
  rw [hn, htn, hrn]
  rw [hn, htn, hrn] at IH
  have i0 : (0 : Int) ≤ (at' : Int) := by omega
  have i1 : (at' : Int) < (tn : Int) := by omega
  have hlc : tn ≤ lc := by rw [← htn]; exact hT.1
  have i2 : (at' : Int) ≤ (tn : Int) := by omega
  have i3 : (tn : Int) ≤ (lc : Int) := by omega
  have i4 : (at' : Int) ≤ (lc : Int) := by omega
  have hcase := run_at hR hc hate
  have HON := Lib.hid (on_len hR hc at')
  clear h hT hRR hL hR hc hAl hAr hn htn hrn hP q0 t2 hg1 hg2
  rcases hcase with ⟨h1, h2, h3⟩ | ⟨h1, x, i, h2, h3, h4, h5, hic⟩
  · obtain ⟨x, hx⟩ : ∃ x, (uq A)[at']? = some x := ⟨_, List.getElem?_eq_getElem h1⟩
    have hon : onP V C A at' = [x] := by unfold onP; rw [List.getD_eq_getElem?_getD, on_lo hx]; rfl
    rw [hx] at h3
    obtain ⟨b1, o1, e1, c1⟩ := HT.out.1.at h3
    obtain ⟨b2, o2, e2, c2⟩ := HT.out.2.2.1.at h2
    subst e1 e2
    obtain ⟨W3, hW3⟩ : ∃ z, W2.alloc (.cells #[.int .i64 x] 3) = z := ⟨_, rfl⟩
    obtain ⟨b3, hb3⟩ : ∃ z, W2.heap.size = z := ⟨_, rfl⟩
    have hi3 : W3.ownsRow W2.heap.size 3 1 (.slice (some ⟨b3, 0, none⟩) 1 1) 1 (intCells [x]) := by rw [← hW3, ← hb3]; exact World.ownsRow_lit W2 #[.int .i64 x] 1 (Nat.le_refl _) (by unfold maxLen; omega) rfl
    have hg3 : W2.grownBy W3 none := by rw [← hW3]; exact World.grownBy_alloc W2 _ none
    have HR3 := Lib.hid (And.intro hi3 (And.intro hg3 hon))
    clear hi3 hg3 hon hx h1 h2 h3
    go_enter Try.func38, Try.ntmps38
    go_wp2_with fail
    rw [← HP.out]
    exact ⟨some ⟨b3, 0, none⟩, 1, by rw [HR3.out.2.2]; rfl, by rw [HR3.out.2.2]; exact own_lower HR3.out.1 HG.out.size, World.grownBy.trans HG.out HR3.out.2.1⟩
  · have hon : onP V C A at' = restOn ((depF V C A).take at') x (C.getD i []) := by
      have := on_hi h4 h5
      rw [show (uq A).length + (at' - (uq A).length) = at' from by omega] at this
      unfold onP
      rw [List.getD_eq_getElem?_getD, this]
      rfl
    obtain ⟨z, hz⟩ : ∃ z, C[i]? = some z := ⟨_, List.getElem?_eq_getElem hic⟩
    rw [getD_of hz] at hon
    obtain ⟨b1, o1, e1, c1⟩ := HT.out.1.at h2
    obtain ⟨b2, o2, e2, c2⟩ := HT.out.2.2.1.at h3
    obtain ⟨bz, oz, az, cz, e3, c3, hzi⟩ := HC.out.1.at hz
    subst e1 e2 e3
    obtain ⟨zl, hzl⟩ : ∃ l, z.length = l := ⟨_, rfl⟩
    rw [hzl] at c3
    have hzl100 : zl ≤ 100 := by rw [← hzl]; exact HC.out.2.2 z (List.mem_of_getElem? hz)
    have n0 : (0 : Int) ≤ (i : Int) := by omega
    have n1 : (i : Int) < (n : Int) := by have := HC.out.2.1; omega
    have nn : ((i : Int) < 0) = False := by simp
    have HZ := Lib.hid (And.intro hzi (And.intro hzl (And.intro hon (And.intro h2 hz))))
    clear hzi hzl hon hz h1 h2 h3 h4 h5 hic
    go_enter Try.func38, Try.ntmps38
    go_wp2_with fail
    go_quiet (fail)
    go_wp2_with fail
    clear c1 c2 c3 q1 t0 t1 hW1 hW2 hbf hbt
    obtain ⟨D, hD⟩ : ∃ D, (depF V C A).take at' = D := ⟨_, rfl⟩
    have HD := Lib.hid hD
    clear hD
    obtain ⟨i0', hi0, hz0, hz1, hz2⟩ := info_parts info3
    go_loopg [7, 9, 10, 11, 12, 13] zl (fun gk s7 s9 _s10 _s11 _s12 _s13 wr => ∃ (k : Nat) (oa : Option Addr) (oc ol : Nat) (F : List Int), s7 = .slice oa ol oc ∧ s9 = .int .i64 (k : Int) ∧ gk = zl - k ∧ k ≤ zl ∧ W2.grownBy wr none ∧ F = (((z.take k).filter (fun u => u != x)).flatMap fun u => setAt D (-u)) ∧ (uq F).length = ol ∧ wr.ownsRow W2.heap.size 3 1 (.slice oa ol oc) ol (intCells (uq F)))
    case atStart => exact ⟨0, none, 0, 0, [], rfl, rfl, rfl, by omega, grown_drewN _ _ _, by simp, rfl, ⟨rfl, .inl ⟨rfl, rfl⟩⟩⟩
    case round =>
      obtain ⟨k, oa, oc, ol, F, rfl, rfl, hgk, hk, hg, hF, hol, hown⟩ := hrel
      have hol12 : ol ≤ 12 := by
        rw [← hol]
        refine Nat.le_trans (uq_len_sub (A := A) fun y hy => ?_) HX.out.2.2.1
        rw [hF, ← HD.out] at hy
        exact flat_sub HX.out.1 HX.out.2.1 at' x _ y hy
      have HI := Lib.hid (And.intro hgk (And.intro hg (And.intro hF (And.intro hol hown))))
      have q0 := hg.cell HQ.out.1 (by simp)
      have q1 := hg.cell HQ.out.2.1 (by simp)
      have t0 := hg.cell HQ.out.2.2.1 (by simp)
      have t1 := hg.cell HQ.out.2.2.2.1 (by simp)
      have t2 := hg.cell HQ.out.2.2.2.2 (by simp)
      clear hgk hg hF hol hown
      by_cases hkz : k < zl
      · have f1 : decide ((k : Int) < (zl : Int)) = true := decide_eq_true (by omega)
        have f1' : decide (k < zl) = true := decide_eq_true hkz
        have j0 : (0 : Int) ≤ (k : Int) := by omega
        have j1 : (k : Int) < (zl : Int) := by omega
        have k1 : IntKind.i64.wrap ((k : Int) + 1) = (k : Int) + 1 := IntWalk.i64_in _ (by omega)
        obtain ⟨y, hy⟩ : ∃ y, z[k]? = some y := ⟨_, List.getElem?_eq_getElem (by rw [HZ.out.2.1]; exact hkz)⟩
        obtain ⟨by_, oy, e4, c4⟩ := (HZ.out.1.grown HI.out.2.1).at hy
        subst e4
        obtain ⟨b1', o1', e5, c1⟩ := (HT.out.1.grown HI.out.2.1).at HZ.out.2.2.2.1
        cases e5
        obtain ⟨_, ya, yb⟩ := HX.out.1 z (List.mem_of_getElem? HZ.out.2.2.2.2) y (List.mem_of_getElem? hy)
        have kx : IntKind.i64.wrap (-y) = -y := IntWalk.i64_in _ (by omega)
        have kx0 : IntKind.i64.wrap (0 - y) = -y := by rw [show (0 : Int) - y = -y from by omega]; exact kx
        have hfc := fun m => find_calls ((runT V C A).take at') (some ⟨b1, o1, none⟩) lc (-y) (wr.drewN m) ((ints_take (HT.out.1.grown HI.out.2.1) at').grown (grown_drewN _ _ none)) (by rw [List.length_take]; omega)
        rw [List.length_take, HT.out.2.1, Nat.min_eq_left (by omega)] at hfc
        obtain ⟨f, hf⟩ : ∃ f, fnd ((runT V C A).take at') (-y) = f := ⟨_, rfl⟩
        rw [hf] at hfc
        have HFC := Lib.hid hfc
        have HY := Lib.hid (And.intro hy hf)
        clear hy hf hfc ya yb
        go_wp2_with fail
        go_quiet ((go_at_call 51; exact (HFC.out _).mono fun _ _ h => ⟨h.1, _, h.2⟩))
        obtain ⟨ws, hws⟩ : ∃ z, wr.drewN nq = z := ⟨_, rfl⟩
        have hgs : wr.grownBy ws none := by rw [← hws]; exact grown_drewN _ _ _
        rw [hws]
        replace q0 := hgs.cell q0 (by simp)
        replace q1 := hgs.cell q1 (by simp)
        replace t0 := hgs.cell t0 (by simp)
        replace t1 := hgs.cell t1 (by simp)
        replace t2 := hgs.cell t2 (by simp)
        replace c4 := hgs.cell c4 (by simp)
        replace c1 := hgs.cell c1 (by simp)
        have HGS := Lib.hid hgs
        clear hgs hws HFC kx kx0
        have HN : ∀ (X : List Int), (if y = x then [] else setAt D (-y)) = X → (((z.take (k + 1)).filter (fun u => u != x)).flatMap fun u => setAt D (-u)) = F ++ X := fun X hX => by
          rw [take_snoc HY.out.1, flat_step, ← HI.out.2.2.1, hX]
        have HNX := Lib.hid HN
        clear HN
        by_cases hyx : y = x
        · have e1 : decide (y = x) = true := decide_eq_true hyx
          have e2 : (y == x) = true := by simp [hyx]
          have HN := Lib.hid (HNX.out [] (by rw [if_pos hyx]))
          clear hyx
          go_wp2_with fail
          go_quiet (fail)
          go_wp2_with fail
          go_roundg (zl - (k + 1))
          case measure => rw [HI.out.1]; omega
          case rel => exact ⟨k + 1, oa, oc, ol, F, rfl, rfl, rfl, by omega, World.grownBy.trans HI.out.2.1 (World.grownBy.trans HGS.out (grown_drewN _ _ _)), by rw [HN.out, List.append_nil], HI.out.2.2.2.1, own_grown HI.out.2.2.2.2 (World.grownBy.trans HGS.out (grown_drewN _ _ _))⟩
        · have e1 : decide (y = x) = false := decide_eq_false hyx
          have e2 : (y == x) = false := by simpa using hyx
          by_cases hf0 : f < 0
          · have e3 : decide (f < 0) = true := decide_eq_true hf0
            have HN := Lib.hid (HNX.out [] (by rw [if_neg hyx, ← HD.out]; exact on_missing HX.out.1 HX.out.2.1 (by rw [HY.out.2]; exact hf0)))
            clear hyx hf0
            go_wp2_with fail
            go_quiet (fail)
            go_wp2_with fail
            go_roundg (zl - (k + 1))
            case measure => rw [HI.out.1]; omega
            case rel => exact ⟨k + 1, oa, oc, ol, F, rfl, rfl, rfl, by omega, World.grownBy.trans HI.out.2.1 (World.grownBy.trans HGS.out (grown_drewN _ _ _)), by rw [HN.out, List.append_nil], HI.out.2.2.2.1, own_grown HI.out.2.2.2.2 (World.grownBy.trans HGS.out (grown_drewN _ _ _))⟩
          · have e3 : decide (f < 0) = false := decide_eq_false hf0
            obtain ⟨j, hj⟩ : ∃ j : Nat, f = (j : Int) := ⟨f.toNat, by omega⟩
            obtain ⟨hjk, hset⟩ := on_found HX.out.1 HX.out.2.1 (Nat.le_of_lt hate) (j := j) (by rw [HY.out.2, hj])
            obtain ⟨l, hl⟩ : ∃ l, onP V C A j = l := ⟨_, rfl⟩
            have hl12 : l.length ≤ 12 := by rw [← hl]; exact Nat.le_trans (on_len HX.out.1 HX.out.2.1 j) HX.out.2.2.1
            have HN := Lib.hid (HNX.out l (by rw [if_neg hyx, ← HD.out, hset, hl]))
            have hlA : ∀ u ∈ l, u ∈ A := fun u hu => by
              obtain ⟨p, hp⟩ : ∃ p, (depF V C A)[j]? = some p := ⟨_, List.getElem?_eq_getElem (by rw [dep_len HX.out.1 HX.out.2.1]; omega)⟩
              rw [← hl] at hu
              unfold onP at hu
              rw [List.getD_eq_getElem?_getD, hp] at hu
              exact on_sub HX.out.1 HX.out.2.1 j p hp u hu
            have HLA := Lib.hid hlA
            subst hj
            clear hyx hf0 hset hlA
            go_wp2_with fail
            go_quiet (fail)
            obtain ⟨wt, hwt⟩ : ∃ z, ws.drewN nq = z := ⟨_, rfl⟩
            have hgt : ws.grownBy wt none := by rw [← hwt]; exact grown_drewN _ _ _
            rw [hwt]
            replace q0 := hgt.cell q0 (by simp)
            replace q1 := hgt.cell q1 (by simp)
            replace t0 := hgt.cell t0 (by simp)
            replace t1 := hgt.cell t1 (by simp)
            replace t2 := hgt.cell t2 (by simp)
            have hgw := World.grownBy.trans HI.out.2.1 (World.grownBy.trans HGS.out hgt)
            have hcall := IH.out j hjk (by omega) wt (HC.out.1.grown hgw) (HT.out.1.grown hgw) (HT.out.2.2.1.grown hgw)
            rw [hl] at hcall
            obtain ⟨ln, hln⟩ : ∃ n, l.length = n := ⟨_, rfl⟩
            rw [hln] at hcall hl12
            have HCALL := Lib.hid hcall
            have HGW := Lib.hid (And.intro hgw (own_grown HI.out.2.2.2.2 (World.grownBy.trans HGS.out hgt)))
            have HLN := Lib.hid hln
            clear hcall hwt hgt hgw hl hln hjk c4 c1
            go_wp2_with fail
            refine HCALL.out.mono ?_
            rintro e wo ⟨pa, pc, rfl, hpi, hgo⟩

            have hown3 := HGW.out.2
            have HPI := Lib.hid (And.intro hpi (show ∀ b, (Value.slice oa ol oc).ownBlock = some b → (Value.slice pa ln pc).ownBlock ≠ some b from fun b hb1 hb2 => by
              have h2 := own_low hpi b hb2
              have h3 : b < wt.heap.size := by
                rcases hown3.2 with ⟨e, _⟩ | ⟨g, cap, cur, e, _, hc, _⟩
                · rw [e] at hb1; cases hb1
                · rw [e] at hb1; cases hb1; exact (Array.getElem?_eq_some_iff.1 hc).1
              omega))
            clear hown3
            have HGO := Lib.hid (And.intro (World.grownBy.trans HGW.out.1 hgo) (own_grown HGW.out.2 hgo))
            clear hpi hgo HCALL q0 q1 t0 t1 t2
            go_wp2_with fail
            go_loopg [7, 12, 13] ln (fun gk s7 s12 _s13 wr => ∃ (q : Nat) (oa : Option Addr) (oc ol : Nat), s7 = .slice oa ol oc ∧ s12 = .int .i64 (q : Int) ∧ gk = ln - q ∧ q ≤ ln ∧ (wr.ownsRow wt.heap.size 3 1 (.slice pa ln pc) ln (intCells l) ∧ ∀ b, (Value.slice oa ol oc).ownBlock = some b → (Value.slice pa ln pc).ownBlock ≠ some b) ∧ W2.grownBy wr none ∧ (uq (F ++ l.take q)).length = ol ∧ wr.ownsRow W2.heap.size 3 1 (.slice oa ol oc) ol (intCells (uq (F ++ l.take q))))
            case atStart => exact ⟨0, oa, oc, ol, rfl, rfl, rfl, Nat.zero_le _, HPI.out, HGO.out.1, by rw [List.take_zero, List.append_nil]; exact HI.out.2.2.2.1, by rw [List.take_zero, List.append_nil]; exact HGO.out.2⟩
            case round =>
              obtain ⟨q, oa, oc, ol, rfl, rfl, hgk, hq, hgo, hgw, hol, hown⟩ := hrel
              have hol12 : ol ≤ 12 := by
                rw [← hol]
                refine Nat.le_trans (uq_len_sub (A := A) fun y hy => ?_) HX.out.2.2.1
                rcases List.mem_append.1 hy with hy | hy
                · rw [HI.out.2.2.1, ← HD.out] at hy
                  exact flat_sub HX.out.1 HX.out.2.1 at' x _ y hy
                · exact HLA.out y (List.mem_of_mem_take hy)
              have HK := Lib.hid (And.intro hgk (And.intro hgo (And.intro hgw (And.intro hol hown))))
              clear hgk hgo hgw hol hown
              by_cases hql : q < ln
              · have g1 : decide ((q : Int) < (ln : Int)) = true := decide_eq_true (by omega)
                have g1' : decide (q < ln) = true := decide_eq_true hql
                have l0 : (0 : Int) ≤ (q : Int) := by omega
                have l1 : (q : Int) < (ln : Int) := by omega
                have l2 : IntKind.i64.wrap ((q : Int) + 1) = (q : Int) + 1 := IntWalk.i64_in _ (by omega)
                obtain ⟨u, hu⟩ : ∃ u, l[q]? = some u := ⟨_, List.getElem?_eq_getElem (by rw [HLN.out]; exact hql)⟩
                obtain ⟨bu, ou, e6, cu⟩ := (own_ints HK.out.2.1.1).2.at hu
                subst e6
                obtain ⟨G, hG⟩ : ∃ G, uq (F ++ l.take q) = G := ⟨_, rfl⟩
                have hG2 : uq (F ++ l.take (q + 1)) = if u ∈ G then G else G ++ [u] := by rw [take_snoc hu, ← List.append_assoc, uq_snoc, hG]
                rw [hG] at HK
                have hcall := has_calls G oa oc u wr (own_ints HK.out.2.2.2.2).2 (by rw [HK.out.2.2.2.1]; omega)
                rw [HK.out.2.2.2.1] at hcall
                obtain ⟨d, hd⟩ : ∃ d, decide (u ∈ G) = d := ⟨_, rfl⟩
                rw [hd] at hcall
                have HCALL := Lib.hid hcall
                have HU := Lib.hid (And.intro hd hG2)
                have hsz : W2.heap.size ≤ wr.heap.size := HK.out.2.2.1.size
                clear hu hG hG2 hcall hd
                go_wp2_with fail
                refine HCALL.out.mono ?_
                rintro e wz ⟨rfl, hwz⟩
                rw [hwz]
                clear hwz wz HCALL
                cases d
                case true =>
                  go_wp2_with fail
                  go_roundg (ln - (q + 1))
                  case measure => rw [HK.out.1]; omega
                  case rel => exact ⟨q + 1, oa, oc, ol, rfl, rfl, rfl, by omega, HK.out.2.1, HK.out.2.2.1, by rw [HU.out.2, if_pos (of_decide_eq_true HU.out.1)]; exact HK.out.2.2.2.1, by rw [HU.out.2, if_pos (of_decide_eq_true HU.out.1)]; exact HK.out.2.2.2.2⟩
                case false =>
                  go_wp2_with (at_builtin; refine wpList_append_own_at _ rfl _ _ 25 rfl W2.heap.size 3 i0' (.int .i64 0) 1 8 Try.underlying25 hi0 hz0 hz1 hz2 rfl (by decide) _ ol (intCells G) rfl (HK.out.2.2.2.2.alloc _) ⟨wr.heap.size, 0, none⟩ 1 1 [.int .i64 u] rfl rfl (cell_one_new _ _ _) (fun u hu => by simp at hu; subst hu; rfl) (by unfold maxLen; omega) (by omega) (by simp; omega) ?_)
                  intro v9 w9 hown9 hgrow9 _ hat9
                  obtain ⟨sa, sc, rfl⟩ := own_shape hown9
                  have hg9 : wr.grownBy w9 (Value.slice oa ol oc).ownBlock := (World.grownBy_alloc wr _ _).trans hgrow9
                  have hl9 : w9.ownsRow wt.heap.size 3 1 (.slice (some ⟨bu, ou, none⟩) ln pc) ln (intCells l) := HK.out.2.1.1.kept hg9 (by
                    cases hv : (Value.slice oa ol oc).ownBlock with
                    | none => exact .inr (by intro e; cases e)
                    | some b => exact .inr (HK.out.2.1.2 b hv))
                  have hne9 : ∀ b, (Value.slice sa (ol + 1) sc).ownBlock = some b → (Value.slice (some ⟨bu, ou, none⟩) ln pc).ownBlock ≠ some b := fun b hb1 hb2 => by
                    rcases hat9 with h1 | h1
                    · rw [h1] at hb1; exact HK.out.2.1.2 b hb1 hb2
                    · rw [h1] at hb1
                      have h3 : b < wr.heap.size := by
                        rcases HK.out.2.1.1.2 with ⟨e, _⟩ | ⟨g, cap, cur, e, _, hc, _⟩
                        · rw [e] at hb2; cases hb2
                        · rw [e] at hb2; cases hb2; exact (Array.getElem?_eq_some_iff.1 hc).1
                      injection hb1 with hb1
                      omega
                  have HK9 := Lib.hid (And.intro (And.intro hl9 hne9) (And.intro (grown_own HK.out.2.2.1 hg9 (own_low HK.out.2.2.2.2)) hown9))
                  clear hown9 hgrow9 hat9 hg9 hl9 hne9 cu
                  go_wp2_with fail
                  go_roundg (ln - (q + 1))
                  case measure => rw [HK.out.1]; omega
                  case rel =>
                    refine ⟨q + 1, sa, sc, ol + 1, rfl, rfl, rfl, by omega, HK9.out.1, HK9.out.2.1, ?_, ?_⟩
                    · rw [HU.out.2, if_neg (of_decide_eq_false HU.out.1), List.length_append, HK.out.2.2.2.1]; rfl
                    · rw [HU.out.2, if_neg (of_decide_eq_false HU.out.1), intCells, List.map_append]; exact HK9.out.2.2
              · have hqe : q = ln := by omega
                have g1 : decide ((q : Int) < (ln : Int)) = false := decide_eq_false (by omega)
                have g1' : decide (q < ln) = false := decide_eq_false (by omega)
                have HQE := Lib.hid (show l.take q = l from by rw [hqe, ← HLN.out, List.take_length])
                clear hqe
                go_wp2_with fail
                go_roundg (zl - (k + 1))
                case measure => rw [HI.out.1]; omega
                case rel =>
                  refine ⟨k + 1, oa, oc, ol, F ++ l, rfl, rfl, rfl, by omega, HK.out.2.2.1, by rw [HN.out], ?_, ?_⟩
                  · have h1 := HK.out.2.2.2.1; rwa [HQE.out] at h1
                  · have h1 := HK.out.2.2.2.2; rwa [HQE.out] at h1
      · have hke : k = zl := by omega
        subst hke
        have f1 : decide (k < k) = false := by simp
        have hfin : onP V C A at' = uq F := by
          rw [HZ.out.2.2.1, HD.out]
          unfold restOn
          rw [HI.out.2.2.1, List.take_of_length_le (by rw [HZ.out.2.1]; exact Nat.le_refl _)]
        have HFIN := Lib.hid hfin
        clear hfin hi0 hz0 hz1 hz2 q0 q1 t0 t1 t2
        go_wp2_with fail
        rw [← HP.out]
        exact ⟨oa, oc, by rw [HFIN.out, HI.out.2.2.2.1]; rfl, by rw [HFIN.out, HI.out.2.2.2.1]; exact own_lower HI.out.2.2.2.2 HG.out.size, World.grownBy.trans HG.out HI.out.2.1⟩
end Go.Proofs.Ythkemajekkilmaa

/- The law: the circuit is valid after every step. -/
import Derived.Test.YtllljcbdinckgaaD2
import Derived.Test.YtllljcbdinckgaaH4
import Derived.Test.YtllljcbdinckgaaF2
namespace Go.Proofs.Ytllljcbdinckgaa
open Go.RowKit

theorem rvalid_good_calls {gs : List Gt} {a : Option Addr} {c : Nat} {w : World} (hG : Good gs) (hl : gs.length ≤ 2000) (h : GatesW w a c gs) : Calls Try.prog 22 #[.agg #[.slice a gs.length c]] w fun x w' => x = .returned (.bool true) ∧ w.grownBy w' none :=
  (rvalid_calls gs a c w h.weak hl (good_wf hG (by omega))).mono fun x w' hx => by
    obtain ⟨b, rfl, hb, hg⟩ := hx
    exact ⟨by rw [hb.2 hG], hg⟩
set_option maxRecDepth 100000 in
set_option maxHeartbeats 4000000 in
theorem stays_calls (l : List Stp) (sa : Option Addr) (sc : Nat) (w : World) (h : StpsW w sa sc l) (hs : ∀ s ∈ l, StpOk s) :
    Calls Try.prog 4 #[.slice sa l.length sc] w fun e w' => e = .returned (.bool true) ∧ w.grownBy w' none := by
  obtain ⟨n, hn⟩ : ∃ n, l.length = n := ⟨_, rfl⟩
  have HS := Lib.hid (And.intro h hs)
  have HN := Lib.hid hn
  rw [hn]
  clear h hs hn
  by_cases h60 : 60 < n
  · have f1 : decide ((60 : Int) < (n : Int)) = true := decide_eq_true (by omega)
    have f2 : decide (60 < n) = true := decide_eq_true h60
    go_enter Try.func4, Try.ntmps4
    go_wp2_with fail
    go_at_call 10
    refine (head_calls _).mono ?_
    rintro e U1 ⟨rfl, g⟩
    go_wp2_with fail
    go_ret
    exact ⟨rfl, g⟩
  have f1 : decide ((60 : Int) < (n : Int)) = false := decide_eq_false (by omega)
  have f2 : decide (60 < n) = false := decide_eq_false h60
  have hl : n ≤ 60 := by omega
  have HB := Lib.hid (fun k (hk : k ≤ n) => built_take l (by rw [HN.out]; omega) k (by rw [HN.out]; omega))
  obtain ⟨i0, hi0, hz0, hz1, hz2⟩ := info_parts info3
  clear h60
  go_enter Try.func4, Try.ntmps4
  go_wp2_with fail
  go_at_call 10
  refine (head_calls _).mono ?_
  rintro e V0 ⟨rfl, g0⟩
  have HG0 := Lib.hid g0
  have HSL := Lib.hid (HS.out.1.grown g0)
  clear g0
  go_wp2_with fail
  clear f1 f2
  refine (cnew_calls _).mono ?_
  rintro e U1 ⟨y, rfl, ⟨a0, c0, rfl, hr⟩, g1⟩
  go_upto_region 5 with fail
  have hb := CB.new hr
  have g2 := World.grownBy_alloc U1 (.cells #[.slice a0 ([(0, 0, 0)] : List Gt).length c0] 25) none
  have hbc : V0.heap.size ≤ U1.heap.size := g1.size
  replace hb : CB (U1.alloc (.cells #[.slice a0 1 c0] 25)) U1.heap.size a0 c0 [(0, 0, 0)] := hb
  replace g2 : U1.grownBy (U1.alloc (.cells #[.slice a0 1 c0] 25)) none := g2
  have hsz : U1.heap.size < (U1.alloc (.cells #[.slice a0 1 c0] 25)).heap.size := by simp
  obtain ⟨U2, hU2⟩ : ∃ z, World.alloc U1 (.cells #[.slice a0 1 c0] 25) = z := ⟨_, rfl⟩
  rw [hU2] at hb g2 hsz ⊢
  clear hU2 hr
  obtain ⟨bc, hbb⟩ : ∃ b, U1.heap.size = b := ⟨_, rfl⟩
  rw [hbb] at hb hbc hsz ⊢
  clear hbb
  have HBC := Lib.hid (And.intro hbc hsz)
  have HG2 := Lib.hid (World.grownBy.trans g1 g2)
  have HB0 := Lib.hid hb
  clear g1 g2 hb hbc hsz
  go_wp2_with fail
  go_loopg [5, 6] n (fun gk s5 s6 wr => ∃ (k : Nat) (ra : Option Addr) (rc : Nat) (a : Option Addr) (c : Nat), s5 = .slice ra k rc ∧ s6 = .int .i64 (k : Int) ∧ gk = n - k ∧ k ≤ n ∧ wr.ownsRow U2.heap.size 3 1 (.slice ra k rc) k (intCells (buildC (l.take k)).2) ∧ CB wr bc a c (buildC (l.take k)).1 ∧ V0.grownBy wr none ∧ U2.heap.size ≤ wr.heap.size)
  case atStart => exact ⟨0, none, 0, a0, c0, rfl, rfl, rfl, Nat.zero_le _, World.ownsRow_nil _ _ _ _, HB0.out, HG2.out, Nat.le_refl _⟩
  case round =>
    obtain ⟨k, ra, rc, a, c, rfl, rfl, hgk, hk, hown, hcb, hgr, hsz2⟩ := hrel
    have HI := Lib.hid hgk; clear hgk
    have HOW := Lib.hid hown; clear hown
    have HBK := Lib.hid (HB.out k hk)
    obtain ⟨gg, hgg⟩ : ∃ z, buildC (l.take k) = z := ⟨_, rfl⟩
    obtain ⟨gs, rs⟩ := gg
    rw [hgg] at HOW HBK hcb
    have Hc := Lib.hid hcb; clear hcb
    have HGR := Lib.hid hgr; clear hgr
    have HS2 := Lib.hid hsz2; clear hsz2
    have HGG := Lib.hid hgg; clear hgg
    have HRS := Lib.hid (show rs.length = k from HBK.out.refs)
    have q0 := Hc.out.1
    have qf := Hc.out.2.1
    by_cases hkn : k < n
    · have f1 : decide (k < n) = true := decide_eq_true hkn
      have hk1 : IntKind.i64.wrap ((k : Int) + 1) = ((k + 1 : Nat) : Int) := by rw [IntWalk.i64_in _ (by omega)]; omega
      have hjn : (k : Int) < (n : Int) := by omega
      have hj0 : (0 : Int) ≤ (k : Int) := by omega
      obtain ⟨s, hs⟩ : ∃ s, l[k]? = some s := ⟨_, List.getElem?_eq_getElem (by rw [HN.out]; omega)⟩
      obtain ⟨ba, oa, rfl, x0, x1, x2⟩ := (HSL.out.grown HGR.out).at hs
      obtain ⟨g2, r2, e2⟩ : ∃ g r, doC gs rs s = (g, r) := ⟨_, _, rfl⟩
      have HE2 := Lib.hid e2
      have HST := Lib.hid (show buildC (l.take (k + 1)) = (g2, rs ++ [r2]) by rw [build_take_succ hs, HGG.out]; unfold bstep; simp only; rw [e2])
      have HSO := Lib.hid (HS.out.2 s (List.mem_of_getElem? hs))
      have HRW := Lib.hid (show IntsW wr ra rc rs from by
        have h1 := HOW.out
        rw [← HRS.out] at h1
        obtain ⟨a', c', e', hs'⟩ := ints_span h1
        cases e'
        exact hs'.here.weak)
      have HX := Lib.hid (And.intro x0 (And.intro x1 x2))
      clear hs e2 x0 x1 x2
      go_upto_region 9 with fail
      clear q0 qf
      have HG := Lib.hid HGR.out
      have HGW := Lib.hid (grown_refl wr none)
      go_cut [7, 8] (fun s0 s1 wx => ∃ b a c, s0 = .pointer (some ⟨b, 0, none⟩) ∧ s1 = .int .i64 (r2) ∧ wr.heap.size ≤ b ∧ CB wx b a c g2 ∧ wr.grownBy wx none)
      case first =>
        have HS := Lib.hid (fun (Wh : World) (hWh : wr.grownBy Wh none) => (⟨hWh, hWh.cell Hc.out.1 (by simp), hWh.cell HX.out.1 (by simp), hWh.cell HX.out.2.1 (by simp), hWh.cell HX.out.2.2 (by simp)⟩ : (fun Wh : World => wr.grownBy Wh none ∧ Wh.cell? ⟨bc, 0, none⟩ = some (.slice a gs.length c) ∧ Wh.cell? ⟨ba, oa + k * 3, none⟩ = some (.int .u8 (s.1 : Int)) ∧ Wh.cell? ⟨ba, oa + k * 3 + 1, none⟩ = some (.int .u8 (s.2.1 : Int)) ∧ Wh.cell? ⟨ba, oa + k * 3 + 2, none⟩ = some (.int .u8 (s.2.2 : Int))) Wh))
        have hdr : wr.grownBy wr.drew none := ⟨rfl, rfl, rfl, Nat.le_refl _, fun _ _ _ => rfl⟩
        refine wp_region_held_drew (S := (fun Wh : World => wr.grownBy Wh none ∧ Wh.cell? ⟨bc, 0, none⟩ = some (.slice a gs.length c) ∧ Wh.cell? ⟨ba, oa + k * 3, none⟩ = some (.int .u8 (s.1 : Int)) ∧ Wh.cell? ⟨ba, oa + k * 3 + 1, none⟩ = some (.int .u8 (s.2.1 : Int)) ∧ Wh.cell? ⟨ba, oa + k * 3 + 2, none⟩ = some (.int .u8 (s.2.2 : Int)))) (by kernel_rfl) (HS.out _ hdr) (fun hHeld => ?_)
        refine wpAnyH_take (i := 0) (oi := { dst := some 23, op := Op.load 25 (Operand.tmp 4), type := 25, pos := "law.go:84", after := #[], guard := none }) (v := ?_) rfl (by kernel_rfl) (by kernel_rfl) (by kernel_rfl) (fun _ _ _ h => h) (Or.inl ⟨by rfl, ?_⟩) (by assumption) ?_
        rotate_left 1
        · (intro W hSW; (try dsimp only at hSW); first | (go_simp; done) | (go_simp; with_reducible rfl))
        try simp only [Act.put, List.setIfInBounds_toArray, List.set_cons_zero, List.set_cons_succ]
        refine wpAnyH_take (i := 1) (oi := { dst := some 24, op := Op.move (Operand.tmp 5), type := 28, pos := "law.go:84", after := #[], guard := none }) (v := ?_) rfl (by kernel_rfl) (by kernel_rfl) (by kernel_rfl) (fun _ _ _ h => h) (Or.inl ⟨by rfl, ?_⟩) (by assumption) ?_
        rotate_left 1
        · (intro W hSW; (try dsimp only at hSW); first | (go_simp; done) | (go_simp; with_reducible rfl))
        try simp only [Act.put, List.setIfInBounds_toArray, List.set_cons_zero, List.set_cons_succ]
        refine wpAnyH_take (i := 2) (oi := { dst := some 25, op := Op.move (Operand.tmp 0), type := 22, pos := "law.go:84", after := #[], guard := none }) (v := ?_) rfl (by kernel_rfl) (by kernel_rfl) (by kernel_rfl) (fun _ _ _ h => h) (Or.inl ⟨by rfl, ?_⟩) (by assumption) ?_
        rotate_left 1
        · (intro W hSW; (try dsimp only at hSW); first | (go_simp; done) | (go_simp; with_reducible rfl))
        try simp only [Act.put, List.setIfInBounds_toArray, List.set_cons_zero, List.set_cons_succ]
        refine wpAnyH_take (i := 3) (oi := { dst := some 26, op := Op.move (Operand.tmp 6), type := 3, pos := "law.go:84", after := #[], guard := none }) (v := ?_) rfl (by kernel_rfl) (by kernel_rfl) (by kernel_rfl) (fun _ _ _ h => h) (Or.inl ⟨by rfl, ?_⟩) (by assumption) ?_
        rotate_left 1
        · (intro W hSW; (try dsimp only at hSW); first | (go_simp; done) | (go_simp; with_reducible rfl))
        try simp only [Act.put, List.setIfInBounds_toArray, List.set_cons_zero, List.set_cons_succ]
        refine wpAnyH_take (i := 4) (oi := { dst := some 27, op := Op.indexAddr 22 (Operand.tmp 25) (Operand.tmp 26), type := 0, pos := "law.go:84", after := #[{ on := 2, ground := Ground.data }, { on := 3, ground := Ground.data }], guard := none }) (v := ?_) rfl (by kernel_rfl) (by kernel_rfl) (by kernel_rfl) (fun _ _ _ h => h) (Or.inl ⟨by rfl, ?_⟩) (by assumption) ?_
        rotate_left 1
        · (intro W hSW; (try dsimp only at hSW); first | (go_simp; done) | (go_simp; with_reducible rfl))
        try simp only [Act.put, List.setIfInBounds_toArray, List.set_cons_zero, List.set_cons_succ]
        refine wpAnyH_take (i := 5) (oi := { dst := some 28, op := Op.load 42 (Operand.tmp 27), type := 42, pos := "law.go:84", after := #[{ on := 4, ground := Ground.data }], guard := none }) (v := ?_) rfl (by kernel_rfl) (by kernel_rfl) (by kernel_rfl) (fun _ _ _ h => h) (Or.inl ⟨by rfl, ?_⟩) (by assumption) ?_
        rotate_left 1
        · (intro W hSW; (try dsimp only at hSW); first | (go_simp; done) | (go_simp; with_reducible rfl))
        try simp only [Act.put, List.setIfInBounds_toArray, List.set_cons_zero, List.set_cons_succ]
        refine wpAnyH_ready (rs := [6, 10]) (by kernel_rfl) (by simp) ?_
        refine (AllReadyH.cons (o := { dst := some 29, op := Op.call { callee := Callee.value (Operand.func 28), args := #[Operand.tmp 23, Operand.tmp 24, Operand.tmp 28], argTypes := #[25, 28, 42] }, type := 31, pos := "law.go:84", after := #[{ on := 0, ground := Ground.data }, { on := 1, ground := Ground.data }, { on := 5, ground := Ground.data }], guard := none }) rfl (fun K hK => ?_) (AllReadyH.cons (o := { dst := some 7, op := Op.alloc 25, type := 0, pos := "law.go:84", after := #[], guard := none }) rfl (fun K hK => ?_) AllReadyH.nil))
        · rw [if_pos (by rfl)]
          go_simp
          go_at_call 28
          refine (do_len (n := k) HRS.out s a c ra rc _ HE2.out ((Hc.out.grown hdr)).2.2 (HRW.out.grown hdr) HBK.out.good (by have := HBK.out.len; simp only at this; omega) (by have := HRS.out; omega) (ok_le (gs := gs) (by have := HBK.out.len; simp only at this; omega) HBK.out.ok) HSO.out).mono ?_
          rintro e wM ⟨aM, cM, rfl, hr, gM⟩
          have hgM := World.grownBy.trans hdr gM
          go_wp2_with fail
          refine hK.out _ _ (HS.out _ hgM) (fun hHeld => ?_)
          clear hK K
          try simp only [Act.put, List.setIfInBounds_toArray, List.set_cons_zero, List.set_cons_succ]
          refine wpAnyH_take (i := 7) (oi := { dst := some 22, op := Op.move (Operand.tmp 29), type := 31, pos := "law.go:84", after := #[{ on := 6, ground := Ground.data }], guard := none }) (v := ?_) rfl (by kernel_rfl) (by kernel_rfl) (by kernel_rfl) (fun _ _ _ h => h) (Or.inl ⟨by rfl, ?_⟩) (by assumption) ?_
          rotate_left 1
          · (intro W hSW; (try dsimp only at hSW); first | (go_simp; done) | (go_simp; with_reducible rfl))
          try simp only [Act.put, List.setIfInBounds_toArray, List.set_cons_zero, List.set_cons_succ]
          refine wpAnyH_take (i := 8) (oi := { dst := some 30, op := Op.extract (Operand.tmp 22) 0, type := 25, pos := "law.go:84", after := #[{ on := 7, ground := Ground.data }], guard := none }) (v := ?_) rfl (by kernel_rfl) (by kernel_rfl) (by kernel_rfl) (fun _ _ _ h => h) (Or.inl ⟨by rfl, ?_⟩) (by assumption) ?_
          rotate_left 1
          · (intro W hSW; (try dsimp only at hSW); first | (go_simp; done) | (go_simp; with_reducible rfl))
          try simp only [Act.put, List.setIfInBounds_toArray, List.set_cons_zero, List.set_cons_succ]
          refine wpAnyH_take (i := 9) (oi := { dst := some 31, op := Op.extract (Operand.tmp 22) 1, type := 3, pos := "law.go:84", after := #[{ on := 7, ground := Ground.data }, { on := 11, ground := Ground.gcOnly Departure.lateStores }], guard := none }) (v := ?_) rfl (by kernel_rfl) (by kernel_rfl) (by kernel_rfl) (fun _ _ _ h => h) (Or.inl ⟨by rfl, ?_⟩) (by assumption) ?_
          rotate_left 1
          · (intro W hSW; (try dsimp only at hSW); first | (go_simp; done) | (go_simp; with_reducible rfl))
          try simp only [Act.put, List.setIfInBounds_toArray, List.set_cons_zero, List.set_cons_succ]
          refine wpAnyH_ready (rs := [10]) (by kernel_rfl) (by simp) ?_
          refine (AllReadyH.cons (o := { dst := some 7, op := Op.alloc 25, type := 0, pos := "law.go:84", after := #[], guard := none }) rfl (fun K hK => ?_) AllReadyH.nil)
          rw [if_pos (by rfl)]
          go_simp
          have hgA : wr.grownBy (World.alloc wM (.cells #[.slice none 0 0] 25)) none := World.grownBy.trans hgM (World.grownBy_alloc wM (.cells #[.slice none 0 0] 25) none)
          have hz : BoxZ (World.alloc wM (.cells #[.slice none 0 0] 25)) (wM.heap.size) := BoxZ.new wM
          have hge0 : wr.heap.size ≤ wM.heap.size := World.grownBy.size hgM
          have hge : ∀ p, wM.heap.size = p → wr.heap.size ≤ p := fun p e => by rw [← e]; exact hge0
          clear hge0
          replace hr := hr.grown (World.grownBy_alloc wM (.cells #[.slice none 0 0] 25) none)
          obtain ⟨WA, hWA⟩ : ∃ z, World.alloc wM (.cells #[.slice none 0 0] 25) = z := ⟨_, rfl⟩
          rw [hWA] at hgA hz ⊢
          rw [hWA] at hr
          clear hWA
          obtain ⟨pA, hpA⟩ : ∃ p, wM.heap.size = p := ⟨_, rfl⟩
          replace hge := hge pA hpA
          rw [hpA] at hz ⊢
          clear hpA
          refine hK.out _ _ (HS.out _ hgA) (fun hHeld => ?_)
          clear hK K
          try simp only [Act.put, List.setIfInBounds_toArray, List.set_cons_zero, List.set_cons_succ]
          refine wpAnyH_ready (rs := [11]) (by kernel_rfl) (by simp) ?_
          refine (AllReadyH.cons (o := { dst := none, op := Op.store 25 (Operand.tmp 7) (Operand.tmp 30), type := 0, pos := "law.go:84", after := #[{ on := 10, ground := Ground.data }, { on := 8, ground := Ground.data }, { on := 6, ground := Ground.chain }, { on := 0, ground := Ground.phase }, { on := 1, ground := Ground.phase }, { on := 2, ground := Ground.phase }, { on := 3, ground := Ground.phase }, { on := 4, ground := Ground.phase }, { on := 5, ground := Ground.phase }, { on := 6, ground := Ground.phase }, { on := 7, ground := Ground.phase }, { on := 8, ground := Ground.phase }, { on := 9, ground := Ground.textOnly Departure.lateStores }, { on := 10, ground := Ground.phase }], guard := none }) rfl (fun K hK => ?_) AllReadyH.nil)
          rw [if_pos (by rfl)]
          have z0 := hz.1
          have zf := hz.2
          go_simp
          clear z0 zf
          have hcb := CB.put hr hz.1 hz.2
          have hgS := grown_own hgA (grown_set WA pA 0 (.slice aM g2.length cM)) (fun k hk => by cases hk; exact hge)
          obtain ⟨WS, hWS⟩ : ∃ z, World.setCell WA ⟨pA, 0, none⟩ (.slice aM g2.length cM) = z := ⟨_, rfl⟩
          rw [hWS] at hcb hgS ⊢
          clear hWS
          refine hK.out _ _ (HS.out _ hgS) (fun hHeld => ?_)
          clear hK K
          try simp only [Act.put, List.setIfInBounds_toArray, List.set_cons_zero, List.set_cons_succ]
          refine wpAnyH_take (i := 12) (oi := { dst := some 8, op := Op.assign (Operand.tmp 31), type := 3, pos := "law.go:84", after := #[{ on := 9, ground := Ground.data }, { on := 11, ground := Ground.chain }, { on := 0, ground := Ground.phase }, { on := 1, ground := Ground.phase }, { on := 2, ground := Ground.phase }, { on := 3, ground := Ground.phase }, { on := 4, ground := Ground.phase }, { on := 5, ground := Ground.phase }, { on := 6, ground := Ground.phase }, { on := 7, ground := Ground.phase }, { on := 8, ground := Ground.phase }, { on := 9, ground := Ground.phase }, { on := 10, ground := Ground.phase }, { on := 11, ground := Ground.phase }], guard := none }) (v := ?_) rfl (by kernel_rfl) (by kernel_rfl) (by kernel_rfl) (fun _ _ _ h => h) (Or.inl ⟨by rfl, ?_⟩) (by assumption) ?_
          rotate_left 1
          · (intro W hSW; (try dsimp only at hSW); first | (go_simp; done) | (go_simp; with_reducible rfl))
          try simp only [Act.put, List.setIfInBounds_toArray, List.set_cons_zero, List.set_cons_succ]
          refine wpAnyH_done (by kernel_rfl) ?_ _
          have hEND := hgS
          clear hHeld
          go_wp2_with fail
          go_meet
          exact ⟨pA, aM, cM, rfl, rfl, hge, hcb, hEND⟩
        · rw [if_pos (by rfl)]
          go_simp
          have hgA : wr.grownBy ((World.alloc wr (.cells #[.slice none 0 0] 25)).drew) none := World.grownBy.trans (World.grownBy_alloc wr (.cells #[.slice none 0 0] 25) none) (⟨rfl, rfl, rfl, Nat.le_refl _, fun _ _ _ => rfl⟩ : (World.alloc wr (.cells #[.slice none 0 0] 25)).grownBy (World.alloc wr (.cells #[.slice none 0 0] 25)).drew none)
          have hz : BoxZ ((World.alloc wr (.cells #[.slice none 0 0] 25)).drew) (wr.heap.size) := (BoxZ.new wr).grown (⟨rfl, rfl, rfl, Nat.le_refl _, fun _ _ _ => rfl⟩ : (World.alloc wr (.cells #[.slice none 0 0] 25)).grownBy (World.alloc wr (.cells #[.slice none 0 0] 25)).drew none)
          have hge0 : wr.heap.size ≤ wr.heap.size := Nat.le_refl _
          have hge : ∀ p, wr.heap.size = p → wr.heap.size ≤ p := fun p e => by rw [← e]; exact hge0
          clear hge0
          obtain ⟨WA, hWA⟩ : ∃ z, (World.alloc wr (.cells #[.slice none 0 0] 25)).drew = z := ⟨_, rfl⟩
          rw [hWA] at hgA hz ⊢
          clear hWA
          obtain ⟨pA, hpA⟩ : ∃ p, wr.heap.size = p := ⟨_, rfl⟩
          replace hge := hge pA hpA
          rw [hpA] at hz ⊢
          clear hpA
          refine hK.out _ _ (HS.out _ hgA) (fun hHeld => ?_)
          clear hK K
          try simp only [Act.put, List.setIfInBounds_toArray, List.set_cons_zero, List.set_cons_succ]
          refine wpAnyH_ready (rs := [6]) (by kernel_rfl) (by simp) ?_
          refine (AllReadyH.cons (o := { dst := some 29, op := Op.call { callee := Callee.value (Operand.func 28), args := #[Operand.tmp 23, Operand.tmp 24, Operand.tmp 28], argTypes := #[25, 28, 42] }, type := 31, pos := "law.go:84", after := #[{ on := 0, ground := Ground.data }, { on := 1, ground := Ground.data }, { on := 5, ground := Ground.data }], guard := none }) rfl (fun K hK => ?_) AllReadyH.nil)
          rw [if_pos (by rfl)]
          go_simp
          go_at_call 28
          refine (do_len (n := k) HRS.out s a c ra rc _ HE2.out ((Hc.out.grown hgA)).2.2 (HRW.out.grown hgA) HBK.out.good (by have := HBK.out.len; simp only at this; omega) (by have := HRS.out; omega) (ok_le (gs := gs) (by have := HBK.out.len; simp only at this; omega) HBK.out.ok) HSO.out).mono ?_
          rintro e wM ⟨aM, cM, rfl, hr, gM⟩
          have hgM := World.grownBy.trans hgA gM
          replace hz := hz.grown gM
          go_wp2_with fail
          refine hK.out _ _ (HS.out _ hgM) (fun hHeld => ?_)
          clear hK K
          try simp only [Act.put, List.setIfInBounds_toArray, List.set_cons_zero, List.set_cons_succ]
          refine wpAnyH_take (i := 7) (oi := { dst := some 22, op := Op.move (Operand.tmp 29), type := 31, pos := "law.go:84", after := #[{ on := 6, ground := Ground.data }], guard := none }) (v := ?_) rfl (by kernel_rfl) (by kernel_rfl) (by kernel_rfl) (fun _ _ _ h => h) (Or.inl ⟨by rfl, ?_⟩) (by assumption) ?_
          rotate_left 1
          · (intro W hSW; (try dsimp only at hSW); first | (go_simp; done) | (go_simp; with_reducible rfl))
          try simp only [Act.put, List.setIfInBounds_toArray, List.set_cons_zero, List.set_cons_succ]
          refine wpAnyH_take (i := 8) (oi := { dst := some 30, op := Op.extract (Operand.tmp 22) 0, type := 25, pos := "law.go:84", after := #[{ on := 7, ground := Ground.data }], guard := none }) (v := ?_) rfl (by kernel_rfl) (by kernel_rfl) (by kernel_rfl) (fun _ _ _ h => h) (Or.inl ⟨by rfl, ?_⟩) (by assumption) ?_
          rotate_left 1
          · (intro W hSW; (try dsimp only at hSW); first | (go_simp; done) | (go_simp; with_reducible rfl))
          try simp only [Act.put, List.setIfInBounds_toArray, List.set_cons_zero, List.set_cons_succ]
          refine wpAnyH_take (i := 9) (oi := { dst := some 31, op := Op.extract (Operand.tmp 22) 1, type := 3, pos := "law.go:84", after := #[{ on := 7, ground := Ground.data }, { on := 11, ground := Ground.gcOnly Departure.lateStores }], guard := none }) (v := ?_) rfl (by kernel_rfl) (by kernel_rfl) (by kernel_rfl) (fun _ _ _ h => h) (Or.inl ⟨by rfl, ?_⟩) (by assumption) ?_
          rotate_left 1
          · (intro W hSW; (try dsimp only at hSW); first | (go_simp; done) | (go_simp; with_reducible rfl))
          try simp only [Act.put, List.setIfInBounds_toArray, List.set_cons_zero, List.set_cons_succ]
          refine wpAnyH_ready (rs := [11]) (by kernel_rfl) (by simp) ?_
          refine (AllReadyH.cons (o := { dst := none, op := Op.store 25 (Operand.tmp 7) (Operand.tmp 30), type := 0, pos := "law.go:84", after := #[{ on := 10, ground := Ground.data }, { on := 8, ground := Ground.data }, { on := 6, ground := Ground.chain }, { on := 0, ground := Ground.phase }, { on := 1, ground := Ground.phase }, { on := 2, ground := Ground.phase }, { on := 3, ground := Ground.phase }, { on := 4, ground := Ground.phase }, { on := 5, ground := Ground.phase }, { on := 6, ground := Ground.phase }, { on := 7, ground := Ground.phase }, { on := 8, ground := Ground.phase }, { on := 9, ground := Ground.textOnly Departure.lateStores }, { on := 10, ground := Ground.phase }], guard := none }) rfl (fun K hK => ?_) AllReadyH.nil)
          rw [if_pos (by rfl)]
          have z0 := hz.1
          have zf := hz.2
          go_simp
          clear z0 zf
          have hcb := CB.put hr hz.1 hz.2
          have hgS := grown_own hgM (grown_set wM pA 0 (.slice aM g2.length cM)) (fun k hk => by cases hk; exact hge)
          obtain ⟨WS, hWS⟩ : ∃ z, World.setCell wM ⟨pA, 0, none⟩ (.slice aM g2.length cM) = z := ⟨_, rfl⟩
          rw [hWS] at hcb hgS ⊢
          clear hWS
          refine hK.out _ _ (HS.out _ hgS) (fun hHeld => ?_)
          clear hK K
          try simp only [Act.put, List.setIfInBounds_toArray, List.set_cons_zero, List.set_cons_succ]
          refine wpAnyH_take (i := 12) (oi := { dst := some 8, op := Op.assign (Operand.tmp 31), type := 3, pos := "law.go:84", after := #[{ on := 9, ground := Ground.data }, { on := 11, ground := Ground.chain }, { on := 0, ground := Ground.phase }, { on := 1, ground := Ground.phase }, { on := 2, ground := Ground.phase }, { on := 3, ground := Ground.phase }, { on := 4, ground := Ground.phase }, { on := 5, ground := Ground.phase }, { on := 6, ground := Ground.phase }, { on := 7, ground := Ground.phase }, { on := 8, ground := Ground.phase }, { on := 9, ground := Ground.phase }, { on := 10, ground := Ground.phase }, { on := 11, ground := Ground.phase }], guard := none }) (v := ?_) rfl (by kernel_rfl) (by kernel_rfl) (by kernel_rfl) (fun _ _ _ h => h) (Or.inl ⟨by rfl, ?_⟩) (by assumption) ?_
          rotate_left 1
          · (intro W hSW; (try dsimp only at hSW); first | (go_simp; done) | (go_simp; with_reducible rfl))
          try simp only [Act.put, List.setIfInBounds_toArray, List.set_cons_zero, List.set_cons_succ]
          refine wpAnyH_done (by kernel_rfl) ?_ _
          have hEND := hgS
          clear hHeld
          go_wp2_with fail
          go_meet
          exact ⟨pA, aM, cM, rfl, rfl, hge, hcb, hEND⟩
      case rest =>
        obtain ⟨bd, a1, c1, rfl, rfl, hle, hb, g⟩ := hcut
        obtain ⟨V1, rfl⟩ : ∃ z, z = wc := ⟨_, rfl⟩
        have SZd := Lib.hid (show wr.heap.size ≤ V1.heap.size from World.grownBy.size g)
        replace Hc := Lib.hid (Hc.out.grown g)
        replace HG := Lib.hid (World.grownBy.trans HG.out g)
        replace HGW := Lib.hid (World.grownBy.trans HGW.out g)
        clear g
        have Hd := Lib.hid hb
        have Ld := Lib.hid hle
        clear hb hle
        have qc := Hc.out.1
        have fc := Hc.out.2.1
        have qd := Hd.out.1
        have fd := Hd.out.2.1
        go_upto_region 10 with fail
        clear qc fc qd fd
        have HBN := Lib.hid (show Built (g2, rs ++ [r2]) (k + 1) from by have := HB.out (k + 1) (by omega); rw [HST.out] at this; exact this)
        have HGD2 := Lib.hid (show Good g2 from HBN.out.good)
        have HL2 := Lib.hid (show g2.length ≤ 184 from by have := HBN.out.len; simp only at this; omega)
        have HOR := Lib.hid (show Ok g2 r2 from HBN.out.ok r2 (by simp))
        have qc := Hc.out.1
        have fc := Hc.out.2.1
        have qd := Hd.out.1
        have fd := Hd.out.2.1
        go_wp2_with fail
        clear qc fc qd fd
        go_at_call 22
        refine (rvalid_good_calls HGD2.out (by have := HL2.out; omega) Hd.out.2.2).mono ?_
        rintro e V2 ⟨rfl, g⟩
        replace Hc := Lib.hid (Hc.out.grown g)
        replace Hd := Lib.hid (Hd.out.grown g)
        replace HG := Lib.hid (World.grownBy.trans HG.out g)
        replace HGW := Lib.hid (World.grownBy.trans HGW.out g)
        clear g
        have qc := Hc.out.1
        have fc := Hc.out.2.1
        have qd := Hd.out.1
        have fd := Hd.out.2.1
        go_wp2_with fail
        clear qc fc qd fd
        go_at_call 21
        refine (valid_good_calls HGD2.out (by have := HL2.out; omega) Hd.out.2.2).mono ?_
        rintro e V3 ⟨rfl, g⟩
        replace Hc := Lib.hid (Hc.out.grown g)
        replace Hd := Lib.hid (Hd.out.grown g)
        replace HG := Lib.hid (World.grownBy.trans HG.out g)
        replace HGW := Lib.hid (World.grownBy.trans HGW.out g)
        clear g
        have m1 : decide (r2 < 0) = false := decide_eq_false (by have := HOR.out.1; omega)
        have m2 : IntKind.i64.wrap (2 * (g2.length : Int)) = 2 * (g2.length : Int) := IntWalk.i64_in _ (by have := HL2.out; omega)
        have m3 : decide (2 * (g2.length : Int) ≤ r2) = false := decide_eq_false (by have := HOR.out.2; omega)
        have qc := Hc.out.1
        have fc := Hc.out.2.1
        have qd := Hd.out.1
        have fd := Hd.out.2.1
        go_upto_region 14 with fail
        clear qc fc qd fd
        clear m1 m2 m3
        have hb := CB.put Hd.out.2.2 Hc.out.1 Hc.out.2.1
        have hg := grown_own HG.out (grown_set V3 bc 0 (.slice a1 g2.length c1)) (fun k e => by cases e; exact HBC.out.1)
        have hwv := HGW.out
        have how := (own_grown HOW.out hwv).kept (grown_set V3 bc 0 (.slice a1 g2.length c1)) (own_ne (own_grown HOW.out hwv) HBC.out.2)
        have hs3 := Nat.le_trans (Nat.le_trans HS2.out (World.grownBy.size hwv)) (grown_set V3 bc 0 (.slice a1 g2.length c1)).size
        obtain ⟨Y3, hV3⟩ : ∃ z, World.setCell V3 ⟨bc, 0, none⟩ (.slice a1 g2.length c1) = z := ⟨_, rfl⟩
        rw [hV3] at hb hg how hs3 ⊢
        clear hV3 hwv
        have HC3 := Lib.hid hb
        have HG3 := Lib.hid hg
        have HO3 := Lib.hid how
        have HS3 := Lib.hid hs3
        clear hb hg how hs3
        go_wp2_with (at_builtin; refine wpList_append_own_at _ rfl _ _ 28 rfl U2.heap.size 3 i0 (.int .i64 0) 1 8 Try.underlying28 hi0 hz0 hz1 hz2 rfl (by decide) _ k (intCells rs) rfl (HO3.out.alloc _) ⟨Y3.heap.size, 0, none⟩ 1 1 [.int .i64 r2] rfl rfl (cell_one_new _ _ _) (fun u hu => by simp at hu; subst hu; rfl) (by unfold maxLen; omega) (by omega) (by have := HS3.out; simp; omega) ?_)
        intro v' w6 hown' hgrow6 _ hat6
        obtain ⟨rgA, rcA, rfl⟩ := own_shape hown'
        have haA := World.grownBy_alloc Y3 (.cells #[.int .i64 r2] 3) none
        have HE := Lib.hid (And.intro ((HC3.out.grown haA).past HBC.out.2 (HO3.out.alloc _) (by decide) hgrow6) (And.intro (grown_own (World.grownBy.trans HG3.out haA) hgrow6 (fun j e => by have h1 := ((HO3.out.alloc (.cells #[.int .i64 r2] 3)).lt j e).1; have h2 := HBC.out; omega)) (Nat.le_trans (Nat.le_trans HS3.out haA.size) hgrow6.size)))
        have HOW6 := Lib.hid (show w6.ownsRow U2.heap.size 3 1 (.slice rgA (k + 1) rcA) (k + 1) (intCells (rs ++ [r2])) by rw [intCells, List.map_append]; exact hown')
        clear hown' hgrow6 haA hat6
        go_wp2_with fail
        go_roundg (n - (k + 1))
        case measure => rw [HI.out]; omega
        case rel => exact ⟨k + 1, rgA, rcA, a1, c1, rfl, rfl, rfl, by omega, by rw [HST.out]; exact HOW6.out, by rw [HST.out]; exact HE.out.1, HE.out.2.1, HE.out.2.2⟩
    · have f1 : decide (k < n) = false := decide_eq_false hkn
      go_wp2_with fail
      go_ret
      exact ⟨rfl, World.grownBy.trans HG0.out HGR.out⟩
end Go.Proofs.Ytllljcbdinckgaa

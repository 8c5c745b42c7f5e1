/- The reference's Count. -/
import Derived.Test.YthagoihpppppkaaQ7
namespace Go.Proofs.Ythagoihpppppkaa
open Go.RowKit Go.Maps

theorem ints_one (w : World) (x : Int) : IntsW (w.alloc (.cells #[.int .i64 x] 3)) (some ⟨w.heap.size, 0, none⟩) 1 [x] :=
  ⟨Nat.le_refl _, .inr ⟨w.heap.size, 0, rfl, fun j z hj => by
    cases j with
    | zero => simp at hj; subst hj; exact (one_cell w (.int .i64 x) 3).2.1
    | succ j => simp at hj⟩⟩
/-- Counting one reference after the other. -/
def countP (l : List Int) : Pr (List Int) := foldP (fun out (x : Int) => addP out [x]) l []
/-- Ands at most, for the references from the j-th on. -/
def costC : Nat → Nat → Nat
  | _, 0 => 0
  | j, m + 1 => costA j 1 + costC (j + 1) m
theorem safe_countP : ∀ (l : List Int) {gs : List Gt} (out : List Int), Good gs → (∀ r ∈ l, Ok gs r) → (∀ r ∈ out, Ok gs r) → gs.length + costC out.length l.length ≤ 19900 →
    (foldP (fun out (x : Int) => addP out [x]) l out).safe gs (fun g t => Grew gs (costC out.length l.length) g ∧ (∀ r ∈ t, Ok g r) ∧ t.length = out.length + l.length ∧ ∀ values n, n ≤ out.length → out.map (valC gs values) = unary n out.length → t.map (valC g values) = unary (n + (l.map (valC gs values)).count true) (out.length + l.length))
  | [], gs, out, hg, _, ho, _ => ⟨Grew.refl hg, ho, rfl, fun values n _ h => by simpa using h⟩
  | x :: l, gs, out, hg, hl, ho, hc => by
    have hx : ∀ r ∈ [x], Ok gs r := fun r hr => by rw [List.mem_singleton.1 hr]; exact hl x (List.mem_cons_self ..)
    have hcc : costC out.length (x :: l).length = costA out.length 1 + costC (out.length + 1) l.length := rfl
    rw [hcc] at hc ⊢
    refine Pr.safe_bind _ (Pr.safe_mono (fun g a ha => ?_) _ (safe_addP hg ho hx (by show _ + costA out.length 1 ≤ _; omega)))
    obtain ⟨a1, a2, a3, a4⟩ := ha
    have a1' : Grew gs (costA out.length 1) g := a1
    have a3' : a.length = out.length + 1 := a3
    have ih := safe_countP l a a1.good (fun r hr => a1.ok (hl r (List.mem_cons_of_mem _ hr))) a2 (by rw [a3']; have := a1'.len; omega)
    rw [a3'] at ih
    refine Pr.safe_mono (fun g2 t ht => ?_) _ ih
    obtain ⟨t1, t2, t3, t4⟩ := ht
    refine ⟨a1'.trans t1, t2, by rw [t3, List.length_cons]; omega, fun values n hn hu => ?_⟩
    have hb : [x].map (valC gs values) = unary (([x].map (valC gs values)).count true) [x].length := by
      have := small_unary (v := [x].map (valC gs values)) (by simp)
      simpa using this
    have hcn := count_le' ([x].map (valC gs values))
    have h4 := a4 values n (([x].map (valC gs values)).count true) hn (by simpa using hcn) hu hb
    have h5 := t4 values (n + ([x].map (valC gs values)).count true) (by simp only [List.length_map, List.length_singleton] at hcn; omega) (by rw [h4]; rfl)
    rw [h5, a1.vals (fun r hr => hl r (List.mem_cons_of_mem _ hr)), List.length_cons, List.map_cons, Nat.add_assoc n, ← List.count_append, Nat.add_assoc out.length, Nat.add_comm 1 l.length]
    rfl
theorem resB19 (tmps : Array Value) (w : World) (b : Nat) (a : Option Addr) (n c : Nat) (v : Value) (ht : tmps.getD 4 undef = .pointer (some ⟨b, 0, none⟩)) (hv : tmps.getD 5 undef = v) (h0 : w.cell? ⟨b, 0, none⟩ = some (.slice a n c)) :
    (results Try.f19 tmps).run Try.prog w = .ok (.tuple #[.agg #[.slice a n c], v]) w := by
  have ht' : tmps[4]?.getD undef = .pointer (some ⟨b, 0, none⟩) := by simpa using ht
  have hv' : tmps[5]?.getD undef = v := by simpa using hv
  simp [results, ht', hv', go_sem, h0, Result.andThen]
theorem merge_n {a b : List Int} {na nb : Nat} {g g' : List Gt} {l' : List Int} (hna : a.length = na) (hnb : b.length = nb) (e : (addP a b).run g = (g', l')) (hG : Good g) (hla : ∀ r ∈ a, r ≤ 9223372036854775807) (hlb : ∀ r ∈ b, r ≤ 9223372036854775807) (hl : g.length + costA a.length b.length ≤ 850) (h1 : a.length ≤ 100) (h2 : b.length ≤ 100) (w : World) (aa : Option Addr) (cc : Nat) (va : Option Addr) (ca : Nat) (vb : Option Addr) (cb : Nat) (h : GatesW w aa cc g) (ha : IntsW w va ca a) (hb : IntsW w vb cb b) :
    Calls Try.prog 43 #[.agg #[.slice aa g.length cc], .slice va na ca, .slice vb nb cb] w fun e w' => AnsL w g' l' e w' := by
  subst hna hnb
  have := merge43_calls a b aa cc va ca vb cb w g h ha hb hG hla hlb hl h1 h2
  rw [e] at this
  exact this

set_option maxRecDepth 100000 in
set_option maxHeartbeats 4000000 in
theorem count_calls (l : List Int) (aa : Option Addr) (cc : Nat) (va : Option Addr) (ca : Nat) (w : World) (gs : List Gt) (h : GatesW w aa cc gs) (ha : IntsW w va ca l) (hG : Good gs) (ho : ∀ r ∈ l, Ok gs r) (hl : gs.length + costC 0 l.length ≤ 850) (h1 : l.length ≤ 64) :
    Calls Try.prog 19 #[.agg #[.slice aa gs.length cc], .slice va l.length ca] w fun e w' => AnsL w ((countP l).run gs).1 ((countP l).run gs).2 e w' := by
  obtain ⟨n, hn⟩ : ∃ n, l.length = n := ⟨_, rfl⟩
  obtain ⟨res, hres⟩ : ∃ r, (countP l).run gs = r := ⟨_, rfl⟩
  obtain ⟨g9, l9⟩ := res
  have HN := Lib.hid hn
  have HGD := Lib.hid (And.intro hG ho)
  have HRUN := Lib.hid (show (foldP (fun out (x : Int) => addP out [x]) (l.drop 0) []).run gs = (g9, l9) from by rw [← hres]; rfl)
  have HCL := Lib.hid (show gs.length + costC 0 n ≤ 850 from by rw [← hn]; exact hl)
  rw [hn] at h1 ⊢
  rw [hres]
  simp only
  have hg1 := World.grownBy_alloc w (.cells #[.slice aa gs.length cc] 32) none
  have hcb0 := CB.new h
  obtain ⟨W1, hW1⟩ : ∃ z, w.alloc (.cells #[.slice aa gs.length cc] 32) = z := ⟨_, rfl⟩
  rw [hW1] at hg1 hcb0
  have hg2 := World.grownBy_alloc W1 (.cells #[.slice none 0 0] 32) none
  have hz := BoxZ.new W1
  obtain ⟨W2, hW2⟩ : ∃ z, W1.alloc (.cells #[.slice none 0 0] 32) = z := ⟨_, rfl⟩
  rw [hW2] at hg2 hz
  obtain ⟨bc, hbc⟩ : ∃ z, w.heap.size = z := ⟨_, rfl⟩
  obtain ⟨bR, hbR⟩ : ∃ z, W1.heap.size = z := ⟨_, rfl⟩
  rw [hbc] at hcb0
  rw [hbR] at hz
  have hcl : bc < W1.heap.size := lies_lt hcb0.1
  have HLO := Lib.hid (show w.heap.size ≤ bc ∧ w.heap.size ≤ bR ∧ bc ≠ bR from ⟨by omega, by have := hg1.size; omega, by omega⟩)
  have HMG := Lib.hid (show MgS w bc bR W2 aa cc gs from ⟨hcb0.grown hg2, hz, World.grownBy.trans hg1 hg2⟩)
  have HRA := Lib.hid ha
  clear h ha hG ho hl hn hres hg1 hcb0 hg2 hz hcl
  go_enter Try.func19, Try.ntmps19
  go_upto_region 2 with fail
  clear hW1 hW2 hbc hbR
  have hgw := World.grownBy_alloc W2 (.cells #[] 3) none
  have HW3 := Lib.hid (HMG.out.grown hgw)
  obtain ⟨B, hB⟩ : ∃ z, W2.heap.size = z := ⟨_, rfl⟩
  obtain ⟨W3, hW3⟩ : ∃ z, W2.alloc (.cells #[] 3) = z := ⟨_, rfl⟩
  rw [hW3] at HW3 ⊢
  rw [hB]
  clear hW3 hgw HMG hB
  go_wp2_with fail
  go_loopg [6, 7] n (fun gk s6 s7 wr => ∃ (i : Nat) (vo : Option Addr) (co : Nat) (out : List Int) (g : List Gt) (ac : Option Addr) (cg : Nat), s6 = .slice vo i co ∧ s7 = .int .i64 (i : Int) ∧ gk = n - i ∧ i ≤ n ∧ (foldP (fun out (x : Int) => addP out [x]) (l.drop i) out).run g = (g9, l9) ∧ out.length = i ∧ (Good g ∧ (∀ r ∈ l, Ok g r) ∧ (∀ r ∈ out, Ok g r) ∧ g.length + costC i (n - i) ≤ 850) ∧ MgS w bc bR wr ac cg g ∧ IntsW wr vo co out)
  case atStart => exact ⟨0, _, _, [], gs, aa, cc, rfl, rfl, rfl, Nat.zero_le _, HRUN.out, rfl, ⟨HGD.out.1, HGD.out.2, by simp, HCL.out⟩, HW3.out, intsW_nil _ _ _⟩
  case round =>
    obtain ⟨i, vo, co, out, g, ac, cg, rfl, rfl, hgk, hin, hrun, hol, hgl, hst, hrow⟩ := hrel
    have HI := Lib.hid hgk; clear hgk
    have HRU := Lib.hid hrun; clear hrun
    have HOL := Lib.hid hol; clear hol
    have HGL := Lib.hid hgl; clear hgl
    have HMS := Lib.hid hst; clear hst
    have HRO := Lib.hid hrow; clear hrow
    obtain ⟨wp, hwp⟩ : ∃ z, z = wr := ⟨_, rfl⟩
    rw [← hwp] at HMS HRO ⊢
    clear hwp
    by_cases hi : i < n
    · have f1 : decide (i < n) = true := decide_eq_true hi
      have f2 : decide ((i : Int) < (n : Int)) = true := decide_eq_true (by omega)
      have hk1 : IntKind.i64.wrap ((i : Int) + 1) = ((i + 1 : Nat) : Int) := by rw [IntWalk.i64_in _ (by omega)]; omega
      have hj0 : (0 : Int) ≤ (i : Int) := by omega
      have hj1 : (i : Int) < (n : Int) := by omega
      obtain ⟨x, hx⟩ : ∃ x, l[i]? = some x := ⟨_, List.getElem?_eq_getElem (by rw [HN.out]; exact hi)⟩
      obtain ⟨bi, oi, rfl, x0⟩ := (HRA.out.grown HMS.out.go).at hx
      have HX0 := Lib.hid x0
      obtain ⟨rr, hrr⟩ : ∃ r, (addP out [x]).run g = r := ⟨_, rfl⟩
      obtain ⟨g1, l1⟩ := rr
      have hdrop : l.drop i = x :: l.drop (i + 1) := by
        have := List.drop_eq_getElem_cons (l := l) (i := i) (by rw [HN.out]; exact hi)
        rw [this]
        congr 1
        exact Option.some.inj ((List.getElem?_eq_getElem (by rw [HN.out]; exact hi)).symm.trans hx)
      have HRU2 := Lib.hid (show (foldP (fun out (x : Int) => addP out [x]) (l.drop (i + 1)) l1).run g1 = (g9, l9) from by
        have h := HRU.out
        rw [hdrop, run_foldP_cons, hrr] at h
        exact h)
      have hcc : costC i (n - i) = costA i 1 + costC (i + 1) (n - (i + 1)) := by
        obtain ⟨m, hm⟩ : ∃ m, n - i = m + 1 := ⟨n - i - 1, by omega⟩
        rw [hm, show n - (i + 1) = m by omega]
        rfl
      have hxok : ∀ r ∈ [x], Ok g r := fun r hr => by rw [List.mem_singleton.1 hr]; exact HGL.out.2.1 x (List.mem_of_getElem? hx)
      have hs := Pr.safe_run _ (safe_addP HGL.out.1 HGL.out.2.2.1 hxok (by rw [HOL.out]; show _ + costA i 1 ≤ _; have := HGL.out.2.2.2; omega))
      rw [hrr, HOL.out] at hs
      have hs1 : Grew g (costA i 1) g1 := hs.1
      have HL1 := Lib.hid (show l1.length = i + 1 from hs.2.2.1)
      have HGL2 := Lib.hid (show Good g1 ∧ (∀ r ∈ l, Ok g1 r) ∧ (∀ r ∈ l1, Ok g1 r) ∧ g1.length + costC (i + 1) (n - (i + 1)) ≤ 850 from ⟨hs1.good, fun r hr => hs1.ok (HGL.out.2.1 r hr), hs.2.1, by have := HGL.out.2.2.2; have := hs1.len; omega⟩)
      have HMC := Lib.hid (merge_n HOL.out (show [x].length = 1 from rfl) hrr HGL.out.1 (fun r hr => ok_i64 (by have := HGL.out.2.2.2; omega) (HGL.out.2.2.1 r hr)) (fun r hr => ok_i64 (by have := HGL.out.2.2.2; omega) (hxok r hr)) (by rw [HOL.out]; show _ + costA i 1 ≤ _; have := HGL.out.2.2.2; omega) (by rw [HOL.out]; omega) (by simp))
      clear hx hrr hdrop hcc hxok hs hs1 x0
      go_upto_region 5 with fail
      clear f1 f2
      go_cut [8, 9] (fun s0 s1 wx => ∃ b a c vo2 co2, s0 = .pointer (some ⟨b, 0, none⟩) ∧ s1 = .slice vo2 (i + 1) co2 ∧ CB wx b a c g1 ∧ IntsW wx vo2 co2 l1 ∧ wp.grownBy wx none)
      case first =>
        have HS := Lib.hid (fun (Wh : World) (hWh : wp.grownBy Wh none) => (⟨hWh, hWh.cell HMS.out.cb.1 (by simp), hWh.cell HX0.out (by simp)⟩ : (fun Wh : World => wp.grownBy Wh none ∧ Wh.cell? ⟨bc, 0, none⟩ = some (.slice ac g.length cg) ∧ Wh.cell? ⟨bi, oi + i, none⟩ = some (.int .i64 x)) Wh))
        have hdr : wp.grownBy wp.drew none := ⟨rfl, rfl, rfl, Nat.le_refl _, fun _ _ _ => rfl⟩
        refine wp_region_held_drew (S := (fun Wh : World => wp.grownBy Wh none ∧ Wh.cell? ⟨bc, 0, none⟩ = some (.slice ac g.length cg) ∧ Wh.cell? ⟨bi, oi + i, none⟩ = some (.int .i64 x))) (by kernel_rfl) (HS.out _ hdr) (fun hHeld => ?_)
        refine wpAnyH_take (i := 0) (oi := { dst := some 18, op := Op.load 32 (Operand.tmp 2), type := 32, pos := "ref.go:100", after := #[], guard := none }) (v := ?_) rfl (by kernel_rfl) (by kernel_rfl) (by kernel_rfl) (fun _ _ _ h => h) (Or.inl ⟨by rfl, ?_⟩) (by assumption) ?_
        rotate_left 1
        · (intro W hSW; (try dsimp only at hSW); first | (go_simp; done) | (go_simp; with_reducible rfl))
        try simp only [Act.put, List.setIfInBounds_toArray, List.set_cons_zero, List.set_cons_succ]
        refine wpAnyH_take (i := 1) (oi := { dst := some 19, op := Op.move (Operand.tmp 6), type := 33, pos := "ref.go:100", after := #[], guard := none }) (v := ?_) rfl (by kernel_rfl) (by kernel_rfl) (by kernel_rfl) (fun _ _ _ h => h) (Or.inl ⟨by rfl, ?_⟩) (by assumption) ?_
        rotate_left 1
        · (intro W hSW; (try dsimp only at hSW); first | (go_simp; done) | (go_simp; with_reducible rfl))
        try simp only [Act.put, List.setIfInBounds_toArray, List.set_cons_zero, List.set_cons_succ]
        refine wpAnyH_take (i := 2) (oi := { dst := some 20, op := Op.move (Operand.tmp 1), type := 33, pos := "ref.go:100", after := #[], guard := none }) (v := ?_) rfl (by kernel_rfl) (by kernel_rfl) (by kernel_rfl) (fun _ _ _ h => h) (Or.inl ⟨by rfl, ?_⟩) (by assumption) ?_
        rotate_left 1
        · (intro W hSW; (try dsimp only at hSW); first | (go_simp; done) | (go_simp; with_reducible rfl))
        try simp only [Act.put, List.setIfInBounds_toArray, List.set_cons_zero, List.set_cons_succ]
        refine wpAnyH_take (i := 3) (oi := { dst := some 21, op := Op.move (Operand.tmp 7), type := 3, pos := "ref.go:100", after := #[], guard := none }) (v := ?_) rfl (by kernel_rfl) (by kernel_rfl) (by kernel_rfl) (fun _ _ _ h => h) (Or.inl ⟨by rfl, ?_⟩) (by assumption) ?_
        rotate_left 1
        · (intro W hSW; (try dsimp only at hSW); first | (go_simp; done) | (go_simp; with_reducible rfl))
        try simp only [Act.put, List.setIfInBounds_toArray, List.set_cons_zero, List.set_cons_succ]
        refine wpAnyH_take (i := 4) (oi := { dst := some 22, op := Op.indexAddr 33 (Operand.tmp 20) (Operand.tmp 21), type := 0, pos := "ref.go:100", after := #[{ on := 2, ground := Ground.data }, { on := 3, ground := Ground.data }], guard := none }) (v := ?_) rfl (by kernel_rfl) (by kernel_rfl) (by kernel_rfl) (fun _ _ _ h => h) (Or.inl ⟨by rfl, ?_⟩) (by assumption) ?_
        rotate_left 1
        · (intro W hSW; (try dsimp only at hSW); first | (go_simp; done) | (go_simp; with_reducible rfl))
        try simp only [Act.put, List.setIfInBounds_toArray, List.set_cons_zero, List.set_cons_succ]
        refine wpAnyH_take (i := 5) (oi := { dst := some 23, op := Op.load 3 (Operand.tmp 22), type := 3, pos := "ref.go:100", after := #[{ on := 4, ground := Ground.data }], guard := none }) (v := ?_) rfl (by kernel_rfl) (by kernel_rfl) (by kernel_rfl) (fun _ _ _ h => h) (Or.inl ⟨by rfl, ?_⟩) (by assumption) ?_
        rotate_left 1
        · (intro W hSW; (try dsimp only at hSW); first | (go_simp; done) | (go_simp; with_reducible rfl))
        try simp only [Act.put, List.setIfInBounds_toArray, List.set_cons_zero, List.set_cons_succ]
        refine wpAnyH_ready (rs := [6, 11]) (by kernel_rfl) (by simp) ?_
        refine (AllReadyH.cons (o := { dst := some 24, op := Op.buildSlice 33 1 #[(0, Operand.tmp 23)], type := 33, pos := "ref.go:100", after := #[{ on := 5, ground := Ground.data }], guard := none }) rfl (fun K hK => ?_) (AllReadyH.cons (o := { dst := some 8, op := Op.alloc 32, type := 0, pos := "ref.go:100", after := #[], guard := none }) rfl (fun K hK => ?_) AllReadyH.nil))
        · rw [if_pos (by rfl)]
          go_simp
          have hgWB0 : wp.grownBy ((World.alloc wp (.cells #[.int .i64 x] 3)).drew) none := World.grownBy.trans (World.grownBy_alloc wp (.cells #[.int .i64 x] 3) none) (⟨rfl, rfl, rfl, Nat.le_refl _, fun _ _ _ => rfl⟩ : (World.alloc wp (.cells #[.int .i64 x] 3)).grownBy (World.alloc wp (.cells #[.int .i64 x] 3)).drew none)
          have hgeWB00 : wp.heap.size ≤ wp.heap.size := Nat.le_refl _
          have hgeWB0 : ∀ p, wp.heap.size = p → wp.heap.size ≤ p := fun p e => by rw [← e]; exact hgeWB00
          clear hgeWB00
          have hs0 : IntsW ((World.alloc wp (.cells #[.int .i64 x] 3)).drew) (some ⟨wp.heap.size, 0, none⟩) 1 [x] := (ints_one wp x).grown (⟨rfl, rfl, rfl, Nat.le_refl _, fun _ _ _ => rfl⟩ : (World.alloc wp (.cells #[.int .i64 x] 3)).grownBy (World.alloc wp (.cells #[.int .i64 x] 3)).drew none)
          obtain ⟨WB0, hWB0⟩ : ∃ z, (World.alloc wp (.cells #[.int .i64 x] 3)).drew = z := ⟨_, rfl⟩
          rw [hWB0] at hgWB0 hs0 ⊢
          clear hWB0
          obtain ⟨pB0, hpB0⟩ : ∃ p, wp.heap.size = p := ⟨_, rfl⟩
          replace hgeWB0 := hgeWB0 pB0 hpB0
          rw [hpB0] at hs0 ⊢
          clear hpB0
          refine hK.out _ _ (HS.out _ hgWB0) (fun hHeld => ?_)
          clear hK K
          try simp only [Act.put, List.setIfInBounds_toArray, List.set_cons_zero, List.set_cons_succ]
          refine wpAnyH_ready (rs := [7, 11]) (by kernel_rfl) (by simp) ?_
          refine (AllReadyH.cons (o := { dst := some 25, op := Op.call { callee := Callee.value (Operand.func 43), args := #[Operand.tmp 18, Operand.tmp 19, Operand.tmp 24], argTypes := #[32, 33, 33] }, type := 37, pos := "ref.go:100", after := #[{ on := 0, ground := Ground.data }, { on := 1, ground := Ground.data }, { on := 6, ground := Ground.data }], guard := none }) rfl (fun K hK => ?_) (AllReadyH.cons (o := { dst := some 8, op := Op.alloc 32, type := 0, pos := "ref.go:100", after := #[], guard := none }) rfl (fun K hK => ?_) AllReadyH.nil))
          · rw [if_pos (by rfl)]
            go_simp
            go_at_call 43
            refine (HMC.out _ ac cg vo co (some ⟨pB0, 0, none⟩) 1 ((HMS.out.cb.grown hgWB0).2.2) (HRO.out.grown hgWB0) hs0).mono ?_
            rintro e wM ⟨aM, cM, vo2, co2, rfl, hr, hrow, gM⟩
            have hgM := World.grownBy.trans hgWB0 gM
            replace hs0 := hs0.grown gM
            go_wp2_with fail
            refine hK.out _ _ (HS.out _ hgM) (fun hHeld => ?_)
            clear hK K
            try simp only [Act.put, List.setIfInBounds_toArray, List.set_cons_zero, List.set_cons_succ]
            refine wpAnyH_take (i := 8) (oi := { dst := some 17, op := Op.move (Operand.tmp 25), type := 37, pos := "ref.go:100", after := #[{ on := 7, ground := Ground.data }], guard := none }) (v := ?_) rfl (by kernel_rfl) (by kernel_rfl) (by kernel_rfl) (fun _ _ _ h => h) (Or.inl ⟨by rfl, ?_⟩) (by assumption) ?_
            rotate_left 1
            · (intro W hSW; (try dsimp only at hSW); first | (go_simp; done) | (go_simp; with_reducible rfl))
            try simp only [Act.put, List.setIfInBounds_toArray, List.set_cons_zero, List.set_cons_succ]
            refine wpAnyH_take (i := 9) (oi := { dst := some 26, op := Op.extract (Operand.tmp 17) 0, type := 32, pos := "ref.go:100", after := #[{ on := 8, ground := Ground.data }], guard := none }) (v := ?_) rfl (by kernel_rfl) (by kernel_rfl) (by kernel_rfl) (fun _ _ _ h => h) (Or.inl ⟨by rfl, ?_⟩) (by assumption) ?_
            rotate_left 1
            · (intro W hSW; (try dsimp only at hSW); first | (go_simp; done) | (go_simp; with_reducible rfl))
            try simp only [Act.put, List.setIfInBounds_toArray, List.set_cons_zero, List.set_cons_succ]
            refine wpAnyH_take (i := 10) (oi := { dst := some 27, op := Op.extract (Operand.tmp 17) 1, type := 33, pos := "ref.go:100", after := #[{ on := 8, ground := Ground.data }, { on := 12, ground := Ground.gcOnly Departure.lateStores }], guard := none }) (v := ?_) rfl (by kernel_rfl) (by kernel_rfl) (by kernel_rfl) (fun _ _ _ h => h) (Or.inl ⟨by rfl, ?_⟩) (by assumption) ?_
            rotate_left 1
            · (intro W hSW; (try dsimp only at hSW); first | (go_simp; done) | (go_simp; with_reducible rfl))
            try simp only [Act.put, List.setIfInBounds_toArray, List.set_cons_zero, List.set_cons_succ]
            refine wpAnyH_ready (rs := [11]) (by kernel_rfl) (by simp) ?_
            refine (AllReadyH.cons (o := { dst := some 8, op := Op.alloc 32, type := 0, pos := "ref.go:100", after := #[], guard := none }) rfl (fun K hK => ?_) AllReadyH.nil)
            rw [if_pos (by rfl)]
            go_simp
            have hgWA : wp.grownBy (World.alloc wM (.cells #[.slice none 0 0] 32)) none := World.grownBy.trans hgM (World.grownBy_alloc wM (.cells #[.slice none 0 0] 32) none)
            have hgeWA0 : wp.heap.size ≤ wM.heap.size := World.grownBy.size hgM
            have hgeWA : ∀ p, wM.heap.size = p → wp.heap.size ≤ p := fun p e => by rw [← e]; exact hgeWA0
            clear hgeWA0
            have hz : BoxZ (World.alloc wM (.cells #[.slice none 0 0] 32)) (wM.heap.size) := (BoxZ.new wM)
            replace hs0 := hs0.grown (World.grownBy_alloc wM (.cells #[.slice none 0 0] 32) none)
            replace hr := hr.grown (World.grownBy_alloc wM (.cells #[.slice none 0 0] 32) none)
            replace hrow := hrow.grown (World.grownBy_alloc wM (.cells #[.slice none 0 0] 32) none)
            obtain ⟨WA, hWA⟩ : ∃ z, World.alloc wM (.cells #[.slice none 0 0] 32) = z := ⟨_, rfl⟩
            rw [hWA] at hgWA hs0 hr hrow hz ⊢
            clear hWA
            obtain ⟨pA, hpA⟩ : ∃ p, wM.heap.size = p := ⟨_, rfl⟩
            replace hgeWA := hgeWA pA hpA
            rw [hpA] at hz ⊢
            clear hpA
            refine hK.out _ _ (HS.out _ hgWA) (fun hHeld => ?_)
            clear hK K
            try simp only [Act.put, List.setIfInBounds_toArray, List.set_cons_zero, List.set_cons_succ]
            refine wpAnyH_ready (rs := [12]) (by kernel_rfl) (by simp) ?_
            refine (AllReadyH.cons (o := { dst := none, op := Op.store 32 (Operand.tmp 8) (Operand.tmp 26), type := 0, pos := "ref.go:100", after := #[{ on := 11, ground := Ground.data }, { on := 9, ground := Ground.data }, { on := 7, ground := Ground.chain }, { on := 0, ground := Ground.phase }, { on := 1, ground := Ground.phase }, { on := 2, ground := Ground.phase }, { on := 3, ground := Ground.phase }, { on := 4, ground := Ground.phase }, { on := 5, ground := Ground.phase }, { on := 6, ground := Ground.phase }, { on := 7, ground := Ground.phase }, { on := 8, ground := Ground.phase }, { on := 9, ground := Ground.phase }, { on := 10, ground := Ground.textOnly Departure.lateStores }, { on := 11, ground := Ground.phase }], guard := none }) rfl (fun K hK => ?_) AllReadyH.nil)
            rw [if_pos (by rfl)]
            have z0 := hz.1
            have zf := hz.2
            go_simp
            clear z0 zf
            have hcb := CB.put hr hz.1 hz.2
            have hrows := hrow.set hz.1 (.slice aM g1.length cM)
            have hgS := grown_own hgWA (grown_set WA pA 0 (.slice aM g1.length cM)) (fun k hk => by cases hk; exact hgeWA)
            obtain ⟨WS, hWS⟩ : ∃ z, World.setCell WA ⟨pA, 0, none⟩ (.slice aM g1.length cM) = z := ⟨_, rfl⟩
            rw [hWS] at hcb hgS hrows ⊢
            clear hWS
            refine hK.out _ _ (HS.out _ hgS) (fun hHeld => ?_)
            clear hK K
            try simp only [Act.put, List.setIfInBounds_toArray, List.set_cons_zero, List.set_cons_succ]
            refine wpAnyH_take (i := 13) (oi := { dst := some 9, op := Op.assign (Operand.tmp 27), type := 33, pos := "ref.go:100", after := #[{ on := 10, ground := Ground.data }, { on := 12, ground := Ground.chain }, { on := 0, ground := Ground.phase }, { on := 1, ground := Ground.phase }, { on := 2, ground := Ground.phase }, { on := 3, ground := Ground.phase }, { on := 4, ground := Ground.phase }, { on := 5, ground := Ground.phase }, { on := 6, ground := Ground.phase }, { on := 7, ground := Ground.phase }, { on := 8, ground := Ground.phase }, { on := 9, ground := Ground.phase }, { on := 10, ground := Ground.phase }, { on := 11, ground := Ground.phase }, { on := 12, ground := Ground.phase }], guard := none }) (v := ?_) rfl (by kernel_rfl) (by kernel_rfl) (by kernel_rfl) (fun _ _ _ h => h) (Or.inl ⟨by rfl, ?_⟩) (by assumption) ?_
            rotate_left 1
            · (intro W hSW; (try dsimp only at hSW); first | (go_simp; done) | (go_simp; with_reducible rfl))
            try simp only [Act.put, List.setIfInBounds_toArray, List.set_cons_zero, List.set_cons_succ]
            refine wpAnyH_done (by kernel_rfl) ?_ _
            have hEND := hgS
            clear hHeld
            go_wp2_with fail
            go_meet
            exact ⟨pA, aM, cM, vo2, co2, rfl, by rw [HL1.out], hcb, hrows, hEND⟩
          · rw [if_pos (by rfl)]
            go_simp
            have hgWA : wp.grownBy (World.alloc WB0 (.cells #[.slice none 0 0] 32)) none := World.grownBy.trans hgWB0 (World.grownBy_alloc WB0 (.cells #[.slice none 0 0] 32) none)
            have hgeWA0 : wp.heap.size ≤ WB0.heap.size := World.grownBy.size hgWB0
            have hgeWA : ∀ p, WB0.heap.size = p → wp.heap.size ≤ p := fun p e => by rw [← e]; exact hgeWA0
            clear hgeWA0
            have hz : BoxZ (World.alloc WB0 (.cells #[.slice none 0 0] 32)) (WB0.heap.size) := (BoxZ.new WB0)
            replace hs0 := hs0.grown (World.grownBy_alloc WB0 (.cells #[.slice none 0 0] 32) none)
            obtain ⟨WA, hWA⟩ : ∃ z, World.alloc WB0 (.cells #[.slice none 0 0] 32) = z := ⟨_, rfl⟩
            rw [hWA] at hgWA hs0 hz ⊢
            clear hWA
            obtain ⟨pA, hpA⟩ : ∃ p, WB0.heap.size = p := ⟨_, rfl⟩
            replace hgeWA := hgeWA pA hpA
            rw [hpA] at hz ⊢
            clear hpA
            refine hK.out _ _ (HS.out _ hgWA) (fun hHeld => ?_)
            clear hK K
            try simp only [Act.put, List.setIfInBounds_toArray, List.set_cons_zero, List.set_cons_succ]
            refine wpAnyH_ready (rs := [7]) (by kernel_rfl) (by simp) ?_
            refine (AllReadyH.cons (o := { dst := some 25, op := Op.call { callee := Callee.value (Operand.func 43), args := #[Operand.tmp 18, Operand.tmp 19, Operand.tmp 24], argTypes := #[32, 33, 33] }, type := 37, pos := "ref.go:100", after := #[{ on := 0, ground := Ground.data }, { on := 1, ground := Ground.data }, { on := 6, ground := Ground.data }], guard := none }) rfl (fun K hK => ?_) AllReadyH.nil)
            rw [if_pos (by rfl)]
            go_simp
            go_at_call 43
            refine (HMC.out _ ac cg vo co (some ⟨pB0, 0, none⟩) 1 ((HMS.out.cb.grown hgWA).2.2) (HRO.out.grown hgWA) hs0).mono ?_
            rintro e wM ⟨aM, cM, vo2, co2, rfl, hr, hrow, gM⟩
            have hgM := World.grownBy.trans hgWA gM
            replace hs0 := hs0.grown gM
            replace hz := hz.grown gM
            go_wp2_with fail
            refine hK.out _ _ (HS.out _ hgM) (fun hHeld => ?_)
            clear hK K
            try simp only [Act.put, List.setIfInBounds_toArray, List.set_cons_zero, List.set_cons_succ]
            refine wpAnyH_take (i := 8) (oi := { dst := some 17, op := Op.move (Operand.tmp 25), type := 37, pos := "ref.go:100", after := #[{ on := 7, ground := Ground.data }], guard := none }) (v := ?_) rfl (by kernel_rfl) (by kernel_rfl) (by kernel_rfl) (fun _ _ _ h => h) (Or.inl ⟨by rfl, ?_⟩) (by assumption) ?_
            rotate_left 1
            · (intro W hSW; (try dsimp only at hSW); first | (go_simp; done) | (go_simp; with_reducible rfl))
            try simp only [Act.put, List.setIfInBounds_toArray, List.set_cons_zero, List.set_cons_succ]
            refine wpAnyH_take (i := 9) (oi := { dst := some 26, op := Op.extract (Operand.tmp 17) 0, type := 32, pos := "ref.go:100", after := #[{ on := 8, ground := Ground.data }], guard := none }) (v := ?_) rfl (by kernel_rfl) (by kernel_rfl) (by kernel_rfl) (fun _ _ _ h => h) (Or.inl ⟨by rfl, ?_⟩) (by assumption) ?_
            rotate_left 1
            · (intro W hSW; (try dsimp only at hSW); first | (go_simp; done) | (go_simp; with_reducible rfl))
            try simp only [Act.put, List.setIfInBounds_toArray, List.set_cons_zero, List.set_cons_succ]
            refine wpAnyH_take (i := 10) (oi := { dst := some 27, op := Op.extract (Operand.tmp 17) 1, type := 33, pos := "ref.go:100", after := #[{ on := 8, ground := Ground.data }, { on := 12, ground := Ground.gcOnly Departure.lateStores }], guard := none }) (v := ?_) rfl (by kernel_rfl) (by kernel_rfl) (by kernel_rfl) (fun _ _ _ h => h) (Or.inl ⟨by rfl, ?_⟩) (by assumption) ?_
            rotate_left 1
            · (intro W hSW; (try dsimp only at hSW); first | (go_simp; done) | (go_simp; with_reducible rfl))
            try simp only [Act.put, List.setIfInBounds_toArray, List.set_cons_zero, List.set_cons_succ]
            refine wpAnyH_ready (rs := [12]) (by kernel_rfl) (by simp) ?_
            refine (AllReadyH.cons (o := { dst := none, op := Op.store 32 (Operand.tmp 8) (Operand.tmp 26), type := 0, pos := "ref.go:100", after := #[{ on := 11, ground := Ground.data }, { on := 9, ground := Ground.data }, { on := 7, ground := Ground.chain }, { on := 0, ground := Ground.phase }, { on := 1, ground := Ground.phase }, { on := 2, ground := Ground.phase }, { on := 3, ground := Ground.phase }, { on := 4, ground := Ground.phase }, { on := 5, ground := Ground.phase }, { on := 6, ground := Ground.phase }, { on := 7, ground := Ground.phase }, { on := 8, ground := Ground.phase }, { on := 9, ground := Ground.phase }, { on := 10, ground := Ground.textOnly Departure.lateStores }, { on := 11, ground := Ground.phase }], guard := none }) rfl (fun K hK => ?_) AllReadyH.nil)
            rw [if_pos (by rfl)]
            have z0 := hz.1
            have zf := hz.2
            go_simp
            clear z0 zf
            have hcb := CB.put hr hz.1 hz.2
            have hrows := hrow.set hz.1 (.slice aM g1.length cM)
            have hgS := grown_own hgM (grown_set wM pA 0 (.slice aM g1.length cM)) (fun k hk => by cases hk; exact hgeWA)
            obtain ⟨WS, hWS⟩ : ∃ z, World.setCell wM ⟨pA, 0, none⟩ (.slice aM g1.length cM) = z := ⟨_, rfl⟩
            rw [hWS] at hcb hgS hrows ⊢
            clear hWS
            refine hK.out _ _ (HS.out _ hgS) (fun hHeld => ?_)
            clear hK K
            try simp only [Act.put, List.setIfInBounds_toArray, List.set_cons_zero, List.set_cons_succ]
            refine wpAnyH_take (i := 13) (oi := { dst := some 9, op := Op.assign (Operand.tmp 27), type := 33, pos := "ref.go:100", after := #[{ on := 10, ground := Ground.data }, { on := 12, ground := Ground.chain }, { on := 0, ground := Ground.phase }, { on := 1, ground := Ground.phase }, { on := 2, ground := Ground.phase }, { on := 3, ground := Ground.phase }, { on := 4, ground := Ground.phase }, { on := 5, ground := Ground.phase }, { on := 6, ground := Ground.phase }, { on := 7, ground := Ground.phase }, { on := 8, ground := Ground.phase }, { on := 9, ground := Ground.phase }, { on := 10, ground := Ground.phase }, { on := 11, ground := Ground.phase }, { on := 12, ground := Ground.phase }], guard := none }) (v := ?_) rfl (by kernel_rfl) (by kernel_rfl) (by kernel_rfl) (fun _ _ _ h => h) (Or.inl ⟨by rfl, ?_⟩) (by assumption) ?_
            rotate_left 1
            · (intro W hSW; (try dsimp only at hSW); first | (go_simp; done) | (go_simp; with_reducible rfl))
            try simp only [Act.put, List.setIfInBounds_toArray, List.set_cons_zero, List.set_cons_succ]
            refine wpAnyH_done (by kernel_rfl) ?_ _
            have hEND := hgS
            clear hHeld
            go_wp2_with fail
            go_meet
            exact ⟨pA, aM, cM, vo2, co2, rfl, by rw [HL1.out], hcb, hrows, hEND⟩
        · rw [if_pos (by rfl)]
          go_simp
          have hgWA : wp.grownBy ((World.alloc wp (.cells #[.slice none 0 0] 32)).drew) none := World.grownBy.trans (World.grownBy_alloc wp (.cells #[.slice none 0 0] 32) none) (⟨rfl, rfl, rfl, Nat.le_refl _, fun _ _ _ => rfl⟩ : (World.alloc wp (.cells #[.slice none 0 0] 32)).grownBy (World.alloc wp (.cells #[.slice none 0 0] 32)).drew none)
          have hgeWA0 : wp.heap.size ≤ wp.heap.size := Nat.le_refl _
          have hgeWA : ∀ p, wp.heap.size = p → wp.heap.size ≤ p := fun p e => by rw [← e]; exact hgeWA0
          clear hgeWA0
          have hz : BoxZ ((World.alloc wp (.cells #[.slice none 0 0] 32)).drew) (wp.heap.size) := (BoxZ.new wp).grown (⟨rfl, rfl, rfl, Nat.le_refl _, fun _ _ _ => rfl⟩ : (World.alloc wp (.cells #[.slice none 0 0] 32)).grownBy (World.alloc wp (.cells #[.slice none 0 0] 32)).drew none)
          obtain ⟨WA, hWA⟩ : ∃ z, (World.alloc wp (.cells #[.slice none 0 0] 32)).drew = z := ⟨_, rfl⟩
          rw [hWA] at hgWA hz ⊢
          clear hWA
          obtain ⟨pA, hpA⟩ : ∃ p, wp.heap.size = p := ⟨_, rfl⟩
          replace hgeWA := hgeWA pA hpA
          rw [hpA] at hz ⊢
          clear hpA
          refine hK.out _ _ (HS.out _ hgWA) (fun hHeld => ?_)
          clear hK K
          try simp only [Act.put, List.setIfInBounds_toArray, List.set_cons_zero, List.set_cons_succ]
          refine wpAnyH_ready (rs := [6]) (by kernel_rfl) (by simp) ?_
          refine (AllReadyH.cons (o := { dst := some 24, op := Op.buildSlice 33 1 #[(0, Operand.tmp 23)], type := 33, pos := "ref.go:100", after := #[{ on := 5, ground := Ground.data }], guard := none }) rfl (fun K hK => ?_) AllReadyH.nil)
          rw [if_pos (by rfl)]
          go_simp
          have hgWB0 : wp.grownBy (World.alloc WA (.cells #[.int .i64 x] 3)) none := World.grownBy.trans hgWA (World.grownBy_alloc WA (.cells #[.int .i64 x] 3) none)
          have hgeWB00 : wp.heap.size ≤ WA.heap.size := World.grownBy.size hgWA
          have hgeWB0 : ∀ p, WA.heap.size = p → wp.heap.size ≤ p := fun p e => by rw [← e]; exact hgeWB00
          clear hgeWB00
          have hs0 : IntsW (World.alloc WA (.cells #[.int .i64 x] 3)) (some ⟨WA.heap.size, 0, none⟩) 1 [x] := (ints_one WA x)
          replace hz := hz.grown (World.grownBy_alloc WA (.cells #[.int .i64 x] 3) none)
          obtain ⟨WB0, hWB0⟩ : ∃ z, World.alloc WA (.cells #[.int .i64 x] 3) = z := ⟨_, rfl⟩
          rw [hWB0] at hgWB0 hz hs0 ⊢
          clear hWB0
          obtain ⟨pB0, hpB0⟩ : ∃ p, WA.heap.size = p := ⟨_, rfl⟩
          replace hgeWB0 := hgeWB0 pB0 hpB0
          rw [hpB0] at hs0 ⊢
          clear hpB0
          refine hK.out _ _ (HS.out _ hgWB0) (fun hHeld => ?_)
          clear hK K
          try simp only [Act.put, List.setIfInBounds_toArray, List.set_cons_zero, List.set_cons_succ]
          refine wpAnyH_ready (rs := [7]) (by kernel_rfl) (by simp) ?_
          refine (AllReadyH.cons (o := { dst := some 25, op := Op.call { callee := Callee.value (Operand.func 43), args := #[Operand.tmp 18, Operand.tmp 19, Operand.tmp 24], argTypes := #[32, 33, 33] }, type := 37, pos := "ref.go:100", after := #[{ on := 0, ground := Ground.data }, { on := 1, ground := Ground.data }, { on := 6, ground := Ground.data }], guard := none }) rfl (fun K hK => ?_) AllReadyH.nil)
          rw [if_pos (by rfl)]
          go_simp
          go_at_call 43
          refine (HMC.out _ ac cg vo co (some ⟨pB0, 0, none⟩) 1 ((HMS.out.cb.grown hgWB0).2.2) (HRO.out.grown hgWB0) hs0).mono ?_
          rintro e wM ⟨aM, cM, vo2, co2, rfl, hr, hrow, gM⟩
          have hgM := World.grownBy.trans hgWB0 gM
          replace hz := hz.grown gM
          replace hs0 := hs0.grown gM
          go_wp2_with fail
          refine hK.out _ _ (HS.out _ hgM) (fun hHeld => ?_)
          clear hK K
          try simp only [Act.put, List.setIfInBounds_toArray, List.set_cons_zero, List.set_cons_succ]
          refine wpAnyH_take (i := 8) (oi := { dst := some 17, op := Op.move (Operand.tmp 25), type := 37, pos := "ref.go:100", after := #[{ on := 7, ground := Ground.data }], guard := none }) (v := ?_) rfl (by kernel_rfl) (by kernel_rfl) (by kernel_rfl) (fun _ _ _ h => h) (Or.inl ⟨by rfl, ?_⟩) (by assumption) ?_
          rotate_left 1
          · (intro W hSW; (try dsimp only at hSW); first | (go_simp; done) | (go_simp; with_reducible rfl))
          try simp only [Act.put, List.setIfInBounds_toArray, List.set_cons_zero, List.set_cons_succ]
          refine wpAnyH_take (i := 9) (oi := { dst := some 26, op := Op.extract (Operand.tmp 17) 0, type := 32, pos := "ref.go:100", after := #[{ on := 8, ground := Ground.data }], guard := none }) (v := ?_) rfl (by kernel_rfl) (by kernel_rfl) (by kernel_rfl) (fun _ _ _ h => h) (Or.inl ⟨by rfl, ?_⟩) (by assumption) ?_
          rotate_left 1
          · (intro W hSW; (try dsimp only at hSW); first | (go_simp; done) | (go_simp; with_reducible rfl))
          try simp only [Act.put, List.setIfInBounds_toArray, List.set_cons_zero, List.set_cons_succ]
          refine wpAnyH_take (i := 10) (oi := { dst := some 27, op := Op.extract (Operand.tmp 17) 1, type := 33, pos := "ref.go:100", after := #[{ on := 8, ground := Ground.data }, { on := 12, ground := Ground.gcOnly Departure.lateStores }], guard := none }) (v := ?_) rfl (by kernel_rfl) (by kernel_rfl) (by kernel_rfl) (fun _ _ _ h => h) (Or.inl ⟨by rfl, ?_⟩) (by assumption) ?_
          rotate_left 1
          · (intro W hSW; (try dsimp only at hSW); first | (go_simp; done) | (go_simp; with_reducible rfl))
          try simp only [Act.put, List.setIfInBounds_toArray, List.set_cons_zero, List.set_cons_succ]
          refine wpAnyH_ready (rs := [12]) (by kernel_rfl) (by simp) ?_
          refine (AllReadyH.cons (o := { dst := none, op := Op.store 32 (Operand.tmp 8) (Operand.tmp 26), type := 0, pos := "ref.go:100", after := #[{ on := 11, ground := Ground.data }, { on := 9, ground := Ground.data }, { on := 7, ground := Ground.chain }, { on := 0, ground := Ground.phase }, { on := 1, ground := Ground.phase }, { on := 2, ground := Ground.phase }, { on := 3, ground := Ground.phase }, { on := 4, ground := Ground.phase }, { on := 5, ground := Ground.phase }, { on := 6, ground := Ground.phase }, { on := 7, ground := Ground.phase }, { on := 8, ground := Ground.phase }, { on := 9, ground := Ground.phase }, { on := 10, ground := Ground.textOnly Departure.lateStores }, { on := 11, ground := Ground.phase }], guard := none }) rfl (fun K hK => ?_) AllReadyH.nil)
          rw [if_pos (by rfl)]
          have z0 := hz.1
          have zf := hz.2
          go_simp
          clear z0 zf
          have hcb := CB.put hr hz.1 hz.2
          have hrows := hrow.set hz.1 (.slice aM g1.length cM)
          have hgS := grown_own hgM (grown_set wM pA 0 (.slice aM g1.length cM)) (fun k hk => by cases hk; exact hgeWA)
          obtain ⟨WS, hWS⟩ : ∃ z, World.setCell wM ⟨pA, 0, none⟩ (.slice aM g1.length cM) = z := ⟨_, rfl⟩
          rw [hWS] at hcb hgS hrows ⊢
          clear hWS
          refine hK.out _ _ (HS.out _ hgS) (fun hHeld => ?_)
          clear hK K
          try simp only [Act.put, List.setIfInBounds_toArray, List.set_cons_zero, List.set_cons_succ]
          refine wpAnyH_take (i := 13) (oi := { dst := some 9, op := Op.assign (Operand.tmp 27), type := 33, pos := "ref.go:100", after := #[{ on := 10, ground := Ground.data }, { on := 12, ground := Ground.chain }, { on := 0, ground := Ground.phase }, { on := 1, ground := Ground.phase }, { on := 2, ground := Ground.phase }, { on := 3, ground := Ground.phase }, { on := 4, ground := Ground.phase }, { on := 5, ground := Ground.phase }, { on := 6, ground := Ground.phase }, { on := 7, ground := Ground.phase }, { on := 8, ground := Ground.phase }, { on := 9, ground := Ground.phase }, { on := 10, ground := Ground.phase }, { on := 11, ground := Ground.phase }, { on := 12, ground := Ground.phase }], guard := none }) (v := ?_) rfl (by kernel_rfl) (by kernel_rfl) (by kernel_rfl) (fun _ _ _ h => h) (Or.inl ⟨by rfl, ?_⟩) (by assumption) ?_
          rotate_left 1
          · (intro W hSW; (try dsimp only at hSW); first | (go_simp; done) | (go_simp; with_reducible rfl))
          try simp only [Act.put, List.setIfInBounds_toArray, List.set_cons_zero, List.set_cons_succ]
          refine wpAnyH_done (by kernel_rfl) ?_ _
          have hEND := hgS
          clear hHeld
          go_wp2_with fail
          go_meet
          exact ⟨pA, aM, cM, vo2, co2, rfl, by rw [HL1.out], hcb, hrows, hEND⟩
      obtain ⟨bd, ad, cd, vo2, co2, rfl, rfl, hcbd, hrow2, gwc⟩ := hcut
      obtain ⟨V3, rfl⟩ : ∃ z, z = wc := ⟨_, rfl⟩
      have HE := Lib.hid hcbd
      have HR2 := Lib.hid hrow2
      have HM2 := Lib.hid (HMS.out.grown gwc)
      clear hcbd hrow2 gwc
      go_upto_region 6 with fail
      have q2 := HE.out.1
      have z0 := HM2.out.cb.1
      have zf := HM2.out.cb.2.1
      have HM4 := Lib.hid (HM2.out.put HLO.out.1 HLO.out.2.2 HE.out.2.2)
      have HR4 := Lib.hid (HR2.out.set HM2.out.cb.1 (.slice ad g1.length cd))
      go_wp2_with fail
      clear q2 z0 zf
      go_roundg (n - (i + 1))
      case measure => rw [HI.out]; omega
      case rel => exact ⟨i + 1, vo2, co2, l1, g1, ad, cd, rfl, rfl, rfl, by omega, HRU2.out, HL1.out, HGL2.out, HM4.out, HR4.out⟩
    · have f1 : decide (i < n) = false := decide_eq_false hi
      have f2 : decide ((i : Int) < (n : Int)) = false := decide_eq_false (by omega)
      have hni : i = n := by omega
      have HFIN := Lib.hid (show out = l9 ∧ g = g9 from by
        have h := HRU.out
        rw [List.drop_eq_nil_of_le (by rw [HN.out]; omega)] at h
        injection h with h1 h2
        exact ⟨h2, h1⟩)
      clear hi hni
      have q1 := HMS.out.cb.1
      have z0 := HMS.out.z.1
      have zf := HMS.out.z.2
      have HFW := Lib.hid (HMS.out.cb.2.2.set HMS.out.z.1 (.slice ac g.length cg))
      have HFC := Lib.hid (World.cell?_setCell_same wp ⟨bR, 0, none⟩ (.slice ac g.length cg) HMS.out.z.1)
      have HFG := Lib.hid (grown_own HMS.out.go (grown_set wp bR 0 (.slice ac g.length cg)) (fun x e => by cases e; exact HLO.out.2.1))
      have HFR := Lib.hid (HRO.out.set HMS.out.z.1 (.slice ac g.length cg))
      go_wp2_with fail
      clear q1 z0 zf
      refine bodyPost_ret (resB19 _ _ bR ac g.length cg _ rfl rfl HFC.out) rfl ?_
      rw [← HFIN.out.1, ← HFIN.out.2]
      exact ⟨ac, cg, vo, co, by rw [HOL.out]; rfl, HFW.out, HFR.out, HFG.out⟩
end Go.Proofs.Ythagoihpppppkaa

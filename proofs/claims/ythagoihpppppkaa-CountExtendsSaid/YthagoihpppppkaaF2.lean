/- The reference: is a circuit well-formed? -/
import Derived.Test.YthagoihpppppkaaF1
namespace Go.Proofs.Ythagoihpppppkaa
open Go.RowKit

theorem rfind_len {gs : List Gt} (x : Gt) {a : Option Addr} {c n : Nat} {w : World} (hn : gs.length = n) (h : GatesR w a c gs) (hl : gs.length ≤ 2000) :
    Calls Try.prog 62 #[.agg #[.slice a n c], gv x] w fun e w' => e = .returned (.int .i64 (locI x gs)) ∧ w.grownBy w' none := by
  subst hn
  exact rfind_calls gs x a c w h hl
/-- The gates from 1 to k are formed, and each is the first of its kind. -/
def FormTo (gs : List Gt) (k : Nat) : Prop := ∀ (i : Nat) (g : Gt), 1 ≤ i → i < k → gs[i]? = some g → formG g i ∧ locG g gs = some i
theorem FormTo.good {gs : List Gt} (h0 : gs[0]? = some (0, 0, 0)) (h : FormTo gs gs.length) : Good gs := by
  have hl : ∀ (i : Nat) (g : Gt), gs[i]? = some g → i < gs.length := fun i g e => (List.getElem?_eq_some_iff.1 e).1
  have hz : ∀ (j : Nat) (g : Gt), 1 ≤ j → gs[j]? = some g → gs[0]? = some g → False := fun j g hj e e0 => by
    have := (h j g hj (hl _ _ e) e).2
    rw [locG_first e0 (fun j hj => by omega)] at this
    injection this with this
    omega
  refine ⟨h0, fun i g hi e => (h i g hi (hl _ _ e) e).1, fun i j g e1 e2 => ?_⟩
  cases i with
  | zero =>
    cases j with
    | zero => rfl
    | succ j => exact (hz _ _ (by omega) e2 e1).elim
  | succ i =>
    cases j with
    | zero => exact (hz _ _ (by omega) e1 e2).elim
    | succ j =>
      have h1 := (h _ _ (by omega) (hl _ _ e1) e1).2
      have h2 := (h _ _ (by omega) (hl _ _ e2) e2).2
      rw [h1] at h2
      injection h2

theorem loc_le {x : Gt} : ∀ {gs : List Gt} {k : Nat}, gs[k]? = some x → ∃ j, locG x gs = some j ∧ j ≤ k
  | [], k, h => by simp at h
  | g :: gs, 0, h => by simp at h; unfold locG; rw [if_pos h]; exact ⟨0, rfl, Nat.le_refl _⟩
  | g :: gs, k + 1, h => by
    by_cases hg : g = x
    · unfold locG; rw [if_pos hg]; exact ⟨0, rfl, Nat.zero_le _⟩
    · obtain ⟨j, hj, hjk⟩ := loc_le (gs := gs) (k := k) (by simpa using h)
      unfold locG
      rw [if_neg hg, hj]
      exact ⟨j + 1, rfl, by omega⟩

set_option maxRecDepth 100000 in
set_option maxHeartbeats 4000000 in
theorem rvalid_calls (gs : List Gt) (a : Option Addr) (c : Nat) (w : World) (h : GatesR w a c gs) (hl : gs.length ≤ 2000) (hwf : ∀ g ∈ gs, WfG g) :
    Calls Try.prog 47 #[.agg #[.slice a gs.length c]] w fun e w' => ∃ b, e = .returned (.bool b) ∧ (b = true ↔ Good gs) ∧ w.grownBy w' none := by
  obtain ⟨n, hn⟩ : ∃ n, gs.length = n := ⟨_, rfl⟩
  have hg1 := World.grownBy_alloc w (.cells #[.slice a n c] 32) none
  have e1 := one_cell w (.slice a n c) 32
  obtain ⟨W1, hW1⟩ : ∃ W, w.alloc (.cells #[.slice a n c] 32) = W := ⟨_, rfl⟩
  rw [hW1] at hg1 e1
  have q1 := e1.2.1
  have HQ := Lib.hid q1
  have HG := Lib.hid hg1
  have HA := Lib.hid (h.grown hg1)
  have HN := Lib.hid hn
  have HWF := Lib.hid hwf
  rw [hn] at hl ⊢
  clear h hg1 e1 hn hwf
  by_cases hn0 : n = 0
  · have f1 : ((n : Int) == 0) = true := beqT (by omega)
    have f2 : (n == 0) = true := by simp [hn0]
    have HNG := Lib.hid (show ¬ Good gs from fun hG => by have := hG.pos; have := HN.out; omega)
    clear hn0
    go_enter Try.func47, Try.ntmps47
    go_wp2_with fail
    go_ret
    exact ⟨false, rfl, ⟨fun h => (by cases h), fun hG => (HNG.out hG).elim⟩, HG.out⟩
  · have f1 : ((n : Int) == 0) = false := beqF (by omega)
    have f2 : (n == 0) = false := by simp [hn0]
    have f3 : decide ((20000 : Int) < (n : Int)) = false := decide_eq_false (by omega)
    have f4 : decide (20000 < n) = false := decide_eq_false (by omega)
    have hn1 : (0 : Int) < (n : Int) := by omega
    have hn2 : 0 < n := by omega
    obtain ⟨g0, hg0⟩ : ∃ g, gs[0]? = some g := ⟨_, List.getElem?_eq_getElem (by rw [HN.out]; omega)⟩
    obtain ⟨ba, oa, rfl, x0, x1, x2⟩ := HA.out.at hg0
    simp only [Nat.zero_mul, Nat.add_zero] at x0 x1 x2
    by_cases hz : g0 = (0, 0, 0)
    · have he : ∀ U : World, (Op.equalIn 10000 69 (.agg #[.int .i64 g0.1, .int .i64 g0.2.1, .int .i64 g0.2.2]) (.agg #[.int .i64 0, .int .i64 0, .int .i64 0])).run Try.prog U = .ok true U := fun U => by have := eq47 g0 (0, 0, 0) U; rw [decide_eq_true hz] at this; exact this
      have HZ := Lib.hid (show gs[0]? = some (0, 0, 0) by rw [hg0, hz]); clear hz hg0
      clear hn0
      go_enter Try.func47, Try.ntmps47
      go_wp2_with fail
      clear x0 x1 x2 he f1 f2 f3 f4 q1 hW1 hn1
      go_loopg [3] (n - 1) (fun g s wr => ∃ k : Nat, s = .int .i64 (k : Int) ∧ g = n - k ∧ 1 ≤ k ∧ k ≤ n ∧ FormTo gs k ∧ W1.grownBy wr none)
      case atStart => exact ⟨1, rfl, rfl, Nat.le_refl _, by omega, fun i g h1 h2 => by omega, grown_refl _ _⟩
      case round =>
        obtain ⟨k, rfl, hgk, hk1', hk, hft, hgr⟩ := hrel
        have HI := Lib.hid (And.intro hgk hft); clear hgk hft
        have HGR := Lib.hid hgr; clear hgr
        obtain ⟨wo, hwo⟩ : ∃ z, z = wr := ⟨_, rfl⟩
        rw [← hwo] at HGR ⊢
        clear hwo
        have q1 := HGR.out.cell HQ.out (by simp)
        by_cases hkn : k < n
        · have f1 : decide (k < n) = true := decide_eq_true hkn
          have hk1 : IntKind.i64.wrap ((k : Int) + 1) = ((k + 1 : Nat) : Int) := by rw [IntWalk.i64_in _ (by omega)]; omega
          have hjn : (k : Int) < (n : Int) := by omega
          have hj0 : (0 : Int) ≤ (k : Int) := by omega
          obtain ⟨g, hg⟩ : ∃ g, gs[k]? = some g := ⟨_, List.getElem?_eq_getElem (by rw [HN.out]; omega)⟩
          obtain ⟨b2, o2, e2, x0, x1, x2⟩ := (HA.out.grown HGR.out).at hg
          cases e2
          have HGG := Lib.hid hg; clear hg
          have HWG := Lib.hid (HWF.out g (List.mem_of_getElem? HGG.out))
          go_wp2_with fail
          refine (formed_calls g k wo (by omega) HWG.out).mono ?_
          rintro e V1 ⟨rfl, g1⟩
          have q2 := g1.cell q1 (by simp)
          have z0 := g1.cell x0 (by simp)
          have z1 := g1.cell x1 (by simp)
          have z2 := g1.cell x2 (by simp)
          have HG1 := Lib.hid (World.grownBy.trans HGR.out g1)
          clear g1 x0 x1 x2 q1
          have HQ7 := Lib.hid (And.intro q2 (And.intro z0 (And.intro z1 z2)))
          have HLOC := Lib.hid (loc_le HGG.out)
          obtain ⟨j, hj, hjk⟩ : ∃ j, locG g gs = some j ∧ j ≤ k := HLOC.out
          have HJ := Lib.hid hj
          have hli : locI g gs = (j : Int) := locI_nat hj
          clear q2 z0 z1 z2 hj
          by_cases hf : formG g k
          · rw [decide_eq_true hf]
            have HF := Lib.hid hf; clear hf
            by_cases hjk2 : j < k
            · have e1 : decide ((j : Int) < (k : Int)) = true := decide_eq_true (by omega)
              have e2 : decide (j < k) = true := decide_eq_true hjk2
              have HNG := Lib.hid (show ¬ Good gs from fun hG => by have := hG.one _ _ _ (locG_some HJ.out) HGG.out; omega)
              clear hjk2
              have q2 := HQ7.out.1
              go_wp2_with fail
              clear q2
              have HS := Lib.hid (fun (Wh : World) (hWh : V1.grownBy Wh none) => (⟨hWh, hWh.cell HQ7.out.1 (by simp), hWh.cell HQ7.out.2.1 (by simp), hWh.cell HQ7.out.2.2.1 (by simp), hWh.cell HQ7.out.2.2.2 (by simp)⟩ : (fun Wh : World => V1.grownBy Wh none ∧ Wh.cell? ⟨w.heap.size, 0, none⟩ = some (.slice (some ⟨ba, oa, none⟩) n c) ∧ Wh.cell? ⟨ba, oa + k * 3, none⟩ = some (.int .i64 g.1) ∧ Wh.cell? ⟨ba, oa + k * 3 + 1, none⟩ = some (.int .i64 g.2.1) ∧ Wh.cell? ⟨ba, oa + k * 3 + 2, none⟩ = some (.int .i64 g.2.2)) Wh))
              have hdr : V1.grownBy V1.drew none := ⟨rfl, rfl, rfl, Nat.le_refl _, fun _ _ _ => rfl⟩
              refine wp_region_held_drew (S := (fun Wh : World => V1.grownBy Wh none ∧ Wh.cell? ⟨w.heap.size, 0, none⟩ = some (.slice (some ⟨ba, oa, none⟩) n c) ∧ Wh.cell? ⟨ba, oa + k * 3, none⟩ = some (.int .i64 g.1) ∧ Wh.cell? ⟨ba, oa + k * 3 + 1, none⟩ = some (.int .i64 g.2.1) ∧ Wh.cell? ⟨ba, oa + k * 3 + 2, none⟩ = some (.int .i64 g.2.2))) (by kernel_rfl) (HS.out _ hdr) (fun hHeld => ?_)
              refine wpAnyH_take (i := 0) (oi := { dst := some 38, op := Op.load 32 (Operand.tmp 1), type := 32, pos := "ref.go:24", after := #[], guard := none }) (v := ?_) rfl (by kernel_rfl) (by kernel_rfl) (by kernel_rfl) (fun _ _ _ h => h) (Or.inl ⟨by rfl, ?_⟩) (by assumption) ?_
              rotate_left 1
              · (intro W hSW; (try dsimp only at hSW); first | (go_simp; done) | (go_simp; with_reducible rfl))
              try simp only [Act.put, List.setIfInBounds_toArray, List.set_cons_zero, List.set_cons_succ]
              refine wpAnyH_take (i := 1) (oi := { dst := some 39, op := Op.fieldAddr 32 (Operand.tmp 1) 0, type := 0, pos := "ref.go:24", after := #[], guard := none }) (v := ?_) rfl (by kernel_rfl) (by kernel_rfl) (by kernel_rfl) (fun _ _ _ h => h) (Or.inl ⟨by rfl, ?_⟩) (by assumption) ?_
              rotate_left 1
              · (intro W hSW; (try dsimp only at hSW); first | (go_simp; done) | (go_simp; with_reducible rfl))
              try simp only [Act.put, List.setIfInBounds_toArray, List.set_cons_zero, List.set_cons_succ]
              refine wpAnyH_take (i := 2) (oi := { dst := some 40, op := Op.load 30 (Operand.tmp 39), type := 30, pos := "ref.go:24", after := #[{ on := 1, ground := Ground.data }], guard := none }) (v := ?_) rfl (by kernel_rfl) (by kernel_rfl) (by kernel_rfl) (fun _ _ _ h => h) (Or.inl ⟨by rfl, ?_⟩) (by assumption) ?_
              rotate_left 1
              · (intro W hSW; (try dsimp only at hSW); first | (go_simp; done) | (go_simp; with_reducible rfl))
              try simp only [Act.put, List.setIfInBounds_toArray, List.set_cons_zero, List.set_cons_succ]
              refine wpAnyH_take (i := 3) (oi := { dst := some 41, op := Op.move (Operand.tmp 3), type := 3, pos := "ref.go:24", after := #[], guard := none }) (v := ?_) rfl (by kernel_rfl) (by kernel_rfl) (by kernel_rfl) (fun _ _ _ h => h) (Or.inl ⟨by rfl, ?_⟩) (by assumption) ?_
              rotate_left 1
              · (intro W hSW; (try dsimp only at hSW); first | (go_simp; done) | (go_simp; with_reducible rfl))
              try simp only [Act.put, List.setIfInBounds_toArray, List.set_cons_zero, List.set_cons_succ]
              refine wpAnyH_take (i := 4) (oi := { dst := some 42, op := Op.indexAddr 30 (Operand.tmp 40) (Operand.tmp 41), type := 0, pos := "ref.go:24", after := #[{ on := 2, ground := Ground.data }, { on := 3, ground := Ground.data }], guard := none }) (v := ?_) rfl (by kernel_rfl) (by kernel_rfl) (by kernel_rfl) (fun _ _ _ h => h) (Or.inl ⟨by rfl, ?_⟩) (by assumption) ?_
              rotate_left 1
              · (intro W hSW; (try dsimp only at hSW); first | (go_simp; done) | (go_simp; with_reducible rfl))
              try simp only [Act.put, List.setIfInBounds_toArray, List.set_cons_zero, List.set_cons_succ]
              refine wpAnyH_take (i := 5) (oi := { dst := some 43, op := Op.load 69 (Operand.tmp 42), type := 69, pos := "ref.go:24", after := #[{ on := 4, ground := Ground.data }], guard := none }) (v := ?_) rfl (by kernel_rfl) (by kernel_rfl) (by kernel_rfl) (fun _ _ _ h => h) (Or.inl ⟨by rfl, ?_⟩) (by assumption) ?_
              rotate_left 1
              · (intro W hSW; (try dsimp only at hSW); first | (go_simp; done) | (go_simp; with_reducible rfl))
              try simp only [Act.put, List.setIfInBounds_toArray, List.set_cons_zero, List.set_cons_succ]
              refine wpAnyH_ready (rs := [6]) (by kernel_rfl) (by simp) ?_
              refine (AllReadyH.cons (o := { dst := some 44, op := Op.call { callee := Callee.value (Operand.func 62), args := #[Operand.tmp 38, Operand.tmp 43], argTypes := #[32, 69] }, type := 3, pos := "ref.go:24", after := #[{ on := 0, ground := Ground.data }, { on := 5, ground := Ground.data }], guard := none }) rfl (fun K hK => ?_) AllReadyH.nil)
              rw [if_pos (by rfl)]
              go_simp
              go_at_call 62
              refine (rfind_len g HN.out (HA.out.grown (World.grownBy.trans HG1.out hdr)) (by rw [HN.out]; omega)).mono ?_
              rintro e wc1 ⟨rfl, gc1⟩
              have hgr1 := World.grownBy.trans hdr gc1
              go_wp2_with fail
              refine hK.out _ _ (HS.out _ hgr1) (fun hHeld => ?_)
              clear hK K
              try simp only [Act.put, List.setIfInBounds_toArray, List.set_cons_zero, List.set_cons_succ]
              refine wpAnyH_take (i := 7) (oi := { dst := some 5, op := Op.assign (Operand.tmp 44), type := 3, pos := "ref.go:24", after := #[{ on := 6, ground := Ground.data }, { on := 6, ground := Ground.chain }, { on := 0, ground := Ground.phase }, { on := 1, ground := Ground.phase }, { on := 2, ground := Ground.phase }, { on := 3, ground := Ground.phase }, { on := 4, ground := Ground.phase }, { on := 5, ground := Ground.phase }, { on := 6, ground := Ground.phase }], guard := none }) (v := ?_) rfl (by kernel_rfl) (by kernel_rfl) (by kernel_rfl) (fun _ _ _ h => h) (Or.inl ⟨by rfl, ?_⟩) (by assumption) ?_
              rotate_left 1
              · (intro W hSW; (try dsimp only at hSW); first | (go_simp; done) | (go_simp; with_reducible rfl))
              try simp only [Act.put, List.setIfInBounds_toArray, List.set_cons_zero, List.set_cons_succ]
              refine wpAnyH_done (by kernel_rfl) ?_ _
              have hEND := hgr1
              clear hHeld
              have HEND := Lib.hid hEND
              clear hdr hEND
              go_wp2_with fail
              go_ret
              exact ⟨false, rfl, ⟨fun h => (by cases h), fun hG => (HNG.out hG).elim⟩, World.grownBy.trans HG.out (World.grownBy.trans HG1.out HEND.out)⟩
            · have hjE : j = k := by omega
              have e1 : decide ((j : Int) < (k : Int)) = false := decide_eq_false (by omega)
              have e2 : decide (j < k) = false := decide_eq_false hjk2
              have HFT := Lib.hid (show FormTo gs (k + 1) from fun i g' h1 h2 e => by
                by_cases hik : i = k
                · subst hik
                  rw [HGG.out] at e
                  cases e
                  exact ⟨HF.out, by rw [HJ.out, hjE]⟩
                · exact HI.out.2 i g' h1 (by omega) e)
              clear hjk2 hjE
              have q2 := HQ7.out.1
              go_wp2_with fail
              clear q2
              have HS := Lib.hid (fun (Wh : World) (hWh : V1.grownBy Wh none) => (⟨hWh, hWh.cell HQ7.out.1 (by simp), hWh.cell HQ7.out.2.1 (by simp), hWh.cell HQ7.out.2.2.1 (by simp), hWh.cell HQ7.out.2.2.2 (by simp)⟩ : (fun Wh : World => V1.grownBy Wh none ∧ Wh.cell? ⟨w.heap.size, 0, none⟩ = some (.slice (some ⟨ba, oa, none⟩) n c) ∧ Wh.cell? ⟨ba, oa + k * 3, none⟩ = some (.int .i64 g.1) ∧ Wh.cell? ⟨ba, oa + k * 3 + 1, none⟩ = some (.int .i64 g.2.1) ∧ Wh.cell? ⟨ba, oa + k * 3 + 2, none⟩ = some (.int .i64 g.2.2)) Wh))
              have hdr : V1.grownBy V1.drew none := ⟨rfl, rfl, rfl, Nat.le_refl _, fun _ _ _ => rfl⟩
              refine wp_region_held_drew (S := (fun Wh : World => V1.grownBy Wh none ∧ Wh.cell? ⟨w.heap.size, 0, none⟩ = some (.slice (some ⟨ba, oa, none⟩) n c) ∧ Wh.cell? ⟨ba, oa + k * 3, none⟩ = some (.int .i64 g.1) ∧ Wh.cell? ⟨ba, oa + k * 3 + 1, none⟩ = some (.int .i64 g.2.1) ∧ Wh.cell? ⟨ba, oa + k * 3 + 2, none⟩ = some (.int .i64 g.2.2))) (by kernel_rfl) (HS.out _ hdr) (fun hHeld => ?_)
              refine wpAnyH_take (i := 0) (oi := { dst := some 38, op := Op.load 32 (Operand.tmp 1), type := 32, pos := "ref.go:24", after := #[], guard := none }) (v := ?_) rfl (by kernel_rfl) (by kernel_rfl) (by kernel_rfl) (fun _ _ _ h => h) (Or.inl ⟨by rfl, ?_⟩) (by assumption) ?_
              rotate_left 1
              · (intro W hSW; (try dsimp only at hSW); first | (go_simp; done) | (go_simp; with_reducible rfl))
              try simp only [Act.put, List.setIfInBounds_toArray, List.set_cons_zero, List.set_cons_succ]
              refine wpAnyH_take (i := 1) (oi := { dst := some 39, op := Op.fieldAddr 32 (Operand.tmp 1) 0, type := 0, pos := "ref.go:24", after := #[], guard := none }) (v := ?_) rfl (by kernel_rfl) (by kernel_rfl) (by kernel_rfl) (fun _ _ _ h => h) (Or.inl ⟨by rfl, ?_⟩) (by assumption) ?_
              rotate_left 1
              · (intro W hSW; (try dsimp only at hSW); first | (go_simp; done) | (go_simp; with_reducible rfl))
              try simp only [Act.put, List.setIfInBounds_toArray, List.set_cons_zero, List.set_cons_succ]
              refine wpAnyH_take (i := 2) (oi := { dst := some 40, op := Op.load 30 (Operand.tmp 39), type := 30, pos := "ref.go:24", after := #[{ on := 1, ground := Ground.data }], guard := none }) (v := ?_) rfl (by kernel_rfl) (by kernel_rfl) (by kernel_rfl) (fun _ _ _ h => h) (Or.inl ⟨by rfl, ?_⟩) (by assumption) ?_
              rotate_left 1
              · (intro W hSW; (try dsimp only at hSW); first | (go_simp; done) | (go_simp; with_reducible rfl))
              try simp only [Act.put, List.setIfInBounds_toArray, List.set_cons_zero, List.set_cons_succ]
              refine wpAnyH_take (i := 3) (oi := { dst := some 41, op := Op.move (Operand.tmp 3), type := 3, pos := "ref.go:24", after := #[], guard := none }) (v := ?_) rfl (by kernel_rfl) (by kernel_rfl) (by kernel_rfl) (fun _ _ _ h => h) (Or.inl ⟨by rfl, ?_⟩) (by assumption) ?_
              rotate_left 1
              · (intro W hSW; (try dsimp only at hSW); first | (go_simp; done) | (go_simp; with_reducible rfl))
              try simp only [Act.put, List.setIfInBounds_toArray, List.set_cons_zero, List.set_cons_succ]
              refine wpAnyH_take (i := 4) (oi := { dst := some 42, op := Op.indexAddr 30 (Operand.tmp 40) (Operand.tmp 41), type := 0, pos := "ref.go:24", after := #[{ on := 2, ground := Ground.data }, { on := 3, ground := Ground.data }], guard := none }) (v := ?_) rfl (by kernel_rfl) (by kernel_rfl) (by kernel_rfl) (fun _ _ _ h => h) (Or.inl ⟨by rfl, ?_⟩) (by assumption) ?_
              rotate_left 1
              · (intro W hSW; (try dsimp only at hSW); first | (go_simp; done) | (go_simp; with_reducible rfl))
              try simp only [Act.put, List.setIfInBounds_toArray, List.set_cons_zero, List.set_cons_succ]
              refine wpAnyH_take (i := 5) (oi := { dst := some 43, op := Op.load 69 (Operand.tmp 42), type := 69, pos := "ref.go:24", after := #[{ on := 4, ground := Ground.data }], guard := none }) (v := ?_) rfl (by kernel_rfl) (by kernel_rfl) (by kernel_rfl) (fun _ _ _ h => h) (Or.inl ⟨by rfl, ?_⟩) (by assumption) ?_
              rotate_left 1
              · (intro W hSW; (try dsimp only at hSW); first | (go_simp; done) | (go_simp; with_reducible rfl))
              try simp only [Act.put, List.setIfInBounds_toArray, List.set_cons_zero, List.set_cons_succ]
              refine wpAnyH_ready (rs := [6]) (by kernel_rfl) (by simp) ?_
              refine (AllReadyH.cons (o := { dst := some 44, op := Op.call { callee := Callee.value (Operand.func 62), args := #[Operand.tmp 38, Operand.tmp 43], argTypes := #[32, 69] }, type := 3, pos := "ref.go:24", after := #[{ on := 0, ground := Ground.data }, { on := 5, ground := Ground.data }], guard := none }) rfl (fun K hK => ?_) AllReadyH.nil)
              rw [if_pos (by rfl)]
              go_simp
              go_at_call 62
              refine (rfind_len g HN.out (HA.out.grown (World.grownBy.trans HG1.out hdr)) (by rw [HN.out]; omega)).mono ?_
              rintro e wc1 ⟨rfl, gc1⟩
              have hgr1 := World.grownBy.trans hdr gc1
              go_wp2_with fail
              refine hK.out _ _ (HS.out _ hgr1) (fun hHeld => ?_)
              clear hK K
              try simp only [Act.put, List.setIfInBounds_toArray, List.set_cons_zero, List.set_cons_succ]
              refine wpAnyH_take (i := 7) (oi := { dst := some 5, op := Op.assign (Operand.tmp 44), type := 3, pos := "ref.go:24", after := #[{ on := 6, ground := Ground.data }, { on := 6, ground := Ground.chain }, { on := 0, ground := Ground.phase }, { on := 1, ground := Ground.phase }, { on := 2, ground := Ground.phase }, { on := 3, ground := Ground.phase }, { on := 4, ground := Ground.phase }, { on := 5, ground := Ground.phase }, { on := 6, ground := Ground.phase }], guard := none }) (v := ?_) rfl (by kernel_rfl) (by kernel_rfl) (by kernel_rfl) (fun _ _ _ h => h) (Or.inl ⟨by rfl, ?_⟩) (by assumption) ?_
              rotate_left 1
              · (intro W hSW; (try dsimp only at hSW); first | (go_simp; done) | (go_simp; with_reducible rfl))
              try simp only [Act.put, List.setIfInBounds_toArray, List.set_cons_zero, List.set_cons_succ]
              refine wpAnyH_done (by kernel_rfl) ?_ _
              have hEND := hgr1
              clear hHeld
              have HEND := Lib.hid hEND
              clear hdr hEND
              go_wp2_with fail
              go_roundg (n - (k + 1))
              case measure => rw [HI.out.1]; omega
              case rel => exact ⟨k + 1, rfl, rfl, by omega, by omega, HFT.out, World.grownBy.trans HG1.out HEND.out⟩
          · rw [decide_eq_false hf]
            have HNG := Lib.hid (show ¬ Good gs from fun hG => hf (hG.form k g (by omega) HGG.out))
            clear hf
            have q2 := HQ7.out.1
            go_wp2_with fail
            clear q2
            have HS := Lib.hid (fun (Wh : World) (hWh : V1.grownBy Wh none) => (⟨hWh, hWh.cell HQ7.out.1 (by simp), hWh.cell HQ7.out.2.1 (by simp), hWh.cell HQ7.out.2.2.1 (by simp), hWh.cell HQ7.out.2.2.2 (by simp)⟩ : (fun Wh : World => V1.grownBy Wh none ∧ Wh.cell? ⟨w.heap.size, 0, none⟩ = some (.slice (some ⟨ba, oa, none⟩) n c) ∧ Wh.cell? ⟨ba, oa + k * 3, none⟩ = some (.int .i64 g.1) ∧ Wh.cell? ⟨ba, oa + k * 3 + 1, none⟩ = some (.int .i64 g.2.1) ∧ Wh.cell? ⟨ba, oa + k * 3 + 2, none⟩ = some (.int .i64 g.2.2)) Wh))
            have hdr : V1.grownBy V1.drew none := ⟨rfl, rfl, rfl, Nat.le_refl _, fun _ _ _ => rfl⟩
            refine wp_region_held_drew (S := (fun Wh : World => V1.grownBy Wh none ∧ Wh.cell? ⟨w.heap.size, 0, none⟩ = some (.slice (some ⟨ba, oa, none⟩) n c) ∧ Wh.cell? ⟨ba, oa + k * 3, none⟩ = some (.int .i64 g.1) ∧ Wh.cell? ⟨ba, oa + k * 3 + 1, none⟩ = some (.int .i64 g.2.1) ∧ Wh.cell? ⟨ba, oa + k * 3 + 2, none⟩ = some (.int .i64 g.2.2))) (by kernel_rfl) (HS.out _ hdr) (fun hHeld => ?_)
            refine wpAnyH_take (i := 0) (oi := { dst := some 38, op := Op.load 32 (Operand.tmp 1), type := 32, pos := "ref.go:24", after := #[], guard := none }) (v := ?_) rfl (by kernel_rfl) (by kernel_rfl) (by kernel_rfl) (fun _ _ _ h => h) (Or.inl ⟨by rfl, ?_⟩) (by assumption) ?_
            rotate_left 1
            · (intro W hSW; (try dsimp only at hSW); first | (go_simp; done) | (go_simp; with_reducible rfl))
            try simp only [Act.put, List.setIfInBounds_toArray, List.set_cons_zero, List.set_cons_succ]
            refine wpAnyH_take (i := 1) (oi := { dst := some 39, op := Op.fieldAddr 32 (Operand.tmp 1) 0, type := 0, pos := "ref.go:24", after := #[], guard := none }) (v := ?_) rfl (by kernel_rfl) (by kernel_rfl) (by kernel_rfl) (fun _ _ _ h => h) (Or.inl ⟨by rfl, ?_⟩) (by assumption) ?_
            rotate_left 1
            · (intro W hSW; (try dsimp only at hSW); first | (go_simp; done) | (go_simp; with_reducible rfl))
            try simp only [Act.put, List.setIfInBounds_toArray, List.set_cons_zero, List.set_cons_succ]
            refine wpAnyH_take (i := 2) (oi := { dst := some 40, op := Op.load 30 (Operand.tmp 39), type := 30, pos := "ref.go:24", after := #[{ on := 1, ground := Ground.data }], guard := none }) (v := ?_) rfl (by kernel_rfl) (by kernel_rfl) (by kernel_rfl) (fun _ _ _ h => h) (Or.inl ⟨by rfl, ?_⟩) (by assumption) ?_
            rotate_left 1
            · (intro W hSW; (try dsimp only at hSW); first | (go_simp; done) | (go_simp; with_reducible rfl))
            try simp only [Act.put, List.setIfInBounds_toArray, List.set_cons_zero, List.set_cons_succ]
            refine wpAnyH_take (i := 3) (oi := { dst := some 41, op := Op.move (Operand.tmp 3), type := 3, pos := "ref.go:24", after := #[], guard := none }) (v := ?_) rfl (by kernel_rfl) (by kernel_rfl) (by kernel_rfl) (fun _ _ _ h => h) (Or.inl ⟨by rfl, ?_⟩) (by assumption) ?_
            rotate_left 1
            · (intro W hSW; (try dsimp only at hSW); first | (go_simp; done) | (go_simp; with_reducible rfl))
            try simp only [Act.put, List.setIfInBounds_toArray, List.set_cons_zero, List.set_cons_succ]
            refine wpAnyH_take (i := 4) (oi := { dst := some 42, op := Op.indexAddr 30 (Operand.tmp 40) (Operand.tmp 41), type := 0, pos := "ref.go:24", after := #[{ on := 2, ground := Ground.data }, { on := 3, ground := Ground.data }], guard := none }) (v := ?_) rfl (by kernel_rfl) (by kernel_rfl) (by kernel_rfl) (fun _ _ _ h => h) (Or.inl ⟨by rfl, ?_⟩) (by assumption) ?_
            rotate_left 1
            · (intro W hSW; (try dsimp only at hSW); first | (go_simp; done) | (go_simp; with_reducible rfl))
            try simp only [Act.put, List.setIfInBounds_toArray, List.set_cons_zero, List.set_cons_succ]
            refine wpAnyH_take (i := 5) (oi := { dst := some 43, op := Op.load 69 (Operand.tmp 42), type := 69, pos := "ref.go:24", after := #[{ on := 4, ground := Ground.data }], guard := none }) (v := ?_) rfl (by kernel_rfl) (by kernel_rfl) (by kernel_rfl) (fun _ _ _ h => h) (Or.inl ⟨by rfl, ?_⟩) (by assumption) ?_
            rotate_left 1
            · (intro W hSW; (try dsimp only at hSW); first | (go_simp; done) | (go_simp; with_reducible rfl))
            try simp only [Act.put, List.setIfInBounds_toArray, List.set_cons_zero, List.set_cons_succ]
            refine wpAnyH_ready (rs := [6]) (by kernel_rfl) (by simp) ?_
            refine (AllReadyH.cons (o := { dst := some 44, op := Op.call { callee := Callee.value (Operand.func 62), args := #[Operand.tmp 38, Operand.tmp 43], argTypes := #[32, 69] }, type := 3, pos := "ref.go:24", after := #[{ on := 0, ground := Ground.data }, { on := 5, ground := Ground.data }], guard := none }) rfl (fun K hK => ?_) AllReadyH.nil)
            rw [if_pos (by rfl)]
            go_simp
            go_at_call 62
            refine (rfind_len g HN.out (HA.out.grown (World.grownBy.trans HG1.out hdr)) (by rw [HN.out]; omega)).mono ?_
            rintro e wc1 ⟨rfl, gc1⟩
            have hgr1 := World.grownBy.trans hdr gc1
            go_wp2_with fail
            refine hK.out _ _ (HS.out _ hgr1) (fun hHeld => ?_)
            clear hK K
            try simp only [Act.put, List.setIfInBounds_toArray, List.set_cons_zero, List.set_cons_succ]
            refine wpAnyH_take (i := 7) (oi := { dst := some 5, op := Op.assign (Operand.tmp 44), type := 3, pos := "ref.go:24", after := #[{ on := 6, ground := Ground.data }, { on := 6, ground := Ground.chain }, { on := 0, ground := Ground.phase }, { on := 1, ground := Ground.phase }, { on := 2, ground := Ground.phase }, { on := 3, ground := Ground.phase }, { on := 4, ground := Ground.phase }, { on := 5, ground := Ground.phase }, { on := 6, ground := Ground.phase }], guard := none }) (v := ?_) rfl (by kernel_rfl) (by kernel_rfl) (by kernel_rfl) (fun _ _ _ h => h) (Or.inl ⟨by rfl, ?_⟩) (by assumption) ?_
            rotate_left 1
            · (intro W hSW; (try dsimp only at hSW); first | (go_simp; done) | (go_simp; with_reducible rfl))
            try simp only [Act.put, List.setIfInBounds_toArray, List.set_cons_zero, List.set_cons_succ]
            refine wpAnyH_done (by kernel_rfl) ?_ _
            have hEND := hgr1
            clear hHeld
            have HEND := Lib.hid hEND
            clear hdr hEND
            go_wp2_with fail
            go_ret
            exact ⟨false, rfl, ⟨fun h => (by cases h), fun hG => (HNG.out hG).elim⟩, World.grownBy.trans HG.out (World.grownBy.trans HG1.out HEND.out)⟩
        · have f1 : decide (k < n) = false := decide_eq_false hkn
          have HGD := Lib.hid (show Good gs from FormTo.good HZ.out (by rw [HN.out]; have : k = n := by omega
                                                                        subst this; exact HI.out.2))
          go_wp2_with fail
          go_ret
          exact ⟨true, rfl, ⟨fun _ => HGD.out, fun _ => rfl⟩, World.grownBy.trans HG.out HGR.out⟩
    · have he : ∀ U : World, (Op.equalIn 10000 69 (.agg #[.int .i64 g0.1, .int .i64 g0.2.1, .int .i64 g0.2.2]) (.agg #[.int .i64 0, .int .i64 0, .int .i64 0])).run Try.prog U = .ok false U := fun U => by have := eq47 g0 (0, 0, 0) U; rw [decide_eq_false hz] at this; exact this
      clear hn0
      go_enter Try.func47, Try.ntmps47
      go_wp2_with fail
      go_ret
      exact ⟨false, rfl, ⟨fun h => (by cases h), fun hG => by have := hG.zero; rw [hg0] at this; cases this; exact absurd rfl hz⟩, HG.out⟩
end Go.Proofs.Ythagoihpppppkaa

/- Bounds compared by the reference; their free tuples. -/
import Derived.Test.YtbddpjofhddilaaYC
import Derived.Deep.RegionHeld3
namespace Go.Proofs.Ytbddpjofhddilaa
open Go.RowKit

set_option maxRecDepth 100000 in
set_option maxHeartbeats 8000000 in
theorem rbEqual_calls (l m : List Bd) (a a' : Option Addr) (c c' : Nat) (w : World) (h : Bds w a c l) (h' : Bds w a' c' m) (hl : l.length ≤ 1000) (hx : ∀ x ∈ l, x.1.2.length ≤ 100000 ∧ x.2.2.length ≤ 100000) :
    Calls Try.prog 50 #[.slice a l.length c, .slice a' m.length c'] w fun e w' => e = .returned (.bool (decide (l = m))) ∧ w.grownBy w' none := by
  obtain ⟨n, hn⟩ : ∃ n, l.length = n := ⟨_, rfl⟩
  obtain ⟨n', hn'⟩ : ∃ n, m.length = n := ⟨_, rfl⟩
  rw [hn] at hl ⊢
  rw [hn']
  have HH := Lib.hid (And.intro hn (And.intro hn' (And.intro h (And.intro h' hx)))); clear h h' hx
  by_cases hnm : n = n'
  rotate_left
  · have f0 : ((n : Int) != (n' : Int)) = true := by simp; omega
    have HR : Hid (decide (l = m) = false) := Lib.hid (decide_eq_false (by rintro rfl; omega))
    clear hn hn' hnm
    go_enter Try.func50, Try.ntmps50
    go_wp2_with fail
    go_ret
    exact ⟨by rw [HR.out]; rfl, grown_refl _ _⟩
  have f0 : ((n : Int) != (n' : Int)) = false := by simp; omega
  subst hnm
  clear hn hn'
  go_enter Try.func50, Try.ntmps50
  go_wp2_with fail
  clear f0
  go_loopg [5] n (fun g s5 wr => ∃ i : Nat, s5 = .int .i64 (i : Int) ∧ g = n - i ∧ i ≤ n ∧ (∀ j, j < i → l[j]? = m[j]?) ∧ w.grownBy wr none)
  case atStart => exact ⟨0, rfl, rfl, Nat.zero_le _, fun j hj => absurd hj (Nat.not_lt_zero _), grown_refl _ _⟩
  case round =>
    obtain ⟨i, rfl, hgi, hi, hok, hgr⟩ := hrel
    have HI := Lib.hid (And.intro hgi (And.intro hok hgr)); clear hgi hok hgr
    by_cases hin : i < n
    · have hinB : decide (i < n) = true := by simpa using hin
      have hinI : (i : Int) < (n : Int) := by omega
      obtain ⟨x, hx⟩ : ∃ x, l[i]? = some x := ⟨_, List.getElem?_eq_getElem (by rw [HH.out.1]; exact hin)⟩
      obtain ⟨y, hy⟩ : ∃ y, m[i]? = some y := ⟨_, List.getElem?_eq_getElem (by rw [HH.out.2.1]; exact hin)⟩
      obtain ⟨b, o, rfl, hbx⟩ := HH.out.2.2.1.2 i x hx
      obtain ⟨b', o', rfl, hby⟩ := HH.out.2.2.2.1.2 i y hy
      obtain ⟨xa1, xk1, xa2, xk2, x0, x1, x2, x3, xi1, xi2⟩ := hbx.parts
      obtain ⟨ya1, yk1, ya2, yk2, y0, y1, y2, y3, yi1, yi2⟩ := hby.parts
      have hxl := HH.out.2.2.2.2 x (List.mem_of_getElem? hx)
      have HE1 := Lib.hid (fun (U : World) (g : w.grownBy U none) => rRelEqual_calls x.1 y.1 xa1 ya1 xk1 yk1 U (xi1.grown g) (yi1.grown g) (by omega))
      have HE2 := Lib.hid (fun (U : World) (g : w.grownBy U none) => rRelEqual_calls x.2 y.2 xa2 ya2 xk2 yk2 U (xi2.grown g) (yi2.grown g) (by omega))
      obtain ⟨k1, hk1⟩ : ∃ k, x.1.1 = k := ⟨_, rfl⟩
      obtain ⟨k2, hk2⟩ : ∃ k, x.2.1 = k := ⟨_, rfl⟩
      obtain ⟨q1, hq1⟩ : ∃ k, y.1.1 = k := ⟨_, rfl⟩
      obtain ⟨q2, hq2⟩ : ∃ k, y.2.1 = k := ⟨_, rfl⟩
      obtain ⟨x1n, hx1n⟩ : ∃ n, x.1.2.length = n := ⟨_, rfl⟩
      obtain ⟨x2n, hx2n⟩ : ∃ n, x.2.2.length = n := ⟨_, rfl⟩
      obtain ⟨y1n, hy1n⟩ : ∃ n, y.1.2.length = n := ⟨_, rfl⟩
      obtain ⟨y2n, hy2n⟩ : ∃ n, y.2.2.length = n := ⟨_, rfl⟩
      obtain ⟨Q1, hQ1⟩ : ∃ Q, decide (x.1 = y.1) = Q := ⟨_, rfl⟩
      obtain ⟨Q2, hQ2⟩ : ∃ Q, decide (x.2 = y.2) = Q := ⟨_, rfl⟩
      rw [hk1, hq1, hx1n, hy1n, hQ1] at HE1
      rw [hk2, hq2, hx2n, hy2n, hQ2] at HE2
      rw [hk1] at x0
      rw [hx1n] at x1
      rw [hk2] at x2
      rw [hx2n] at x3
      rw [hq1] at y0
      rw [hy1n] at y1
      rw [hq2] at y2
      rw [hy2n] at y3
      have HX := Lib.hid (And.intro hx (And.intro hy (And.intro hQ1 hQ2)))
      clear hx hy hbx hby xi1 xi2 yi1 yi2 hk1 hk2 hq1 hq2 hx1n hx2n hy1n hy2n hQ1 hQ2 hxl
      go_wp2_with fail
      have HS := Lib.hid (fun (Wh : World) (hWh : w.grownBy Wh none) => (⟨hWh, hWh.cell x0 (by simp), hWh.cell x1 (by simp), hWh.cell x2 (by simp), hWh.cell x3 (by simp), hWh.cell y0 (by simp), hWh.cell y1 (by simp), hWh.cell y2 (by simp), hWh.cell y3 (by simp)⟩ : (fun Wh : World => w.grownBy Wh none ∧ Wh.cell? ⟨b, o + i * 4, none⟩ = some (.int .i64 k1) ∧ Wh.cell? ⟨b, o + i * 4 + 1, none⟩ = some (.slice xa1 x1n xk1) ∧ Wh.cell? ⟨b, o + i * 4 + 2, none⟩ = some (.int .i64 k2) ∧ Wh.cell? ⟨b, o + i * 4 + 3, none⟩ = some (.slice xa2 x2n xk2) ∧ Wh.cell? ⟨b', o' + i * 4, none⟩ = some (.int .i64 q1) ∧ Wh.cell? ⟨b', o' + i * 4 + 1, none⟩ = some (.slice ya1 y1n yk1) ∧ Wh.cell? ⟨b', o' + i * 4 + 2, none⟩ = some (.int .i64 q2) ∧ Wh.cell? ⟨b', o' + i * 4 + 3, none⟩ = some (.slice ya2 y2n yk2)) Wh))
      clear x0 x1 x2 x3 y0 y1 y2 y3
      cases Q1 with
      | false =>
        have HF : Hid (decide (l = m) = false) := Lib.hid (decide_eq_false (list_ne HX.out.1 HX.out.2.1 (fun e => of_decide_eq_false HX.out.2.2.1 (by rw [e]))))
        have hdr : w.grownBy wr.drew none := World.grownBy.trans HI.out.2.2 (⟨rfl, rfl, rfl, Nat.le_refl _, fun _ _ _ => rfl⟩ : wr.grownBy wr.drew none)
        refine wp_region_held_drew (S := (fun Wh : World => w.grownBy Wh none ∧ Wh.cell? ⟨b, o + i * 4, none⟩ = some (.int .i64 k1) ∧ Wh.cell? ⟨b, o + i * 4 + 1, none⟩ = some (.slice xa1 x1n xk1) ∧ Wh.cell? ⟨b, o + i * 4 + 2, none⟩ = some (.int .i64 k2) ∧ Wh.cell? ⟨b, o + i * 4 + 3, none⟩ = some (.slice xa2 x2n xk2) ∧ Wh.cell? ⟨b', o' + i * 4, none⟩ = some (.int .i64 q1) ∧ Wh.cell? ⟨b', o' + i * 4 + 1, none⟩ = some (.slice ya1 y1n yk1) ∧ Wh.cell? ⟨b', o' + i * 4 + 2, none⟩ = some (.int .i64 q2) ∧ Wh.cell? ⟨b', o' + i * 4 + 3, none⟩ = some (.slice ya2 y2n yk2))) (by kernel_rfl) (HS.out _ hdr) (fun hHeld => ?_)
        refine wpAnyH_take (i := 0) (oi := { dst := some 17, op := Op.move (Operand.tmp 0), type := 57, pos := "ref.go:109", after := #[], guard := none }) (v := ?_) rfl (by kernel_rfl) (by kernel_rfl) (by kernel_rfl) (fun _ _ _ h => h) (Or.inl ⟨by rfl, ?_⟩) (by assumption) ?_
        rotate_left 1
        · (intro W hSW; (try dsimp only at hSW); first | (go_simp; done) | (go_simp; with_reducible rfl))
        try simp only [Act.put, List.setIfInBounds_toArray, List.set_cons_zero, List.set_cons_succ]
        refine wpAnyH_take (i := 1) (oi := { dst := some 18, op := Op.move (Operand.tmp 5), type := 3, pos := "ref.go:109", after := #[], guard := none }) (v := ?_) rfl (by kernel_rfl) (by kernel_rfl) (by kernel_rfl) (fun _ _ _ h => h) (Or.inl ⟨by rfl, ?_⟩) (by assumption) ?_
        rotate_left 1
        · (intro W hSW; (try dsimp only at hSW); first | (go_simp; done) | (go_simp; with_reducible rfl))
        try simp only [Act.put, List.setIfInBounds_toArray, List.set_cons_zero, List.set_cons_succ]
        refine wpAnyH_take (i := 2) (oi := { dst := some 19, op := Op.indexAddr 57 (Operand.tmp 17) (Operand.tmp 18), type := 0, pos := "ref.go:109", after := #[{ on := 0, ground := Ground.data }, { on := 1, ground := Ground.data }], guard := none }) (v := ?_) rfl (by kernel_rfl) (by kernel_rfl) (by kernel_rfl) (fun _ _ _ h => h) (Or.inl ⟨by rfl, ?_⟩) (by assumption) ?_
        rotate_left 1
        · (intro W hSW; (try dsimp only at hSW); first | (go_simp; done) | (go_simp; with_reducible rfl))
        try simp only [Act.put, List.setIfInBounds_toArray, List.set_cons_zero, List.set_cons_succ]
        refine wpAnyH_take (i := 3) (oi := { dst := some 20, op := Op.fieldAddr 74 (Operand.tmp 19) 0, type := 0, pos := "ref.go:109", after := #[{ on := 2, ground := Ground.data }], guard := none }) (v := ?_) rfl (by kernel_rfl) (by kernel_rfl) (by kernel_rfl) (fun _ _ _ h => h) (Or.inl ⟨by rfl, ?_⟩) (by assumption) ?_
        rotate_left 1
        · (intro W hSW; (try dsimp only at hSW); first | (go_simp; done) | (go_simp; with_reducible rfl))
        try simp only [Act.put, List.setIfInBounds_toArray, List.set_cons_zero, List.set_cons_succ]
        refine wpAnyH_take (i := 4) (oi := { dst := some 21, op := Op.load 53 (Operand.tmp 20), type := 53, pos := "ref.go:109", after := #[{ on := 3, ground := Ground.data }], guard := none }) (v := ?_) rfl (by kernel_rfl) (by kernel_rfl) (by kernel_rfl) (fun _ _ _ h => h) (Or.inl ⟨by rfl, ?_⟩) (by assumption) ?_
        rotate_left 1
        · (intro W hSW; (try dsimp only at hSW); first | (go_simp; done) | (go_simp; with_reducible rfl))
        try simp only [Act.put, List.setIfInBounds_toArray, List.set_cons_zero, List.set_cons_succ]
        refine wpAnyH_take (i := 5) (oi := { dst := some 22, op := Op.move (Operand.tmp 1), type := 57, pos := "ref.go:109", after := #[], guard := none }) (v := ?_) rfl (by kernel_rfl) (by kernel_rfl) (by kernel_rfl) (fun _ _ _ h => h) (Or.inl ⟨by rfl, ?_⟩) (by assumption) ?_
        rotate_left 1
        · (intro W hSW; (try dsimp only at hSW); first | (go_simp; done) | (go_simp; with_reducible rfl))
        try simp only [Act.put, List.setIfInBounds_toArray, List.set_cons_zero, List.set_cons_succ]
        refine wpAnyH_take (i := 6) (oi := { dst := some 23, op := Op.move (Operand.tmp 5), type := 3, pos := "ref.go:109", after := #[], guard := none }) (v := ?_) rfl (by kernel_rfl) (by kernel_rfl) (by kernel_rfl) (fun _ _ _ h => h) (Or.inl ⟨by rfl, ?_⟩) (by assumption) ?_
        rotate_left 1
        · (intro W hSW; (try dsimp only at hSW); first | (go_simp; done) | (go_simp; with_reducible rfl))
        try simp only [Act.put, List.setIfInBounds_toArray, List.set_cons_zero, List.set_cons_succ]
        refine wpAnyH_take (i := 7) (oi := { dst := some 24, op := Op.indexAddr 57 (Operand.tmp 22) (Operand.tmp 23), type := 0, pos := "ref.go:109", after := #[{ on := 5, ground := Ground.data }, { on := 6, ground := Ground.data }], guard := none }) (v := ?_) rfl (by kernel_rfl) (by kernel_rfl) (by kernel_rfl) (fun _ _ _ h => h) (Or.inl ⟨by rfl, ?_⟩) (by assumption) ?_
        rotate_left 1
        · (intro W hSW; (try dsimp only at hSW); first | (go_simp; done) | (go_simp; with_reducible rfl))
        try simp only [Act.put, List.setIfInBounds_toArray, List.set_cons_zero, List.set_cons_succ]
        refine wpAnyH_take (i := 8) (oi := { dst := some 25, op := Op.fieldAddr 74 (Operand.tmp 24) 0, type := 0, pos := "ref.go:109", after := #[{ on := 7, ground := Ground.data }], guard := none }) (v := ?_) rfl (by kernel_rfl) (by kernel_rfl) (by kernel_rfl) (fun _ _ _ h => h) (Or.inl ⟨by rfl, ?_⟩) (by assumption) ?_
        rotate_left 1
        · (intro W hSW; (try dsimp only at hSW); first | (go_simp; done) | (go_simp; with_reducible rfl))
        try simp only [Act.put, List.setIfInBounds_toArray, List.set_cons_zero, List.set_cons_succ]
        refine wpAnyH_take (i := 9) (oi := { dst := some 26, op := Op.load 53 (Operand.tmp 25), type := 53, pos := "ref.go:109", after := #[{ on := 8, ground := Ground.data }], guard := none }) (v := ?_) rfl (by kernel_rfl) (by kernel_rfl) (by kernel_rfl) (fun _ _ _ h => h) (Or.inl ⟨by rfl, ?_⟩) (by assumption) ?_
        rotate_left 1
        · (intro W hSW; (try dsimp only at hSW); first | (go_simp; done) | (go_simp; with_reducible rfl))
        try simp only [Act.put, List.setIfInBounds_toArray, List.set_cons_zero, List.set_cons_succ]
        refine wpAnyH_ready (rs := [10]) (by kernel_rfl) (by simp) ?_
        refine (AllReadyH.cons (o := { dst := some 27, op := Op.call { callee := Callee.value (Operand.func 59), args := #[Operand.tmp 21, Operand.tmp 26], argTypes := #[53, 53] }, type := 4, pos := "ref.go:109", after := #[{ on := 4, ground := Ground.data }, { on := 9, ground := Ground.data }], guard := none }) rfl (fun K hK => ?_) AllReadyH.nil)
        rw [if_pos (by rfl)]
        go_simp
        go_at_call 59
        refine (HE1.out _ (hdr)).mono ?_
        rintro e wc1 ⟨rfl, gc1⟩
        have hgr1 := World.grownBy.trans hdr gc1
        go_wp2_with fail
        refine hK.out _ _ (HS.out _ hgr1) (fun hHeld => ?_)
        clear hK K
        try simp only [Act.put, List.setIfInBounds_toArray, List.set_cons_zero, List.set_cons_succ]
        refine wpAnyH_take (i := 11) (oi := { dst := some 28, op := Op.unOp UnOp.not 4 (Operand.tmp 27), type := 4, pos := "ref.go:109", after := #[{ on := 10, ground := Ground.data }], guard := none }) (v := ?_) rfl (by kernel_rfl) (by kernel_rfl) (by kernel_rfl) (fun _ _ _ h => h) (Or.inl ⟨by rfl, ?_⟩) (by assumption) ?_
        rotate_left 1
        · (intro W hSW; (try dsimp only at hSW); first | (go_simp; done) | (go_simp; with_reducible rfl))
        try simp only [Act.put, List.setIfInBounds_toArray, List.set_cons_zero, List.set_cons_succ]
        refine wpAnyH_take (i := 12) (oi := { dst := some 29, op := Op.move (Operand.tmp 28), type := 4, pos := "ref.go:109", after := #[{ on := 11, ground := Ground.data }, { on := 10, ground := Ground.chain }], guard := none }) (v := ?_) rfl (by kernel_rfl) (by kernel_rfl) (by kernel_rfl) (fun _ _ _ h => h) (Or.inl ⟨by rfl, ?_⟩) (by assumption) ?_
        rotate_left 1
        · (intro W hSW; (try dsimp only at hSW); first | (go_simp; done) | (go_simp; with_reducible rfl))
        try simp only [Act.put, List.setIfInBounds_toArray, List.set_cons_zero, List.set_cons_succ]
        refine wpAnyH_take (i := 13) (oi := { dst := some 30, op := Op.move (Operand.tmp 0), type := 57, pos := "ref.go:109", after := #[{ on := 12, ground := Ground.guard }], guard := some (12, false) }) (v := undef) rfl (by kernel_rfl) (by kernel_rfl) (by kernel_rfl) (fun _ _ _ h => h) (Or.inr ⟨by rfl, rfl⟩) (by assumption) ?_
        try simp only [Act.put, List.setIfInBounds_toArray, List.set_cons_zero, List.set_cons_succ]
        refine wpAnyH_take (i := 14) (oi := { dst := some 31, op := Op.move (Operand.tmp 5), type := 3, pos := "ref.go:109", after := #[{ on := 12, ground := Ground.guard }], guard := some (12, false) }) (v := undef) rfl (by kernel_rfl) (by kernel_rfl) (by kernel_rfl) (fun _ _ _ h => h) (Or.inr ⟨by rfl, rfl⟩) (by assumption) ?_
        try simp only [Act.put, List.setIfInBounds_toArray, List.set_cons_zero, List.set_cons_succ]
        refine wpAnyH_take (i := 15) (oi := { dst := some 32, op := Op.indexAddr 57 (Operand.tmp 30) (Operand.tmp 31), type := 0, pos := "ref.go:109", after := #[{ on := 13, ground := Ground.data }, { on := 14, ground := Ground.data }, { on := 12, ground := Ground.guard }], guard := some (12, false) }) (v := undef) rfl (by kernel_rfl) (by kernel_rfl) (by kernel_rfl) (fun _ _ _ h => h) (Or.inr ⟨by rfl, rfl⟩) (by assumption) ?_
        try simp only [Act.put, List.setIfInBounds_toArray, List.set_cons_zero, List.set_cons_succ]
        refine wpAnyH_take (i := 16) (oi := { dst := some 33, op := Op.fieldAddr 74 (Operand.tmp 32) 1, type := 0, pos := "ref.go:109", after := #[{ on := 15, ground := Ground.data }, { on := 12, ground := Ground.guard }], guard := some (12, false) }) (v := undef) rfl (by kernel_rfl) (by kernel_rfl) (by kernel_rfl) (fun _ _ _ h => h) (Or.inr ⟨by rfl, rfl⟩) (by assumption) ?_
        try simp only [Act.put, List.setIfInBounds_toArray, List.set_cons_zero, List.set_cons_succ]
        refine wpAnyH_take (i := 17) (oi := { dst := some 34, op := Op.load 53 (Operand.tmp 33), type := 53, pos := "ref.go:109", after := #[{ on := 16, ground := Ground.data }, { on := 12, ground := Ground.guard }], guard := some (12, false) }) (v := undef) rfl (by kernel_rfl) (by kernel_rfl) (by kernel_rfl) (fun _ _ _ h => h) (Or.inr ⟨by rfl, rfl⟩) (by assumption) ?_
        try simp only [Act.put, List.setIfInBounds_toArray, List.set_cons_zero, List.set_cons_succ]
        refine wpAnyH_take (i := 18) (oi := { dst := some 35, op := Op.move (Operand.tmp 1), type := 57, pos := "ref.go:109", after := #[{ on := 12, ground := Ground.guard }], guard := some (12, false) }) (v := undef) rfl (by kernel_rfl) (by kernel_rfl) (by kernel_rfl) (fun _ _ _ h => h) (Or.inr ⟨by rfl, rfl⟩) (by assumption) ?_
        try simp only [Act.put, List.setIfInBounds_toArray, List.set_cons_zero, List.set_cons_succ]
        refine wpAnyH_take (i := 19) (oi := { dst := some 36, op := Op.move (Operand.tmp 5), type := 3, pos := "ref.go:109", after := #[{ on := 12, ground := Ground.guard }], guard := some (12, false) }) (v := undef) rfl (by kernel_rfl) (by kernel_rfl) (by kernel_rfl) (fun _ _ _ h => h) (Or.inr ⟨by rfl, rfl⟩) (by assumption) ?_
        try simp only [Act.put, List.setIfInBounds_toArray, List.set_cons_zero, List.set_cons_succ]
        refine wpAnyH_take (i := 20) (oi := { dst := some 37, op := Op.indexAddr 57 (Operand.tmp 35) (Operand.tmp 36), type := 0, pos := "ref.go:109", after := #[{ on := 18, ground := Ground.data }, { on := 19, ground := Ground.data }, { on := 12, ground := Ground.guard }], guard := some (12, false) }) (v := undef) rfl (by kernel_rfl) (by kernel_rfl) (by kernel_rfl) (fun _ _ _ h => h) (Or.inr ⟨by rfl, rfl⟩) (by assumption) ?_
        try simp only [Act.put, List.setIfInBounds_toArray, List.set_cons_zero, List.set_cons_succ]
        refine wpAnyH_take (i := 21) (oi := { dst := some 38, op := Op.fieldAddr 74 (Operand.tmp 37) 1, type := 0, pos := "ref.go:109", after := #[{ on := 20, ground := Ground.data }, { on := 12, ground := Ground.guard }], guard := some (12, false) }) (v := undef) rfl (by kernel_rfl) (by kernel_rfl) (by kernel_rfl) (fun _ _ _ h => h) (Or.inr ⟨by rfl, rfl⟩) (by assumption) ?_
        try simp only [Act.put, List.setIfInBounds_toArray, List.set_cons_zero, List.set_cons_succ]
        refine wpAnyH_take (i := 22) (oi := { dst := some 39, op := Op.load 53 (Operand.tmp 38), type := 53, pos := "ref.go:109", after := #[{ on := 21, ground := Ground.data }, { on := 12, ground := Ground.guard }], guard := some (12, false) }) (v := undef) rfl (by kernel_rfl) (by kernel_rfl) (by kernel_rfl) (fun _ _ _ h => h) (Or.inr ⟨by rfl, rfl⟩) (by assumption) ?_
        try simp only [Act.put, List.setIfInBounds_toArray, List.set_cons_zero, List.set_cons_succ]
        refine wpAnyH_take (i := 23) (oi := { dst := some 40, op := Op.call { callee := Callee.value (Operand.func 59), args := #[Operand.tmp 34, Operand.tmp 39], argTypes := #[53, 53] }, type := 4, pos := "ref.go:109", after := #[{ on := 17, ground := Ground.data }, { on := 22, ground := Ground.data }, { on := 12, ground := Ground.chain }, { on := 12, ground := Ground.guard }], guard := some (12, false) }) (v := undef) rfl (by kernel_rfl) (by kernel_rfl) (by kernel_rfl) (fun _ _ _ h => h) (Or.inr ⟨by rfl, rfl⟩) (by assumption) ?_
        try simp only [Act.put, List.setIfInBounds_toArray, List.set_cons_zero, List.set_cons_succ]
        refine wpAnyH_take (i := 24) (oi := { dst := some 41, op := Op.unOp UnOp.not 4 (Operand.tmp 40), type := 4, pos := "ref.go:109", after := #[{ on := 23, ground := Ground.data }, { on := 12, ground := Ground.guard }], guard := some (12, false) }) (v := undef) rfl (by kernel_rfl) (by kernel_rfl) (by kernel_rfl) (fun _ _ _ h => h) (Or.inr ⟨by rfl, rfl⟩) (by assumption) ?_
        try simp only [Act.put, List.setIfInBounds_toArray, List.set_cons_zero, List.set_cons_succ]
        refine wpAnyH_take (i := 25) (oi := { dst := some 42, op := Op.pick (Operand.tmp 29) (Operand.const (Value.bool true)) (Operand.tmp 41), type := 4, pos := "ref.go:109", after := #[{ on := 12, ground := Ground.data }, { on := 24, ground := Ground.data }], guard := none }) (v := ?_) rfl (by kernel_rfl) (by kernel_rfl) (by kernel_rfl) (fun _ _ _ h => h) (Or.inl ⟨by rfl, ?_⟩) (by assumption) ?_
        rotate_left 1
        · (intro W hSW; (try dsimp only at hSW); first | (go_simp; done) | (go_simp; with_reducible rfl))
        try simp only [Act.put, List.setIfInBounds_toArray, List.set_cons_zero, List.set_cons_succ]
        refine wpAnyH_done (by kernel_rfl) ?_ _
        have hEND := hgr1
        clear hHeld
        have HE := Lib.hid hEND
        clear hEND
        go_wp2_with fail
        go_ret
        exact ⟨by rw [HF.out]; rfl, HE.out⟩
      | true =>
        have hdr : w.grownBy wr.drew none := World.grownBy.trans HI.out.2.2 (⟨rfl, rfl, rfl, Nat.le_refl _, fun _ _ _ => rfl⟩ : wr.grownBy wr.drew none)
        refine wp_region_held_drew (S := (fun Wh : World => w.grownBy Wh none ∧ Wh.cell? ⟨b, o + i * 4, none⟩ = some (.int .i64 k1) ∧ Wh.cell? ⟨b, o + i * 4 + 1, none⟩ = some (.slice xa1 x1n xk1) ∧ Wh.cell? ⟨b, o + i * 4 + 2, none⟩ = some (.int .i64 k2) ∧ Wh.cell? ⟨b, o + i * 4 + 3, none⟩ = some (.slice xa2 x2n xk2) ∧ Wh.cell? ⟨b', o' + i * 4, none⟩ = some (.int .i64 q1) ∧ Wh.cell? ⟨b', o' + i * 4 + 1, none⟩ = some (.slice ya1 y1n yk1) ∧ Wh.cell? ⟨b', o' + i * 4 + 2, none⟩ = some (.int .i64 q2) ∧ Wh.cell? ⟨b', o' + i * 4 + 3, none⟩ = some (.slice ya2 y2n yk2))) (by kernel_rfl) (HS.out _ hdr) (fun hHeld => ?_)
        refine wpAnyH_take (i := 0) (oi := { dst := some 17, op := Op.move (Operand.tmp 0), type := 57, pos := "ref.go:109", after := #[], guard := none }) (v := ?_) rfl (by kernel_rfl) (by kernel_rfl) (by kernel_rfl) (fun _ _ _ h => h) (Or.inl ⟨by rfl, ?_⟩) (by assumption) ?_
        rotate_left 1
        · (intro W hSW; (try dsimp only at hSW); first | (go_simp; done) | (go_simp; with_reducible rfl))
        try simp only [Act.put, List.setIfInBounds_toArray, List.set_cons_zero, List.set_cons_succ]
        refine wpAnyH_take (i := 1) (oi := { dst := some 18, op := Op.move (Operand.tmp 5), type := 3, pos := "ref.go:109", after := #[], guard := none }) (v := ?_) rfl (by kernel_rfl) (by kernel_rfl) (by kernel_rfl) (fun _ _ _ h => h) (Or.inl ⟨by rfl, ?_⟩) (by assumption) ?_
        rotate_left 1
        · (intro W hSW; (try dsimp only at hSW); first | (go_simp; done) | (go_simp; with_reducible rfl))
        try simp only [Act.put, List.setIfInBounds_toArray, List.set_cons_zero, List.set_cons_succ]
        refine wpAnyH_take (i := 2) (oi := { dst := some 19, op := Op.indexAddr 57 (Operand.tmp 17) (Operand.tmp 18), type := 0, pos := "ref.go:109", after := #[{ on := 0, ground := Ground.data }, { on := 1, ground := Ground.data }], guard := none }) (v := ?_) rfl (by kernel_rfl) (by kernel_rfl) (by kernel_rfl) (fun _ _ _ h => h) (Or.inl ⟨by rfl, ?_⟩) (by assumption) ?_
        rotate_left 1
        · (intro W hSW; (try dsimp only at hSW); first | (go_simp; done) | (go_simp; with_reducible rfl))
        try simp only [Act.put, List.setIfInBounds_toArray, List.set_cons_zero, List.set_cons_succ]
        refine wpAnyH_take (i := 3) (oi := { dst := some 20, op := Op.fieldAddr 74 (Operand.tmp 19) 0, type := 0, pos := "ref.go:109", after := #[{ on := 2, ground := Ground.data }], guard := none }) (v := ?_) rfl (by kernel_rfl) (by kernel_rfl) (by kernel_rfl) (fun _ _ _ h => h) (Or.inl ⟨by rfl, ?_⟩) (by assumption) ?_
        rotate_left 1
        · (intro W hSW; (try dsimp only at hSW); first | (go_simp; done) | (go_simp; with_reducible rfl))
        try simp only [Act.put, List.setIfInBounds_toArray, List.set_cons_zero, List.set_cons_succ]
        refine wpAnyH_take (i := 4) (oi := { dst := some 21, op := Op.load 53 (Operand.tmp 20), type := 53, pos := "ref.go:109", after := #[{ on := 3, ground := Ground.data }], guard := none }) (v := ?_) rfl (by kernel_rfl) (by kernel_rfl) (by kernel_rfl) (fun _ _ _ h => h) (Or.inl ⟨by rfl, ?_⟩) (by assumption) ?_
        rotate_left 1
        · (intro W hSW; (try dsimp only at hSW); first | (go_simp; done) | (go_simp; with_reducible rfl))
        try simp only [Act.put, List.setIfInBounds_toArray, List.set_cons_zero, List.set_cons_succ]
        refine wpAnyH_take (i := 5) (oi := { dst := some 22, op := Op.move (Operand.tmp 1), type := 57, pos := "ref.go:109", after := #[], guard := none }) (v := ?_) rfl (by kernel_rfl) (by kernel_rfl) (by kernel_rfl) (fun _ _ _ h => h) (Or.inl ⟨by rfl, ?_⟩) (by assumption) ?_
        rotate_left 1
        · (intro W hSW; (try dsimp only at hSW); first | (go_simp; done) | (go_simp; with_reducible rfl))
        try simp only [Act.put, List.setIfInBounds_toArray, List.set_cons_zero, List.set_cons_succ]
        refine wpAnyH_take (i := 6) (oi := { dst := some 23, op := Op.move (Operand.tmp 5), type := 3, pos := "ref.go:109", after := #[], guard := none }) (v := ?_) rfl (by kernel_rfl) (by kernel_rfl) (by kernel_rfl) (fun _ _ _ h => h) (Or.inl ⟨by rfl, ?_⟩) (by assumption) ?_
        rotate_left 1
        · (intro W hSW; (try dsimp only at hSW); first | (go_simp; done) | (go_simp; with_reducible rfl))
        try simp only [Act.put, List.setIfInBounds_toArray, List.set_cons_zero, List.set_cons_succ]
        refine wpAnyH_take (i := 7) (oi := { dst := some 24, op := Op.indexAddr 57 (Operand.tmp 22) (Operand.tmp 23), type := 0, pos := "ref.go:109", after := #[{ on := 5, ground := Ground.data }, { on := 6, ground := Ground.data }], guard := none }) (v := ?_) rfl (by kernel_rfl) (by kernel_rfl) (by kernel_rfl) (fun _ _ _ h => h) (Or.inl ⟨by rfl, ?_⟩) (by assumption) ?_
        rotate_left 1
        · (intro W hSW; (try dsimp only at hSW); first | (go_simp; done) | (go_simp; with_reducible rfl))
        try simp only [Act.put, List.setIfInBounds_toArray, List.set_cons_zero, List.set_cons_succ]
        refine wpAnyH_take (i := 8) (oi := { dst := some 25, op := Op.fieldAddr 74 (Operand.tmp 24) 0, type := 0, pos := "ref.go:109", after := #[{ on := 7, ground := Ground.data }], guard := none }) (v := ?_) rfl (by kernel_rfl) (by kernel_rfl) (by kernel_rfl) (fun _ _ _ h => h) (Or.inl ⟨by rfl, ?_⟩) (by assumption) ?_
        rotate_left 1
        · (intro W hSW; (try dsimp only at hSW); first | (go_simp; done) | (go_simp; with_reducible rfl))
        try simp only [Act.put, List.setIfInBounds_toArray, List.set_cons_zero, List.set_cons_succ]
        refine wpAnyH_take (i := 9) (oi := { dst := some 26, op := Op.load 53 (Operand.tmp 25), type := 53, pos := "ref.go:109", after := #[{ on := 8, ground := Ground.data }], guard := none }) (v := ?_) rfl (by kernel_rfl) (by kernel_rfl) (by kernel_rfl) (fun _ _ _ h => h) (Or.inl ⟨by rfl, ?_⟩) (by assumption) ?_
        rotate_left 1
        · (intro W hSW; (try dsimp only at hSW); first | (go_simp; done) | (go_simp; with_reducible rfl))
        try simp only [Act.put, List.setIfInBounds_toArray, List.set_cons_zero, List.set_cons_succ]
        refine wpAnyH_ready (rs := [10]) (by kernel_rfl) (by simp) ?_
        refine (AllReadyH.cons (o := { dst := some 27, op := Op.call { callee := Callee.value (Operand.func 59), args := #[Operand.tmp 21, Operand.tmp 26], argTypes := #[53, 53] }, type := 4, pos := "ref.go:109", after := #[{ on := 4, ground := Ground.data }, { on := 9, ground := Ground.data }], guard := none }) rfl (fun K hK => ?_) AllReadyH.nil)
        rw [if_pos (by rfl)]
        go_simp
        go_at_call 59
        refine (HE1.out _ (hdr)).mono ?_
        rintro e wc1 ⟨rfl, gc1⟩
        have hgr1 := World.grownBy.trans hdr gc1
        go_wp2_with fail
        refine hK.out _ _ (HS.out _ hgr1) (fun hHeld => ?_)
        clear hK K
        try simp only [Act.put, List.setIfInBounds_toArray, List.set_cons_zero, List.set_cons_succ]
        refine wpAnyH_take (i := 11) (oi := { dst := some 28, op := Op.unOp UnOp.not 4 (Operand.tmp 27), type := 4, pos := "ref.go:109", after := #[{ on := 10, ground := Ground.data }], guard := none }) (v := ?_) rfl (by kernel_rfl) (by kernel_rfl) (by kernel_rfl) (fun _ _ _ h => h) (Or.inl ⟨by rfl, ?_⟩) (by assumption) ?_
        rotate_left 1
        · (intro W hSW; (try dsimp only at hSW); first | (go_simp; done) | (go_simp; with_reducible rfl))
        try simp only [Act.put, List.setIfInBounds_toArray, List.set_cons_zero, List.set_cons_succ]
        refine wpAnyH_take (i := 12) (oi := { dst := some 29, op := Op.move (Operand.tmp 28), type := 4, pos := "ref.go:109", after := #[{ on := 11, ground := Ground.data }, { on := 10, ground := Ground.chain }], guard := none }) (v := ?_) rfl (by kernel_rfl) (by kernel_rfl) (by kernel_rfl) (fun _ _ _ h => h) (Or.inl ⟨by rfl, ?_⟩) (by assumption) ?_
        rotate_left 1
        · (intro W hSW; (try dsimp only at hSW); first | (go_simp; done) | (go_simp; with_reducible rfl))
        try simp only [Act.put, List.setIfInBounds_toArray, List.set_cons_zero, List.set_cons_succ]
        refine wpAnyH_take (i := 13) (oi := { dst := some 30, op := Op.move (Operand.tmp 0), type := 57, pos := "ref.go:109", after := #[{ on := 12, ground := Ground.guard }], guard := some (12, false) }) (v := ?_) rfl (by kernel_rfl) (by kernel_rfl) (by kernel_rfl) (fun _ _ _ h => h) (Or.inl ⟨by rfl, ?_⟩) (by assumption) ?_
        rotate_left 1
        · (intro W hSW; (try dsimp only at hSW); first | (go_simp; done) | (go_simp; with_reducible rfl))
        try simp only [Act.put, List.setIfInBounds_toArray, List.set_cons_zero, List.set_cons_succ]
        refine wpAnyH_take (i := 14) (oi := { dst := some 31, op := Op.move (Operand.tmp 5), type := 3, pos := "ref.go:109", after := #[{ on := 12, ground := Ground.guard }], guard := some (12, false) }) (v := ?_) rfl (by kernel_rfl) (by kernel_rfl) (by kernel_rfl) (fun _ _ _ h => h) (Or.inl ⟨by rfl, ?_⟩) (by assumption) ?_
        rotate_left 1
        · (intro W hSW; (try dsimp only at hSW); first | (go_simp; done) | (go_simp; with_reducible rfl))
        try simp only [Act.put, List.setIfInBounds_toArray, List.set_cons_zero, List.set_cons_succ]
        refine wpAnyH_take (i := 15) (oi := { dst := some 32, op := Op.indexAddr 57 (Operand.tmp 30) (Operand.tmp 31), type := 0, pos := "ref.go:109", after := #[{ on := 13, ground := Ground.data }, { on := 14, ground := Ground.data }, { on := 12, ground := Ground.guard }], guard := some (12, false) }) (v := ?_) rfl (by kernel_rfl) (by kernel_rfl) (by kernel_rfl) (fun _ _ _ h => h) (Or.inl ⟨by rfl, ?_⟩) (by assumption) ?_
        rotate_left 1
        · (intro W hSW; (try dsimp only at hSW); first | (go_simp; done) | (go_simp; with_reducible rfl))
        try simp only [Act.put, List.setIfInBounds_toArray, List.set_cons_zero, List.set_cons_succ]
        refine wpAnyH_take (i := 16) (oi := { dst := some 33, op := Op.fieldAddr 74 (Operand.tmp 32) 1, type := 0, pos := "ref.go:109", after := #[{ on := 15, ground := Ground.data }, { on := 12, ground := Ground.guard }], guard := some (12, false) }) (v := ?_) rfl (by kernel_rfl) (by kernel_rfl) (by kernel_rfl) (fun _ _ _ h => h) (Or.inl ⟨by rfl, ?_⟩) (by assumption) ?_
        rotate_left 1
        · (intro W hSW; (try dsimp only at hSW); first | (go_simp; done) | (go_simp; with_reducible rfl))
        try simp only [Act.put, List.setIfInBounds_toArray, List.set_cons_zero, List.set_cons_succ]
        refine wpAnyH_take (i := 17) (oi := { dst := some 34, op := Op.load 53 (Operand.tmp 33), type := 53, pos := "ref.go:109", after := #[{ on := 16, ground := Ground.data }, { on := 12, ground := Ground.guard }], guard := some (12, false) }) (v := ?_) rfl (by kernel_rfl) (by kernel_rfl) (by kernel_rfl) (fun _ _ _ h => h) (Or.inl ⟨by rfl, ?_⟩) (by assumption) ?_
        rotate_left 1
        · (intro W hSW; (try dsimp only at hSW); first | (go_simp; done) | (go_simp; with_reducible rfl))
        try simp only [Act.put, List.setIfInBounds_toArray, List.set_cons_zero, List.set_cons_succ]
        refine wpAnyH_take (i := 18) (oi := { dst := some 35, op := Op.move (Operand.tmp 1), type := 57, pos := "ref.go:109", after := #[{ on := 12, ground := Ground.guard }], guard := some (12, false) }) (v := ?_) rfl (by kernel_rfl) (by kernel_rfl) (by kernel_rfl) (fun _ _ _ h => h) (Or.inl ⟨by rfl, ?_⟩) (by assumption) ?_
        rotate_left 1
        · (intro W hSW; (try dsimp only at hSW); first | (go_simp; done) | (go_simp; with_reducible rfl))
        try simp only [Act.put, List.setIfInBounds_toArray, List.set_cons_zero, List.set_cons_succ]
        refine wpAnyH_take (i := 19) (oi := { dst := some 36, op := Op.move (Operand.tmp 5), type := 3, pos := "ref.go:109", after := #[{ on := 12, ground := Ground.guard }], guard := some (12, false) }) (v := ?_) rfl (by kernel_rfl) (by kernel_rfl) (by kernel_rfl) (fun _ _ _ h => h) (Or.inl ⟨by rfl, ?_⟩) (by assumption) ?_
        rotate_left 1
        · (intro W hSW; (try dsimp only at hSW); first | (go_simp; done) | (go_simp; with_reducible rfl))
        try simp only [Act.put, List.setIfInBounds_toArray, List.set_cons_zero, List.set_cons_succ]
        refine wpAnyH_take (i := 20) (oi := { dst := some 37, op := Op.indexAddr 57 (Operand.tmp 35) (Operand.tmp 36), type := 0, pos := "ref.go:109", after := #[{ on := 18, ground := Ground.data }, { on := 19, ground := Ground.data }, { on := 12, ground := Ground.guard }], guard := some (12, false) }) (v := ?_) rfl (by kernel_rfl) (by kernel_rfl) (by kernel_rfl) (fun _ _ _ h => h) (Or.inl ⟨by rfl, ?_⟩) (by assumption) ?_
        rotate_left 1
        · (intro W hSW; (try dsimp only at hSW); first | (go_simp; done) | (go_simp; with_reducible rfl))
        try simp only [Act.put, List.setIfInBounds_toArray, List.set_cons_zero, List.set_cons_succ]
        refine wpAnyH_take (i := 21) (oi := { dst := some 38, op := Op.fieldAddr 74 (Operand.tmp 37) 1, type := 0, pos := "ref.go:109", after := #[{ on := 20, ground := Ground.data }, { on := 12, ground := Ground.guard }], guard := some (12, false) }) (v := ?_) rfl (by kernel_rfl) (by kernel_rfl) (by kernel_rfl) (fun _ _ _ h => h) (Or.inl ⟨by rfl, ?_⟩) (by assumption) ?_
        rotate_left 1
        · (intro W hSW; (try dsimp only at hSW); first | (go_simp; done) | (go_simp; with_reducible rfl))
        try simp only [Act.put, List.setIfInBounds_toArray, List.set_cons_zero, List.set_cons_succ]
        refine wpAnyH_take (i := 22) (oi := { dst := some 39, op := Op.load 53 (Operand.tmp 38), type := 53, pos := "ref.go:109", after := #[{ on := 21, ground := Ground.data }, { on := 12, ground := Ground.guard }], guard := some (12, false) }) (v := ?_) rfl (by kernel_rfl) (by kernel_rfl) (by kernel_rfl) (fun _ _ _ h => h) (Or.inl ⟨by rfl, ?_⟩) (by assumption) ?_
        rotate_left 1
        · (intro W hSW; (try dsimp only at hSW); first | (go_simp; done) | (go_simp; with_reducible rfl))
        try simp only [Act.put, List.setIfInBounds_toArray, List.set_cons_zero, List.set_cons_succ]
        refine wpAnyH_ready (rs := [23]) (by kernel_rfl) (by simp) ?_
        refine (AllReadyH.cons (o := { dst := some 40, op := Op.call { callee := Callee.value (Operand.func 59), args := #[Operand.tmp 34, Operand.tmp 39], argTypes := #[53, 53] }, type := 4, pos := "ref.go:109", after := #[{ on := 17, ground := Ground.data }, { on := 22, ground := Ground.data }, { on := 12, ground := Ground.chain }, { on := 12, ground := Ground.guard }], guard := some (12, false) }) rfl (fun K hK => ?_) AllReadyH.nil)
        rw [if_pos (by rfl)]
        go_simp
        go_at_call 59
        refine (HE2.out _ (hgr1)).mono ?_
        rintro e wc2 ⟨rfl, gc2⟩
        have hgr2 := World.grownBy.trans hgr1 gc2
        go_wp2_with fail
        refine hK.out _ _ (HS.out _ hgr2) (fun hHeld => ?_)
        clear hK K
        try simp only [Act.put, List.setIfInBounds_toArray, List.set_cons_zero, List.set_cons_succ]
        refine wpAnyH_take (i := 24) (oi := { dst := some 41, op := Op.unOp UnOp.not 4 (Operand.tmp 40), type := 4, pos := "ref.go:109", after := #[{ on := 23, ground := Ground.data }, { on := 12, ground := Ground.guard }], guard := some (12, false) }) (v := ?_) rfl (by kernel_rfl) (by kernel_rfl) (by kernel_rfl) (fun _ _ _ h => h) (Or.inl ⟨by rfl, ?_⟩) (by assumption) ?_
        rotate_left 1
        · (intro W hSW; (try dsimp only at hSW); first | (go_simp; done) | (go_simp; with_reducible rfl))
        try simp only [Act.put, List.setIfInBounds_toArray, List.set_cons_zero, List.set_cons_succ]
        refine wpAnyH_take (i := 25) (oi := { dst := some 42, op := Op.pick (Operand.tmp 29) (Operand.const (Value.bool true)) (Operand.tmp 41), type := 4, pos := "ref.go:109", after := #[{ on := 12, ground := Ground.data }, { on := 24, ground := Ground.data }], guard := none }) (v := ?_) rfl (by kernel_rfl) (by kernel_rfl) (by kernel_rfl) (fun _ _ _ h => h) (Or.inl ⟨by rfl, ?_⟩) (by assumption) ?_
        rotate_left 1
        · (intro W hSW; (try dsimp only at hSW); first | (go_simp; done) | (go_simp; with_reducible rfl))
        try simp only [Act.put, List.setIfInBounds_toArray, List.set_cons_zero, List.set_cons_succ]
        refine wpAnyH_done (by kernel_rfl) ?_ _
        have hEND := hgr2
        clear hHeld
        have HE := Lib.hid hEND
        clear hEND
        cases Q2 with
        | false =>
          have HF : Hid (decide (l = m) = false) := Lib.hid (decide_eq_false (list_ne HX.out.1 HX.out.2.1 (fun e => of_decide_eq_false HX.out.2.2.2 (by rw [e]))))
          go_wp2_with fail
          go_ret
          exact ⟨by rw [HF.out]; rfl, HE.out⟩
        | true =>
          have HS2 : Hid (l[i]? = m[i]?) := Lib.hid (by rw [HX.out.1, HX.out.2.1, Prod.ext (of_decide_eq_true HX.out.2.2.1) (of_decide_eq_true HX.out.2.2.2)])
          go_wp2_with fail
          go_roundg (n - (i + 1))
          case measure => rw [HI.out.1]; omega
          case rel => exact ⟨i + 1, rfl, rfl, by omega, agree_step HI.out.2.1 HS2.out, HE.out⟩
    · have hie : i = n := by omega
      subst hie
      have hinB : decide (i < i) = false := by simp
      have HF : Hid (decide (l = m) = true) := Lib.hid (decide_eq_true (list_eq HH.out.1 HH.out.2.1 HI.out.2.1))
      go_wp2_with fail
      go_ret
      exact ⟨by rw [HF.out]; rfl, HI.out.2.2⟩

theorem own_kept0 {w w' : World} {B e k n : Nat} {v : Value} {cs : List Value} (h : w.ownsRow B e k v n cs) (hg : w.grownBy w' none) : w'.ownsRow B e k v n cs := h.kept hg (by cases hv : v.ownBlock <;> simp)

set_option maxRecDepth 100000 in
set_option maxHeartbeats 8000000 in
theorem rFree_calls (B : List Bd) (a : Option Addr) (c : Nat) (w : World) (h : Bds w a c B) (hl : B.length ≤ 10) (hx : ∀ x ∈ B, x.1.2.length ≤ 2000 ∧ x.2.2.length ≤ 2000) (hup : ∀ x ∈ B, Up x.1.2 ∧ Up x.2.2) (hfl : ∀ i, i ≤ 10 → (freeTo B i).length ≤ 100000) :
    Calls Try.prog 55 #[.slice a B.length c] w (FreeP B w) := by
  obtain ⟨i0, hi0, hz0, hz1, hz2⟩ := info_parts info79
  obtain ⟨n, hn⟩ : ∃ n, B.length = n := ⟨_, rfl⟩
  have HH := Lib.hid (And.intro hn (And.intro h (And.intro hx (And.intro hup hfl))))
  rw [hn] at hl ⊢
  clear h hx hup hfl hn
  go_enter Try.func55, Try.ntmps55
  go_wp2_with fail
  go_loopg [3, 4, 5] n (fun g s3 s4 s5 wr => ∃ i : Nat, s4 = .int .i64 (i : Int) ∧ g = n - i ∧ i ≤ n ∧ wr.ownsRow w.heap.size 79 2 s3 (freeTo B i).length ((freeTo B i).flatMap prCells) ∧ w.grownBy wr none)
  case atStart => exact ⟨0, rfl, rfl, Nat.zero_le _, World.ownsRow_nil _ _ _ _, grown_refl _ _⟩
  case round =>
    obtain ⟨i, rfl, hgi, hi, hown, hgr⟩ := hrel
    have HI := Lib.hid (And.intro hgi (And.intro hown hgr)); clear hgi hown hgr
    by_cases hin : i < n
    · have hinB : decide (i < n) = true := by simpa using hin
      have hinI : (i : Int) < (n : Int) := by omega
      obtain ⟨x, hx⟩ : ∃ x, B[i]? = some x := ⟨_, List.getElem?_eq_getElem (by rw [HH.out.1]; exact hin)⟩
      obtain ⟨b, o, rfl, hbx⟩ := HH.out.2.1.2 i x hx
      obtain ⟨xa1, xk1, xa2, xk2, x0, x1, x2, x3, xi1, xi2⟩ := hbx.parts
      have hxl := HH.out.2.2.1 x (List.mem_of_getElem? hx)
      have hxu := HH.out.2.2.2.1 x (List.mem_of_getElem? hx)
      have HNX : Hid (freeTo B (i + 1) = freeTo B i ++ (lacks x.2.2 x.1.2).map (fun r => ((i : Int), r))) := Lib.hid (by rw [freeTo_succ hx, freeX, lacks_diff hxu.2 hxu.1])
      have HFL := Lib.hid (HH.out.2.2.2.2 (i + 1) (by omega))
      have HHA := Lib.hid (fun (U : World) (z : Int) (g : w.grownBy U none) => (hasI_calls x.1.2 xa1 xk1 z U (xi1.grown g) (by omega)).mono (fun e w' h => (⟨h.1, by rw [h.2]; exact grown_refl _ _⟩ : e = .returned (.bool (decide (z ∈ x.1.2))) ∧ U.grownBy w' none)))
      obtain ⟨lo, hlo⟩ : ∃ k, x.1.2 = k := ⟨_, rfl⟩
      obtain ⟨hi', hhi⟩ : ∃ k, x.2.2 = k := ⟨_, rfl⟩
      obtain ⟨p1, hp1⟩ : ∃ k, lo.length = k := ⟨_, rfl⟩
      obtain ⟨p2, hp2⟩ : ∃ k, hi'.length = k := ⟨_, rfl⟩
      rw [hlo, hhi] at HNX
      rw [hlo, hp1] at HHA
      rw [hlo, hp1] at x1
      rw [hhi, hp2] at x3
      rw [hlo, hp1, hhi, hp2] at hxl
      rw [hhi] at xi2
      have HL := Lib.hid (And.intro hp2 (And.intro xi2 (And.intro x1 x3)))
      have hp2' := hxl.2
      clear hx hbx xi1 xi2 hxl hxu hlo hhi hp1 hp2 x0 x2 x1 x3
      go_wp2_with fail
      obtain ⟨w5, rfl⟩ : ∃ z, z = wr := ⟨_, rfl⟩
      go_loopg [3, 5] p2 (fun g s3 s5 wr => ∃ k : Nat, s5 = .int .i64 (k : Int) ∧ g = p2 - k ∧ k ≤ p2 ∧ wr.ownsRow w.heap.size 79 2 s3 (freeTo B i ++ (lacks (hi'.take k) lo).map (fun r => ((i : Int), r))).length ((freeTo B i ++ (lacks (hi'.take k) lo).map (fun r => ((i : Int), r))).flatMap prCells) ∧ w.grownBy wr none)
      case atStart => exact ⟨0, rfl, rfl, Nat.zero_le _, by rw [List.take_zero, show lacks [] lo = [] from rfl, List.map_nil, List.append_nil]; exact HI.out.2.1, HI.out.2.2⟩
      case round =>
        obtain ⟨k, rfl, hgj, hj, hown, hgr⟩ := hrel
        obtain ⟨R, hR⟩ : ∃ R, freeTo B i ++ (lacks (hi'.take k) lo).map (fun r => ((i : Int), r)) = R := ⟨_, rfl⟩
        obtain ⟨q, hq⟩ : ∃ q, R.length = q := ⟨_, rfl⟩
        rw [hR, hq] at hown
        obtain ⟨va, vc, rfl⟩ := own_shape hown
        have HR := Lib.hid (And.intro hR hq); clear hR hq
        have hxc := HL.out.2.2
        have x1 := hgr.cell hxc.1 (by simp)
        have x3 := hgr.cell hxc.2 (by simp)
        clear hxc
        have HJ := Lib.hid (And.intro hgj (And.intro hown hgr)); clear hgj hown hgr
        by_cases hjn : k < p2
        · have hjB : decide (k < p2) = true := by simpa using hjn
          have hjI : (k : Int) < (p2 : Int) := by omega
          obtain ⟨z, hz⟩ : ∃ z, hi'[k]? = some z := ⟨_, List.getElem?_eq_getElem (by rw [HL.out.1]; exact hjn)⟩
          obtain ⟨tb, to, rfl, hcell⟩ := (HL.out.2.1.grown HJ.out.2.2).at hz
          have HT := Lib.hid (lacks_take (ys := lo) hz)
          have HLE : Hid (q ≤ 100000) := Lib.hid (by
            rw [← HR.out.2, ← HR.out.1]
            have h1 := HFL.out
            rw [HNX.out] at h1
            rw [List.length_append, List.length_map] at h1 ⊢
            have h2 : (lacks (hi'.take k) lo).length ≤ (lacks hi' lo).length := by
              rw [lacks, lacks]
              exact ((List.take_sublist k hi').filter _).length_le
            omega)
          obtain ⟨Q, hQ⟩ : ∃ Q, decide (z ∈ lo) = Q := ⟨_, rfl⟩
          have HHZ := Lib.hid (HHA.out wr.drew z (HJ.out.2.2.trans (⟨rfl, rfl, rfl, Nat.le_refl _, fun _ _ _ => rfl⟩ : wr.grownBy wr.drew none)))
          rw [hQ] at HHZ
          have HQ := Lib.hid hQ
          clear hz hQ
          have HXC := Lib.hid (And.intro x3 hcell)
          go_wp2_with fail
          have HS := Lib.hid (fun (Wh : World) (hWh : wr.grownBy Wh none) => (⟨hWh, hWh.cell x1 (by simp), hWh.cell x3 (by simp), hWh.cell hcell (by simp)⟩ : (fun Wh : World => wr.grownBy Wh none ∧ Wh.cell? ⟨b, o + i * 4 + 1, none⟩ = some (.slice xa1 p1 xk1) ∧ Wh.cell? ⟨b, o + i * 4 + 3, none⟩ = some (.slice (some ⟨tb, to, none⟩) p2 xk2) ∧ Wh.cell? ⟨tb, to + k, none⟩ = some (.int .i64 z)) Wh))
          clear x1 x3 hcell
          have hdr : wr.grownBy wr.drew none := ⟨rfl, rfl, rfl, Nat.le_refl _, fun _ _ _ => rfl⟩
          refine wp_region_held_drew (S := (fun Wh : World => wr.grownBy Wh none ∧ Wh.cell? ⟨b, o + i * 4 + 1, none⟩ = some (.slice xa1 p1 xk1) ∧ Wh.cell? ⟨b, o + i * 4 + 3, none⟩ = some (.slice (some ⟨tb, to, none⟩) p2 xk2) ∧ Wh.cell? ⟨tb, to + k, none⟩ = some (.int .i64 z))) (by kernel_rfl) (HS.out _ hdr) (fun hHeld => ?_)
          refine wpAnyH_take (i := 0) (oi := { dst := some 23, op := Op.move (Operand.tmp 0), type := 57, pos := "ref.go:73", after := #[], guard := none }) (v := ?_) rfl (by kernel_rfl) (by kernel_rfl) (by kernel_rfl) (fun _ _ _ h => h) (Or.inl ⟨by rfl, ?_⟩) (by assumption) ?_
          rotate_left 1
          · (intro W hSW; (try dsimp only at hSW); first | (go_simp; done) | (go_simp; with_reducible rfl))
          try simp only [Act.put, List.setIfInBounds_toArray, List.set_cons_zero, List.set_cons_succ]
          refine wpAnyH_take (i := 1) (oi := { dst := some 24, op := Op.move (Operand.tmp 4), type := 3, pos := "ref.go:73", after := #[], guard := none }) (v := ?_) rfl (by kernel_rfl) (by kernel_rfl) (by kernel_rfl) (fun _ _ _ h => h) (Or.inl ⟨by rfl, ?_⟩) (by assumption) ?_
          rotate_left 1
          · (intro W hSW; (try dsimp only at hSW); first | (go_simp; done) | (go_simp; with_reducible rfl))
          try simp only [Act.put, List.setIfInBounds_toArray, List.set_cons_zero, List.set_cons_succ]
          refine wpAnyH_take (i := 2) (oi := { dst := some 25, op := Op.indexAddr 57 (Operand.tmp 23) (Operand.tmp 24), type := 0, pos := "ref.go:73", after := #[{ on := 0, ground := Ground.data }, { on := 1, ground := Ground.data }], guard := none }) (v := ?_) rfl (by kernel_rfl) (by kernel_rfl) (by kernel_rfl) (fun _ _ _ h => h) (Or.inl ⟨by rfl, ?_⟩) (by assumption) ?_
          rotate_left 1
          · (intro W hSW; (try dsimp only at hSW); first | (go_simp; done) | (go_simp; with_reducible rfl))
          try simp only [Act.put, List.setIfInBounds_toArray, List.set_cons_zero, List.set_cons_succ]
          refine wpAnyH_take (i := 3) (oi := { dst := some 26, op := Op.fieldAddr 74 (Operand.tmp 25) 0, type := 0, pos := "ref.go:73", after := #[{ on := 2, ground := Ground.data }], guard := none }) (v := ?_) rfl (by kernel_rfl) (by kernel_rfl) (by kernel_rfl) (fun _ _ _ h => h) (Or.inl ⟨by rfl, ?_⟩) (by assumption) ?_
          rotate_left 1
          · (intro W hSW; (try dsimp only at hSW); first | (go_simp; done) | (go_simp; with_reducible rfl))
          try simp only [Act.put, List.setIfInBounds_toArray, List.set_cons_zero, List.set_cons_succ]
          refine wpAnyH_take (i := 4) (oi := { dst := some 27, op := Op.fieldAddr 53 (Operand.tmp 26) 1, type := 0, pos := "ref.go:73", after := #[{ on := 3, ground := Ground.data }], guard := none }) (v := ?_) rfl (by kernel_rfl) (by kernel_rfl) (by kernel_rfl) (fun _ _ _ h => h) (Or.inl ⟨by rfl, ?_⟩) (by assumption) ?_
          rotate_left 1
          · (intro W hSW; (try dsimp only at hSW); first | (go_simp; done) | (go_simp; with_reducible rfl))
          try simp only [Act.put, List.setIfInBounds_toArray, List.set_cons_zero, List.set_cons_succ]
          refine wpAnyH_take (i := 5) (oi := { dst := some 28, op := Op.load 28 (Operand.tmp 27), type := 28, pos := "ref.go:73", after := #[{ on := 4, ground := Ground.data }], guard := none }) (v := ?_) rfl (by kernel_rfl) (by kernel_rfl) (by kernel_rfl) (fun _ _ _ h => h) (Or.inl ⟨by rfl, ?_⟩) (by assumption) ?_
          rotate_left 1
          · (intro W hSW; (try dsimp only at hSW); first | (go_simp; done) | (go_simp; with_reducible rfl))
          try simp only [Act.put, List.setIfInBounds_toArray, List.set_cons_zero, List.set_cons_succ]
          refine wpAnyH_take (i := 6) (oi := { dst := some 29, op := Op.move (Operand.tmp 0), type := 57, pos := "ref.go:73", after := #[], guard := none }) (v := ?_) rfl (by kernel_rfl) (by kernel_rfl) (by kernel_rfl) (fun _ _ _ h => h) (Or.inl ⟨by rfl, ?_⟩) (by assumption) ?_
          rotate_left 1
          · (intro W hSW; (try dsimp only at hSW); first | (go_simp; done) | (go_simp; with_reducible rfl))
          try simp only [Act.put, List.setIfInBounds_toArray, List.set_cons_zero, List.set_cons_succ]
          refine wpAnyH_take (i := 7) (oi := { dst := some 30, op := Op.move (Operand.tmp 4), type := 3, pos := "ref.go:73", after := #[], guard := none }) (v := ?_) rfl (by kernel_rfl) (by kernel_rfl) (by kernel_rfl) (fun _ _ _ h => h) (Or.inl ⟨by rfl, ?_⟩) (by assumption) ?_
          rotate_left 1
          · (intro W hSW; (try dsimp only at hSW); first | (go_simp; done) | (go_simp; with_reducible rfl))
          try simp only [Act.put, List.setIfInBounds_toArray, List.set_cons_zero, List.set_cons_succ]
          refine wpAnyH_take (i := 8) (oi := { dst := some 31, op := Op.indexAddr 57 (Operand.tmp 29) (Operand.tmp 30), type := 0, pos := "ref.go:73", after := #[{ on := 6, ground := Ground.data }, { on := 7, ground := Ground.data }], guard := none }) (v := ?_) rfl (by kernel_rfl) (by kernel_rfl) (by kernel_rfl) (fun _ _ _ h => h) (Or.inl ⟨by rfl, ?_⟩) (by assumption) ?_
          rotate_left 1
          · (intro W hSW; (try dsimp only at hSW); first | (go_simp; done) | (go_simp; with_reducible rfl))
          try simp only [Act.put, List.setIfInBounds_toArray, List.set_cons_zero, List.set_cons_succ]
          refine wpAnyH_take (i := 9) (oi := { dst := some 32, op := Op.fieldAddr 74 (Operand.tmp 31) 1, type := 0, pos := "ref.go:73", after := #[{ on := 8, ground := Ground.data }], guard := none }) (v := ?_) rfl (by kernel_rfl) (by kernel_rfl) (by kernel_rfl) (fun _ _ _ h => h) (Or.inl ⟨by rfl, ?_⟩) (by assumption) ?_
          rotate_left 1
          · (intro W hSW; (try dsimp only at hSW); first | (go_simp; done) | (go_simp; with_reducible rfl))
          try simp only [Act.put, List.setIfInBounds_toArray, List.set_cons_zero, List.set_cons_succ]
          refine wpAnyH_take (i := 10) (oi := { dst := some 33, op := Op.fieldAddr 53 (Operand.tmp 32) 1, type := 0, pos := "ref.go:73", after := #[{ on := 9, ground := Ground.data }], guard := none }) (v := ?_) rfl (by kernel_rfl) (by kernel_rfl) (by kernel_rfl) (fun _ _ _ h => h) (Or.inl ⟨by rfl, ?_⟩) (by assumption) ?_
          rotate_left 1
          · (intro W hSW; (try dsimp only at hSW); first | (go_simp; done) | (go_simp; with_reducible rfl))
          try simp only [Act.put, List.setIfInBounds_toArray, List.set_cons_zero, List.set_cons_succ]
          refine wpAnyH_take (i := 11) (oi := { dst := some 34, op := Op.load 28 (Operand.tmp 33), type := 28, pos := "ref.go:73", after := #[{ on := 10, ground := Ground.data }], guard := none }) (v := ?_) rfl (by kernel_rfl) (by kernel_rfl) (by kernel_rfl) (fun _ _ _ h => h) (Or.inl ⟨by rfl, ?_⟩) (by assumption) ?_
          rotate_left 1
          · (intro W hSW; (try dsimp only at hSW); first | (go_simp; done) | (go_simp; with_reducible rfl))
          try simp only [Act.put, List.setIfInBounds_toArray, List.set_cons_zero, List.set_cons_succ]
          refine wpAnyH_take (i := 12) (oi := { dst := some 35, op := Op.move (Operand.tmp 5), type := 3, pos := "ref.go:73", after := #[], guard := none }) (v := ?_) rfl (by kernel_rfl) (by kernel_rfl) (by kernel_rfl) (fun _ _ _ h => h) (Or.inl ⟨by rfl, ?_⟩) (by assumption) ?_
          rotate_left 1
          · (intro W hSW; (try dsimp only at hSW); first | (go_simp; done) | (go_simp; with_reducible rfl))
          try simp only [Act.put, List.setIfInBounds_toArray, List.set_cons_zero, List.set_cons_succ]
          refine wpAnyH_take (i := 13) (oi := { dst := some 36, op := Op.indexAddr 28 (Operand.tmp 34) (Operand.tmp 35), type := 0, pos := "ref.go:73", after := #[{ on := 11, ground := Ground.data }, { on := 12, ground := Ground.data }], guard := none }) (v := ?_) rfl (by kernel_rfl) (by kernel_rfl) (by kernel_rfl) (fun _ _ _ h => h) (Or.inl ⟨by rfl, ?_⟩) (by assumption) ?_
          rotate_left 1
          · (intro W hSW; (try dsimp only at hSW); first | (go_simp; done) | (go_simp; with_reducible rfl))
          try simp only [Act.put, List.setIfInBounds_toArray, List.set_cons_zero, List.set_cons_succ]
          refine wpAnyH_take (i := 14) (oi := { dst := some 37, op := Op.load 3 (Operand.tmp 36), type := 3, pos := "ref.go:73", after := #[{ on := 13, ground := Ground.data }], guard := none }) (v := ?_) rfl (by kernel_rfl) (by kernel_rfl) (by kernel_rfl) (fun _ _ _ h => h) (Or.inl ⟨by rfl, ?_⟩) (by assumption) ?_
          rotate_left 1
          · (intro W hSW; (try dsimp only at hSW); first | (go_simp; done) | (go_simp; with_reducible rfl))
          try simp only [Act.put, List.setIfInBounds_toArray, List.set_cons_zero, List.set_cons_succ]
          refine wpAnyH_ready (rs := [15]) (by kernel_rfl) (by simp) ?_
          refine (AllReadyH.cons (o := { dst := some 38, op := Op.call { callee := Callee.value (Operand.func 110), args := #[Operand.tmp 28, Operand.tmp 37], argTypes := #[28, 3] }, type := 4, pos := "ref.go:73", after := #[{ on := 5, ground := Ground.data }, { on := 14, ground := Ground.data }], guard := none }) rfl (fun K hK => ?_) AllReadyH.nil)
          rw [if_pos (by rfl)]
          go_simp
          go_at_call 110
          refine (HHZ.out).mono ?_
          rintro e wc1 ⟨rfl, gc1⟩
          have hgr1 := World.grownBy.trans hdr gc1
          go_wp2_with fail
          refine hK.out _ _ (HS.out _ hgr1) (fun hHeld => ?_)
          clear hK K
          try simp only [Act.put, List.setIfInBounds_toArray, List.set_cons_zero, List.set_cons_succ]
          refine wpAnyH_take (i := 16) (oi := { dst := some 39, op := Op.unOp UnOp.not 4 (Operand.tmp 38), type := 4, pos := "ref.go:73", after := #[{ on := 15, ground := Ground.data }], guard := none }) (v := ?_) rfl (by kernel_rfl) (by kernel_rfl) (by kernel_rfl) (fun _ _ _ h => h) (Or.inl ⟨by rfl, ?_⟩) (by assumption) ?_
          rotate_left 1
          · (intro W hSW; (try dsimp only at hSW); first | (go_simp; done) | (go_simp; with_reducible rfl))
          try simp only [Act.put, List.setIfInBounds_toArray, List.set_cons_zero, List.set_cons_succ]
          refine wpAnyH_done (by kernel_rfl) ?_ _
          have hEND := hgr1
          clear hHeld
          have HE := Lib.hid hEND
          clear hEND
          cases Q with
          | true =>
            have HO : Hid (lacks (hi'.take (k + 1)) lo = lacks (hi'.take k) lo) := Lib.hid (by rw [HT.out, if_pos (of_decide_eq_true HQ.out)])
            go_wp2_with fail
            go_roundg (p2 - (k + 1))
            case measure => rw [HJ.out.1]; omega
            case rel => exact ⟨k + 1, rfl, rfl, by omega, by rw [HO.out, HR.out.1, HR.out.2]; exact own_kept0 HJ.out.2.1 HE.out, HJ.out.2.2.trans HE.out⟩
          | false =>
            have HO : Hid (lacks (hi'.take (k + 1)) lo = lacks (hi'.take k) lo ++ [z]) := Lib.hid (by rw [HT.out, if_neg (of_decide_eq_false HQ.out)])
            have HW := Lib.hid (And.intro (own_kept0 HJ.out.2.1 HE.out) (HJ.out.2.2.trans HE.out))
            have x3 := HE.out.cell HXC.out.1 (by simp)
            have hcell := HE.out.cell HXC.out.2 (by simp)
            have hle := HLE.out
            have hsz := HW.out.2.size
            go_wp2_with (at_builtin; refine wpList_append_own _ rfl _ _ 67 rfl w.heap.size 79 i0 (.agg #[.int .i64 0, .int .i64 0]) 2 16 Try.underlying67 hi0 hz0 hz1 hz2 rfl (by decide) _ _ _ rfl (HW.out.1.alloc _) ⟨wc1.heap.size, 0, none⟩ 1 1 [.int .i64 (i : Int), .int .i64 z] rfl rfl (cell_two_new _ _ _ _) (fun u hu => by simp at hu; rcases hu with rfl | rfl <;> rfl) (by unfold maxLen; omega) (by omega) (by rw [World.size_alloc]; omega) ?_)
            intro v' w3 hown' hgrow3 _
            have hnew : (freeTo B i ++ (lacks (hi'.take (k + 1)) lo).map (fun r => ((i : Int), r))) = (freeTo B i ++ (lacks (hi'.take k) lo).map (fun r => ((i : Int), r))) ++ [((i : Int), z)] := by rw [HO.out, List.map_append, List.append_assoc]; rfl
            rw [HR.out.1] at hnew
            have HO3 : Hid (w3.ownsRow w.heap.size 79 2 v' (freeTo B i ++ (lacks (hi'.take (k + 1)) lo).map (fun r => ((i : Int), r))).length ((freeTo B i ++ (lacks (hi'.take (k + 1)) lo).map (fun r => ((i : Int), r))).flatMap prCells)) := Lib.hid (by
              rw [hnew, List.length_append, HR.out.2, List.flatMap_append]; exact hown')
            have HG3 : Hid (w.grownBy w3 none) := Lib.hid (grown_own (HW.out.2.trans (World.grownBy_alloc _ _ none)) hgrow3 (fun j hj => (HW.out.1.lt j hj).1))
            clear hown' hgrow3 hnew
            go_wp2_with fail
            go_roundg (p2 - (k + 1))
            case measure => rw [HJ.out.1]; omega
            case rel => exact ⟨k + 1, rfl, rfl, by omega, HO3.out, HG3.out⟩
        · have hje : k = p2 := by omega
          subst hje
          have hjB : decide (k < k) = false := by simp
          have HO : Hid (wr.ownsRow w.heap.size 79 2 (.slice va q vc) (freeTo B (i + 1)).length ((freeTo B (i + 1)).flatMap prCells)) := Lib.hid (by
            have h0 := HR.out
            rw [List.take_of_length_le (by rw [HL.out.1]; exact Nat.le_refl _), ← HNX.out] at h0
            rw [h0.1, h0.2]
            exact HJ.out.2.1)
          go_wp2_with fail
          go_roundg (n - (i + 1))
          case measure => rw [HI.out.1]; omega
          case rel => exact ⟨i + 1, rfl, rfl, by omega, HO.out, HJ.out.2.2⟩
    · have hie : i = n := by omega
      subst hie
      have hinB : decide (i < i) = false := by simp
      obtain ⟨va, vc, rfl, hsp⟩ := pairs_span HI.out.2.1
      have HR := Lib.hid (And.intro hsp HI.out.2.2)
      clear hsp
      go_wp2_with fail
      go_ret
      exact ⟨va, vc, by rw [HH.out.1]; rfl, by rw [HH.out.1]; exact HR.out.1, HR.out.2⟩
end Go.Proofs.Ytbddpjofhddilaa

/- The meet of two rows of bounds: the reference. -/
import Derived.Test.YtbddpjofhddilaaYF
import Derived.Deep.RegionHeld3
namespace Go.Proofs.Ytbddpjofhddilaa
open Go.RowKit

set_option maxRecDepth 100000 in
set_option maxHeartbeats 16000000 in
theorem rMeet_calls (A B : List Bd) (a a' : Option Addr) (c c' : Nat) (w : World) (h : Bds w a c A) (h' : Bds w a' c' B) (hl : A.length ≤ 10) (hA : ∀ x ∈ A, x.1.2.length ≤ 2000 ∧ x.2.2.length ≤ 2000) (hB : ∀ x ∈ B, x.1.2.length ≤ 2000 ∧ x.2.2.length ≤ 2000) (uA : ∀ x ∈ A, Up x.1.2 ∧ Up x.2.2) (uB : ∀ x ∈ B, Up x.1.2 ∧ Up x.2.2) :
    Calls Try.prog 49 #[.slice a A.length c, .slice a' B.length c'] w (MeetP A B w) := by
  obtain ⟨i0, hi0, hz0, hz1, hz2⟩ := info_parts info74
  obtain ⟨n, hn⟩ : ∃ n, A.length = n := ⟨_, rfl⟩
  obtain ⟨m, hm⟩ : ∃ m, B.length = m := ⟨_, rfl⟩
  have HH := Lib.hid (And.intro h (And.intro h' (And.intro hA hB)))
  have HUP := Lib.hid (And.intro uA uB)
  rw [hn] at hl
  rw [hn, hm]
  have HN := Lib.hid (And.intro hn hm)
  clear h h' hA hB uA uB hn hm
  by_cases hnm : n = m
  rotate_left
  · have f0 : ((n : Int) != (m : Int)) = true := by simp; omega
    have HM : Hid (meetR A B = ([], 1)) := Lib.hid (by
      rw [meetR, if_neg]
      intro hq
      have := (allB_iff.1 hq).1
      rw [HN.out.1, HN.out.2] at this
      exact hnm this)
    clear hnm
    go_enter Try.func49, Try.ntmps49
    go_wp2_with fail
    go_ret2
    exact meetP_none HM.out (grown_refl _ _)
  have f0 : ((n : Int) != (m : Int)) = false := by simp; omega
  have HLM := Lib.hid hnm; clear hnm
  go_enter Try.func49, Try.ntmps49
  go_wp2_with fail
  clear f0
  go_loopg [6, 7] n (fun g s6 s7 wr => ∃ i : Nat, s6 = .int .i64 (i : Int) ∧ g = n - i ∧ i ≤ n ∧ (∀ (j : Nat) (x y : Bd), j < i → A[j]? = some x → B[j]? = some y → meetB x y = true) ∧ wr = w)
  case atStart => exact ⟨0, rfl, rfl, Nat.zero_le _, fun j _ _ hj => absurd hj (Nat.not_lt_zero _), rfl⟩
  case round =>
    obtain ⟨i, rfl, hgi, hi, hok, rfl⟩ := hrel
    have HI := Lib.hid (And.intro hgi hok); clear hgi hok
    by_cases hin : i < n
    · have hinB : decide (i < n) = true := by simpa using hin
      have hinI : (i : Int) < (n : Int) := by omega
      have hinM : (i : Int) < (m : Int) := by have := HLM.out; omega
      obtain ⟨x, hx⟩ : ∃ x, A[i]? = some x := ⟨_, List.getElem?_eq_getElem (by rw [HN.out.1]; exact hin)⟩
      obtain ⟨y, hy⟩ : ∃ y, B[i]? = some y := ⟨_, List.getElem?_eq_getElem (by rw [HN.out.2, ← HLM.out]; exact hin)⟩
      obtain ⟨b, o, rfl, hbx⟩ := HH.out.1.2 i x hx
      obtain ⟨b', o', rfl, hby⟩ := HH.out.2.1.2 i y hy
      obtain ⟨xa1, xk1, xa2, xk2, x0, x1, x2, x3, _, _⟩ := hbx.parts
      obtain ⟨ya1, yk1, ya2, yk2, y0, y1, y2, y3, _, _⟩ := hby.parts
      have HMB : Hid (meetB x y = (decide (x.2.1 = x.1.1) && decide (y.1.1 = x.1.1) && decide (y.2.1 = x.1.1))) := Lib.hid (by
        rw [meetB]
        simp only [arityB, List.all_cons, List.all_nil, Bool.and_true, Bool.and_assoc])
      obtain ⟨k1, hk1⟩ : ∃ k, x.1.1 = k := ⟨_, rfl⟩
      obtain ⟨k2, hk2⟩ : ∃ k, x.2.1 = k := ⟨_, rfl⟩
      obtain ⟨l1, hl1⟩ : ∃ k, y.1.1 = k := ⟨_, rfl⟩
      obtain ⟨l2, hl2⟩ : ∃ k, y.2.1 = k := ⟨_, rfl⟩
      rw [hk1, hk2, hl1, hl2] at HMB
      rw [hk1] at x0
      rw [hk2] at x2
      rw [hl1] at y0
      rw [hl2] at y2
      have HNO : Hid (meetB x y = false → meetR A B = ([], 1)) := Lib.hid (fun hf => by
        rw [meetR, if_neg]
        intro hq
        have := (allB_iff.1 hq).2 i x y hx hy
        rw [hf] at this
        cases this)
      have HX := Lib.hid (And.intro hx hy)
      clear hx hy hbx hby hk1 hk2 hl1 hl2 x1 x3 y1 y3
      by_cases q1 : k2 = k1
      rotate_left
      · have f1 : (k2 != k1) = true := by simpa using q1
        have HM := Lib.hid (HNO.out (by rw [HMB.out, decide_eq_false q1]; rfl))
        clear q1
        go_wp2_with fail
        go_ret2
        exact meetP_none HM.out (grown_refl _ _)
      have f1 : (k2 != k1) = false := by simpa using q1
      by_cases q2 : l1 = k1
      rotate_left
      · have f2 : (l1 != k1) = true := by simpa using q2
        have HM := Lib.hid (HNO.out (by rw [HMB.out, decide_eq_false q2, Bool.and_false]; rfl))
        clear q1 q2
        go_wp2_with fail
        go_ret2
        exact meetP_none HM.out (grown_refl _ _)
      have f2 : (l1 != k1) = false := by simpa using q2
      by_cases q3 : l2 = k1
      rotate_left
      · have f3 : (l2 != k1) = true := by simpa using q3
        have HM := Lib.hid (HNO.out (by rw [HMB.out, decide_eq_false q3, Bool.and_false]))
        clear q1 q2 q3
        go_wp2_with fail
        go_ret2
        exact meetP_none HM.out (grown_refl _ _)
      have f3 : (l2 != k1) = false := by simpa using q3
      have HS2 : Hid (∀ (j : Nat) (x y : Bd), j < i + 1 → A[j]? = some x → B[j]? = some y → meetB x y = true) := Lib.hid (fun j x' y' hj h1 h2 => by
        by_cases hji : j = i
        · subst hji
          rw [HX.out.1] at h1
          rw [HX.out.2] at h2
          cases h1
          cases h2
          rw [HMB.out, decide_eq_true q1, decide_eq_true q2, decide_eq_true q3]; rfl
        · exact HI.out.2 j x' y' (by omega) h1 h2)
      clear q1 q2 q3
      go_wp2_with fail
      go_roundg (n - (i + 1))
      case measure => rw [HI.out.1]; omega
      case rel => exact ⟨i + 1, rfl, rfl, by omega, HS2.out, rfl⟩
    · have hie : i = n := by omega
      subst hie
      have hinB : decide (i < i) = false := by simp
      have HQ : Hid (allB meetB A B = true) := Lib.hid (allB_iff.2 ⟨by rw [HN.out.1, HN.out.2, ← HLM.out], fun j x y h1 h2 => HI.out.2 j x y (by have := (List.getElem?_eq_some_iff.1 h1).1; rw [HN.out.1] at this; exact this) h1 h2⟩)
      obtain ⟨n, rfl⟩ : ∃ z, z = i := ⟨_, rfl⟩
      clear hin HI
      go_wp2_with fail
      clear hinB hi
      obtain ⟨w, rfl⟩ : ∃ z, z = wr := ⟨_, rfl⟩
      go_loopg [8, 9, 10] n (fun g s8 s9 s10 wr => ∃ (i : Nat) (D : List Db), s9 = .int .i64 (i : Int) ∧ g = n - i ∧ i ≤ n ∧ D.map (·.1) = (List.zipWith meetX A B).take i ∧ OutB wr w.heap.size s8 D ∧ w.grownBy wr none ∧ ∀ (j : Nat) (x y : Bd), j < i → A[j]? = some x → B[j]? = some y → okX x y = true)
      case atStart => exact ⟨0, [], rfl, rfl, Nat.zero_le _, rfl, Out.start _ _ _, grown_refl _ _, fun j _ _ hj => absurd hj (Nat.not_lt_zero _)⟩
      case round =>
        obtain ⟨i, D, rfl, hgi, hi, hD, hO, hgr, hok⟩ := hrel
        have hDl : D.length = i := by rw [← List.length_map (f := (·.1)), hD, List.length_take, List.length_zipWith, HN.out.1, HN.out.2, ← HLM.out]; omega
        have HI := Lib.hid (And.intro hgi (And.intro hD (And.intro hgr (And.intro hDl hok)))); clear hgi hD hgr hok
        have HO := Lib.hid hO; clear hO
        by_cases hin : i < n
        · have hinB : decide (i < n) = true := by simpa using hin
          have hinI : (i : Int) < (n : Int) := by omega
          have hinM : (i : Int) < (m : Int) := by have := HLM.out; omega
          obtain ⟨x, hx⟩ : ∃ x, A[i]? = some x := ⟨_, List.getElem?_eq_getElem (by rw [HN.out.1]; exact hin)⟩
          obtain ⟨y, hy⟩ : ∃ y, B[i]? = some y := ⟨_, List.getElem?_eq_getElem (by rw [HN.out.2, ← HLM.out]; exact hin)⟩
          obtain ⟨b, o, rfl, hbx⟩ := (HH.out.1.grown HI.out.2.2.1).2 i x hx
          obtain ⟨b', o', rfl, hby⟩ := (HH.out.2.1.grown HI.out.2.2.1).2 i y hy
          obtain ⟨xa1, xk1, xa2, xk2, x0, x1, x2, x3, xi1, xi2⟩ := hbx.parts
          obtain ⟨ya1, yk1, ya2, yk2, y0, y1, y2, y3, yi1, yi2⟩ := hby.parts
          have hlx := HH.out.2.2.1 x (List.mem_of_getElem? hx)
          have hly := HH.out.2.2.2 y (List.mem_of_getElem? hy)
          have HX := Lib.hid (And.intro hx (And.intro hy (And.intro hlx hly)))
          have hux := HUP.out.1 x (List.mem_of_getElem? hx)
          have huy := HUP.out.2 y (List.mem_of_getElem? hy)
          have HUN := Lib.hid (fun (W : World) (g : wr.grownBy W none) => rUnion_calls x.1.1 y.1.1 x.1.2 y.1.2 xa1 ya1 xk1 yk1 W (xi1.grown g) (yi1.grown g) (by omega) (by omega) hux.1 huy.1)
          have HIN := Lib.hid (fun (W : World) (g : wr.grownBy W none) => by
            have h := rInter_calls x.2.1 y.2.1 x.2.2 y.2.2 xa2 ya2 xk2 yk2 W (xi2.grown g) (yi2.grown g) (by omega) (by omega) huy.2
            rw [shares_inter hux.2 huy.2] at h
            exact h)
          have hml := mlen_X (x := x) (y := y) (by omega) (by omega)
          have HIC := Lib.hid (fun (W : World) (ua ia : Option Addr) (uc ic : Nat) (hu : IntsW W ua uc (unionL x.1.2 y.1.2)) (hi : IntsW W ia ic (interL x.2.2 y.2.2)) => by
            have h := rIn_calls x.1.1 x.2.1 (unionL x.1.2 y.1.2) (interL x.2.2 y.2.2) ua ia uc ic W hu hi hml.1 hml.2 (merge_up _ _ _ hux.2 huy.2)
            rw [lacks_inB (xs := unionL x.1.2 y.1.2) (ys := interL x.2.2 y.2.2) (merge_up _ _ _ hux.1 huy.1) (merge_up _ _ _ hux.2 huy.2)] at h
            exact h)
          obtain ⟨x1n, hx1n⟩ : ∃ n, x.1.2.length = n := ⟨_, rfl⟩
          obtain ⟨x2n, hx2n⟩ : ∃ n, x.2.2.length = n := ⟨_, rfl⟩
          obtain ⟨y1n, hy1n⟩ : ∃ n, y.1.2.length = n := ⟨_, rfl⟩
          obtain ⟨y2n, hy2n⟩ : ∃ n, y.2.2.length = n := ⟨_, rfl⟩
          obtain ⟨U, hU⟩ : ∃ U, unionL x.1.2 y.1.2 = U := ⟨_, rfl⟩
          obtain ⟨V, hV⟩ : ∃ U, interL x.2.2 y.2.2 = U := ⟨_, rfl⟩
          obtain ⟨k1, hk1⟩ : ∃ k, x.1.1 = k := ⟨_, rfl⟩
          obtain ⟨k2, hk2⟩ : ∃ k, x.2.1 = k := ⟨_, rfl⟩
          obtain ⟨l1, hl1⟩ : ∃ k, y.1.1 = k := ⟨_, rfl⟩
          obtain ⟨l2, hl2⟩ : ∃ k, y.2.1 = k := ⟨_, rfl⟩
          have HMX : Hid (meetX x y = ((k1, U), (k2, V)) ∧ okX x y = inB U V) := Lib.hid ⟨by rw [meetX, hU, hV, hk1, hk2], by simp only [okX, meetX, hU, hV]⟩
          rw [hk1, hx1n] at HUN
          rw [hl1, hy1n, hU] at HUN
          rw [hk2, hx2n] at HIN
          rw [hl2, hy2n, hV] at HIN
          rw [hk1, hk2, hU, hV] at HIC
          obtain ⟨un, hun⟩ : ∃ n, U.length = n := ⟨_, rfl⟩
          obtain ⟨vn, hvn⟩ : ∃ n, V.length = n := ⟨_, rfl⟩
          rw [hun] at HUN
          rw [hvn] at HIN
          rw [hun, hvn] at HIC
          rw [hk1] at x0
          rw [hk2] at x2
          rw [hl1] at y0
          rw [hl2] at y2
          rw [hx1n] at x1
          rw [hx2n] at x3
          rw [hy1n] at y1
          rw [hy2n] at y3
          have HUV := Lib.hid (And.intro hun hvn)
          obtain ⟨ga, gc, hs8⟩ := own_shape HO.out.own
          subst hs8
          rw [hDl] at HO ⊢
          clear hDl hbx hby hux huy hlx hly hx hy hml xi1 xi2 yi1 yi2 hx1n hx2n hy1n hy2n hU hV hk1 hk2 hl1 hl2 hun hvn
          go_wp2_with fail
          have HS := Lib.hid (fun (Wh : World) (hWh : wr.grownBy Wh none) => (⟨hWh, hWh.cell x0 (by simp), hWh.cell x1 (by simp), hWh.cell x2 (by simp), hWh.cell x3 (by simp), hWh.cell y0 (by simp), hWh.cell y1 (by simp), hWh.cell y2 (by simp), hWh.cell y3 (by simp)⟩ : (fun Wh : World => wr.grownBy Wh none ∧ Wh.cell? ⟨b, o + i * 4, none⟩ = some (.int .i64 k1) ∧ Wh.cell? ⟨b, o + i * 4 + 1, none⟩ = some (.slice xa1 x1n xk1) ∧ Wh.cell? ⟨b, o + i * 4 + 2, none⟩ = some (.int .i64 k2) ∧ Wh.cell? ⟨b, o + i * 4 + 3, none⟩ = some (.slice xa2 x2n xk2) ∧ Wh.cell? ⟨b', o' + i * 4, none⟩ = some (.int .i64 l1) ∧ Wh.cell? ⟨b', o' + i * 4 + 1, none⟩ = some (.slice ya1 y1n yk1) ∧ Wh.cell? ⟨b', o' + i * 4 + 2, none⟩ = some (.int .i64 l2) ∧ Wh.cell? ⟨b', o' + i * 4 + 3, none⟩ = some (.slice ya2 y2n yk2)) Wh))
          clear x0 x1 x2 x3 y0 y1 y2 y3
          have hdr : wr.grownBy wr.drew none := ⟨rfl, rfl, rfl, Nat.le_refl _, fun _ _ _ => rfl⟩
          refine wp_region_held_drew (S := (fun Wh : World => wr.grownBy Wh none ∧ Wh.cell? ⟨b, o + i * 4, none⟩ = some (.int .i64 k1) ∧ Wh.cell? ⟨b, o + i * 4 + 1, none⟩ = some (.slice xa1 x1n xk1) ∧ Wh.cell? ⟨b, o + i * 4 + 2, none⟩ = some (.int .i64 k2) ∧ Wh.cell? ⟨b, o + i * 4 + 3, none⟩ = some (.slice xa2 x2n xk2) ∧ Wh.cell? ⟨b', o' + i * 4, none⟩ = some (.int .i64 l1) ∧ Wh.cell? ⟨b', o' + i * 4 + 1, none⟩ = some (.slice ya1 y1n yk1) ∧ Wh.cell? ⟨b', o' + i * 4 + 2, none⟩ = some (.int .i64 l2) ∧ Wh.cell? ⟨b', o' + i * 4 + 3, none⟩ = some (.slice ya2 y2n yk2))) (by kernel_rfl) (HS.out _ hdr) (fun hHeld => ?_)
          refine wpAnyH_take (i := 0) (oi := { dst := some 62, op := Op.move (Operand.tmp 0), type := 57, pos := "ref.go:94", after := #[], guard := none }) (v := ?_) rfl (by kernel_rfl) (by kernel_rfl) (by kernel_rfl) (fun _ _ _ h => h) (Or.inl ⟨by rfl, ?_⟩) (by assumption) ?_
          rotate_left 1
          · (intro W hSW; (try dsimp only at hSW); first | (go_simp; done) | (go_simp; with_reducible rfl))
          try simp only [Act.put, List.setIfInBounds_toArray, List.set_cons_zero, List.set_cons_succ]
          refine wpAnyH_take (i := 1) (oi := { dst := some 63, op := Op.move (Operand.tmp 9), type := 3, pos := "ref.go:94", after := #[], guard := none }) (v := ?_) rfl (by kernel_rfl) (by kernel_rfl) (by kernel_rfl) (fun _ _ _ h => h) (Or.inl ⟨by rfl, ?_⟩) (by assumption) ?_
          rotate_left 1
          · (intro W hSW; (try dsimp only at hSW); first | (go_simp; done) | (go_simp; with_reducible rfl))
          try simp only [Act.put, List.setIfInBounds_toArray, List.set_cons_zero, List.set_cons_succ]
          refine wpAnyH_take (i := 2) (oi := { dst := some 64, op := Op.indexAddr 57 (Operand.tmp 62) (Operand.tmp 63), type := 0, pos := "ref.go:94", after := #[{ on := 0, ground := Ground.data }, { on := 1, ground := Ground.data }], guard := none }) (v := ?_) rfl (by kernel_rfl) (by kernel_rfl) (by kernel_rfl) (fun _ _ _ h => h) (Or.inl ⟨by rfl, ?_⟩) (by assumption) ?_
          rotate_left 1
          · (intro W hSW; (try dsimp only at hSW); first | (go_simp; done) | (go_simp; with_reducible rfl))
          try simp only [Act.put, List.setIfInBounds_toArray, List.set_cons_zero, List.set_cons_succ]
          refine wpAnyH_take (i := 3) (oi := { dst := some 65, op := Op.fieldAddr 74 (Operand.tmp 64) 0, type := 0, pos := "ref.go:94", after := #[{ on := 2, ground := Ground.data }], guard := none }) (v := ?_) rfl (by kernel_rfl) (by kernel_rfl) (by kernel_rfl) (fun _ _ _ h => h) (Or.inl ⟨by rfl, ?_⟩) (by assumption) ?_
          rotate_left 1
          · (intro W hSW; (try dsimp only at hSW); first | (go_simp; done) | (go_simp; with_reducible rfl))
          try simp only [Act.put, List.setIfInBounds_toArray, List.set_cons_zero, List.set_cons_succ]
          refine wpAnyH_take (i := 4) (oi := { dst := some 66, op := Op.load 53 (Operand.tmp 65), type := 53, pos := "ref.go:94", after := #[{ on := 3, ground := Ground.data }], guard := none }) (v := ?_) rfl (by kernel_rfl) (by kernel_rfl) (by kernel_rfl) (fun _ _ _ h => h) (Or.inl ⟨by rfl, ?_⟩) (by assumption) ?_
          rotate_left 1
          · (intro W hSW; (try dsimp only at hSW); first | (go_simp; done) | (go_simp; with_reducible rfl))
          try simp only [Act.put, List.setIfInBounds_toArray, List.set_cons_zero, List.set_cons_succ]
          refine wpAnyH_take (i := 5) (oi := { dst := some 67, op := Op.move (Operand.tmp 1), type := 57, pos := "ref.go:94", after := #[], guard := none }) (v := ?_) rfl (by kernel_rfl) (by kernel_rfl) (by kernel_rfl) (fun _ _ _ h => h) (Or.inl ⟨by rfl, ?_⟩) (by assumption) ?_
          rotate_left 1
          · (intro W hSW; (try dsimp only at hSW); first | (go_simp; done) | (go_simp; with_reducible rfl))
          try simp only [Act.put, List.setIfInBounds_toArray, List.set_cons_zero, List.set_cons_succ]
          refine wpAnyH_take (i := 6) (oi := { dst := some 68, op := Op.move (Operand.tmp 9), type := 3, pos := "ref.go:94", after := #[], guard := none }) (v := ?_) rfl (by kernel_rfl) (by kernel_rfl) (by kernel_rfl) (fun _ _ _ h => h) (Or.inl ⟨by rfl, ?_⟩) (by assumption) ?_
          rotate_left 1
          · (intro W hSW; (try dsimp only at hSW); first | (go_simp; done) | (go_simp; with_reducible rfl))
          try simp only [Act.put, List.setIfInBounds_toArray, List.set_cons_zero, List.set_cons_succ]
          refine wpAnyH_take (i := 7) (oi := { dst := some 69, op := Op.indexAddr 57 (Operand.tmp 67) (Operand.tmp 68), type := 0, pos := "ref.go:94", after := #[{ on := 5, ground := Ground.data }, { on := 6, ground := Ground.data }], guard := none }) (v := ?_) rfl (by kernel_rfl) (by kernel_rfl) (by kernel_rfl) (fun _ _ _ h => h) (Or.inl ⟨by rfl, ?_⟩) (by assumption) ?_
          rotate_left 1
          · (intro W hSW; (try dsimp only at hSW); first | (go_simp; done) | (go_simp; with_reducible rfl))
          try simp only [Act.put, List.setIfInBounds_toArray, List.set_cons_zero, List.set_cons_succ]
          refine wpAnyH_take (i := 8) (oi := { dst := some 70, op := Op.fieldAddr 74 (Operand.tmp 69) 0, type := 0, pos := "ref.go:94", after := #[{ on := 7, ground := Ground.data }], guard := none }) (v := ?_) rfl (by kernel_rfl) (by kernel_rfl) (by kernel_rfl) (fun _ _ _ h => h) (Or.inl ⟨by rfl, ?_⟩) (by assumption) ?_
          rotate_left 1
          · (intro W hSW; (try dsimp only at hSW); first | (go_simp; done) | (go_simp; with_reducible rfl))
          try simp only [Act.put, List.setIfInBounds_toArray, List.set_cons_zero, List.set_cons_succ]
          refine wpAnyH_take (i := 9) (oi := { dst := some 71, op := Op.load 53 (Operand.tmp 70), type := 53, pos := "ref.go:94", after := #[{ on := 8, ground := Ground.data }], guard := none }) (v := ?_) rfl (by kernel_rfl) (by kernel_rfl) (by kernel_rfl) (fun _ _ _ h => h) (Or.inl ⟨by rfl, ?_⟩) (by assumption) ?_
          rotate_left 1
          · (intro W hSW; (try dsimp only at hSW); first | (go_simp; done) | (go_simp; with_reducible rfl))
          try simp only [Act.put, List.setIfInBounds_toArray, List.set_cons_zero, List.set_cons_succ]
          refine wpAnyH_take (i := 11) (oi := { dst := some 73, op := Op.move (Operand.tmp 0), type := 57, pos := "ref.go:94", after := #[], guard := none }) (v := ?_) rfl (by kernel_rfl) (by kernel_rfl) (by kernel_rfl) (fun _ _ _ h => h) (Or.inl ⟨by rfl, ?_⟩) (by assumption) ?_
          rotate_left 1
          · (intro W hSW; (try dsimp only at hSW); first | (go_simp; done) | (go_simp; with_reducible rfl))
          try simp only [Act.put, List.setIfInBounds_toArray, List.set_cons_zero, List.set_cons_succ]
          refine wpAnyH_take (i := 12) (oi := { dst := some 74, op := Op.move (Operand.tmp 9), type := 3, pos := "ref.go:94", after := #[], guard := none }) (v := ?_) rfl (by kernel_rfl) (by kernel_rfl) (by kernel_rfl) (fun _ _ _ h => h) (Or.inl ⟨by rfl, ?_⟩) (by assumption) ?_
          rotate_left 1
          · (intro W hSW; (try dsimp only at hSW); first | (go_simp; done) | (go_simp; with_reducible rfl))
          try simp only [Act.put, List.setIfInBounds_toArray, List.set_cons_zero, List.set_cons_succ]
          refine wpAnyH_take (i := 13) (oi := { dst := some 75, op := Op.indexAddr 57 (Operand.tmp 73) (Operand.tmp 74), type := 0, pos := "ref.go:94", after := #[{ on := 11, ground := Ground.data }, { on := 12, ground := Ground.data }], guard := none }) (v := ?_) rfl (by kernel_rfl) (by kernel_rfl) (by kernel_rfl) (fun _ _ _ h => h) (Or.inl ⟨by rfl, ?_⟩) (by assumption) ?_
          rotate_left 1
          · (intro W hSW; (try dsimp only at hSW); first | (go_simp; done) | (go_simp; with_reducible rfl))
          try simp only [Act.put, List.setIfInBounds_toArray, List.set_cons_zero, List.set_cons_succ]
          refine wpAnyH_take (i := 14) (oi := { dst := some 76, op := Op.fieldAddr 74 (Operand.tmp 75) 1, type := 0, pos := "ref.go:94", after := #[{ on := 13, ground := Ground.data }], guard := none }) (v := ?_) rfl (by kernel_rfl) (by kernel_rfl) (by kernel_rfl) (fun _ _ _ h => h) (Or.inl ⟨by rfl, ?_⟩) (by assumption) ?_
          rotate_left 1
          · (intro W hSW; (try dsimp only at hSW); first | (go_simp; done) | (go_simp; with_reducible rfl))
          try simp only [Act.put, List.setIfInBounds_toArray, List.set_cons_zero, List.set_cons_succ]
          refine wpAnyH_take (i := 15) (oi := { dst := some 77, op := Op.load 53 (Operand.tmp 76), type := 53, pos := "ref.go:94", after := #[{ on := 14, ground := Ground.data }], guard := none }) (v := ?_) rfl (by kernel_rfl) (by kernel_rfl) (by kernel_rfl) (fun _ _ _ h => h) (Or.inl ⟨by rfl, ?_⟩) (by assumption) ?_
          rotate_left 1
          · (intro W hSW; (try dsimp only at hSW); first | (go_simp; done) | (go_simp; with_reducible rfl))
          try simp only [Act.put, List.setIfInBounds_toArray, List.set_cons_zero, List.set_cons_succ]
          refine wpAnyH_take (i := 16) (oi := { dst := some 78, op := Op.move (Operand.tmp 1), type := 57, pos := "ref.go:94", after := #[], guard := none }) (v := ?_) rfl (by kernel_rfl) (by kernel_rfl) (by kernel_rfl) (fun _ _ _ h => h) (Or.inl ⟨by rfl, ?_⟩) (by assumption) ?_
          rotate_left 1
          · (intro W hSW; (try dsimp only at hSW); first | (go_simp; done) | (go_simp; with_reducible rfl))
          try simp only [Act.put, List.setIfInBounds_toArray, List.set_cons_zero, List.set_cons_succ]
          refine wpAnyH_take (i := 17) (oi := { dst := some 79, op := Op.move (Operand.tmp 9), type := 3, pos := "ref.go:94", after := #[], guard := none }) (v := ?_) rfl (by kernel_rfl) (by kernel_rfl) (by kernel_rfl) (fun _ _ _ h => h) (Or.inl ⟨by rfl, ?_⟩) (by assumption) ?_
          rotate_left 1
          · (intro W hSW; (try dsimp only at hSW); first | (go_simp; done) | (go_simp; with_reducible rfl))
          try simp only [Act.put, List.setIfInBounds_toArray, List.set_cons_zero, List.set_cons_succ]
          refine wpAnyH_take (i := 18) (oi := { dst := some 80, op := Op.indexAddr 57 (Operand.tmp 78) (Operand.tmp 79), type := 0, pos := "ref.go:94", after := #[{ on := 16, ground := Ground.data }, { on := 17, ground := Ground.data }], guard := none }) (v := ?_) rfl (by kernel_rfl) (by kernel_rfl) (by kernel_rfl) (fun _ _ _ h => h) (Or.inl ⟨by rfl, ?_⟩) (by assumption) ?_
          rotate_left 1
          · (intro W hSW; (try dsimp only at hSW); first | (go_simp; done) | (go_simp; with_reducible rfl))
          try simp only [Act.put, List.setIfInBounds_toArray, List.set_cons_zero, List.set_cons_succ]
          refine wpAnyH_take (i := 19) (oi := { dst := some 81, op := Op.fieldAddr 74 (Operand.tmp 80) 1, type := 0, pos := "ref.go:94", after := #[{ on := 18, ground := Ground.data }], guard := none }) (v := ?_) rfl (by kernel_rfl) (by kernel_rfl) (by kernel_rfl) (fun _ _ _ h => h) (Or.inl ⟨by rfl, ?_⟩) (by assumption) ?_
          rotate_left 1
          · (intro W hSW; (try dsimp only at hSW); first | (go_simp; done) | (go_simp; with_reducible rfl))
          try simp only [Act.put, List.setIfInBounds_toArray, List.set_cons_zero, List.set_cons_succ]
          refine wpAnyH_take (i := 20) (oi := { dst := some 82, op := Op.load 53 (Operand.tmp 81), type := 53, pos := "ref.go:94", after := #[{ on := 19, ground := Ground.data }], guard := none }) (v := ?_) rfl (by kernel_rfl) (by kernel_rfl) (by kernel_rfl) (fun _ _ _ h => h) (Or.inl ⟨by rfl, ?_⟩) (by assumption) ?_
          rotate_left 1
          · (intro W hSW; (try dsimp only at hSW); first | (go_simp; done) | (go_simp; with_reducible rfl))
          try simp only [Act.put, List.setIfInBounds_toArray, List.set_cons_zero, List.set_cons_succ]
          refine wpAnyH_ready (rs := [10, 23]) (by kernel_rfl) (by simp) ?_
          refine (AllReadyH.cons (o := { dst := some 72, op := Op.call { callee := Callee.value (Operand.func 104), args := #[Operand.tmp 66, Operand.tmp 71], argTypes := #[53, 53] }, type := 53, pos := "ref.go:94", after := #[{ on := 4, ground := Ground.data }, { on := 9, ground := Ground.data }], guard := none }) rfl (fun K hK => ?_) (AllReadyH.cons (o := { dst := some 10, op := Op.alloc 74, type := 0, pos := "ref.go:94", after := #[], guard := none }) rfl (fun K hK => ?_) AllReadyH.nil))
          · rw [if_pos (by rfl)]
            go_simp
            go_at_call 104
            refine (HUN.out _ (hdr)).mono ?_
            rintro e wc1 ⟨ua, uc, rfl, hsU, gc1⟩
            have hgr1 := World.grownBy.trans hdr gc1
            have hzU := World.grownBy.size gc1
            try (replace hkc := hkc.grown gc1)
            go_wp2_with fail
            refine hK.out _ _ (HS.out _ hgr1) (fun hHeld => ?_)
            clear hK K
            try simp only [Act.put, List.setIfInBounds_toArray, List.set_cons_zero, List.set_cons_succ]
            refine wpAnyH_ready (rs := [21, 23]) (by kernel_rfl) (by simp) ?_
            refine (AllReadyH.cons (o := { dst := some 83, op := Op.call { callee := Callee.value (Operand.func 105), args := #[Operand.tmp 77, Operand.tmp 82], argTypes := #[53, 53] }, type := 53, pos := "ref.go:94", after := #[{ on := 15, ground := Ground.data }, { on := 20, ground := Ground.data }, { on := 10, ground := Ground.chain }], guard := none }) rfl (fun K hK => ?_) (AllReadyH.cons (o := { dst := some 10, op := Op.alloc 74, type := 0, pos := "ref.go:94", after := #[], guard := none }) rfl (fun K hK => ?_) AllReadyH.nil))
            · rw [if_pos (by rfl)]
              go_simp
              go_at_call 105
              refine (HIN.out _ (hgr1)).mono ?_
              rintro e wc2 ⟨ia, ic, rfl, hsI, gc2⟩
              have hgr2 := World.grownBy.trans hgr1 gc2
              have hzI := World.grownBy.size gc2
              replace hsU := hsU.grown gc2
              try (replace hkc := hkc.grown gc2)
              go_wp2_with fail
              refine hK.out _ _ (HS.out _ hgr2) (fun hHeld => ?_)
              clear hK K
              try simp only [Act.put, List.setIfInBounds_toArray, List.set_cons_zero, List.set_cons_succ]
              refine wpAnyH_take (i := 22) (oi := { dst := some 84, op := Op.build 74 #[(0, Operand.tmp 72), (1, Operand.tmp 83)], type := 74, pos := "ref.go:94", after := #[{ on := 10, ground := Ground.data }, { on := 21, ground := Ground.data }], guard := none }) (v := ?_) rfl (by kernel_rfl) (by kernel_rfl) (by kernel_rfl) (fun _ _ _ h => h) (Or.inl ⟨by rfl, ?_⟩) (by assumption) ?_
              rotate_left 1
              · (intro W hSW; (try dsimp only at hSW); first | (go_simp; done) | (go_simp; with_reducible rfl))
              try simp only [Act.put, List.setIfInBounds_toArray, List.set_cons_zero, List.set_cons_succ]
              refine wpAnyH_ready (rs := [23]) (by kernel_rfl) (by simp) ?_
              refine (AllReadyH.cons (o := { dst := some 10, op := Op.alloc 74, type := 0, pos := "ref.go:94", after := #[], guard := none }) rfl (fun K hK => ?_) AllReadyH.nil)
              rw [if_pos (by rfl)]
              go_simp
              have hga := World.grownBy.trans hgr2 (World.grownBy_alloc (wc2) (.cells #[.int .i64 0, .slice none 0 0, .int .i64 0, .slice none 0 0] 74) none)
              have hkc := Zero4.new (lo := wr.heap.size) (wc2) (World.grownBy.size hgr2)
              try (replace hsU := hsU.grown (World.grownBy_alloc (wc2) (.cells #[.int .i64 0, .slice none 0 0, .int .i64 0, .slice none 0 0] 74) none))
              try (replace hsI := hsI.grown (World.grownBy_alloc (wc2) (.cells #[.int .i64 0, .slice none 0 0, .int .i64 0, .slice none 0 0] 74) none))
              obtain ⟨WA, hWA⟩ : ∃ WA, World.alloc (wc2) (.cells #[.int .i64 0, .slice none 0 0, .int .i64 0, .slice none 0 0] 74) = WA := ⟨_, rfl⟩
              rw [hWA] at hga hkc ⊢
              try (rw [hWA] at hsU)
              try (rw [hWA] at hsI)
              clear hWA
              have hzA := hkc.lt
              have hzG := World.grownBy.size hga
              refine hK.out _ _ (HS.out _ hga) (fun hHeld => ?_)
              clear hK K
              try simp only [Act.put, List.setIfInBounds_toArray, List.set_cons_zero, List.set_cons_succ]
              refine wpAnyH_ready (rs := [24]) (by kernel_rfl) (by simp) ?_
              refine (AllReadyH.cons (o := { dst := none, op := Op.store 74 (Operand.tmp 10) (Operand.tmp 84), type := 0, pos := "ref.go:94", after := #[{ on := 23, ground := Ground.data }, { on := 22, ground := Ground.data }, { on := 21, ground := Ground.chain }, { on := 0, ground := Ground.phase }, { on := 1, ground := Ground.phase }, { on := 2, ground := Ground.phase }, { on := 3, ground := Ground.phase }, { on := 4, ground := Ground.phase }, { on := 5, ground := Ground.phase }, { on := 6, ground := Ground.phase }, { on := 7, ground := Ground.phase }, { on := 8, ground := Ground.phase }, { on := 9, ground := Ground.phase }, { on := 10, ground := Ground.phase }, { on := 11, ground := Ground.phase }, { on := 12, ground := Ground.phase }, { on := 13, ground := Ground.phase }, { on := 14, ground := Ground.phase }, { on := 15, ground := Ground.phase }, { on := 16, ground := Ground.phase }, { on := 17, ground := Ground.phase }, { on := 18, ground := Ground.phase }, { on := 19, ground := Ground.phase }, { on := 20, ground := Ground.phase }, { on := 21, ground := Ground.phase }, { on := 22, ground := Ground.phase }, { on := 23, ground := Ground.phase }], guard := none }) rfl (fun K hK => ?_) AllReadyH.nil)
              rw [if_pos (by rfl)]
              have q0 := hkc.c0
              have q1 := hkc.c1
              have q2 := hkc.c2
              have q3 := hkc.c3
              have q4 := hkc.f0
              have q5 := hkc.f1
              have q6 := hkc.f2
              have q7 := hkc.f3
              go_simp
              clear q4 q5 q6 q7
              have hfs := four_set (.int .i64 k1) (.slice ua un uc) (.int .i64 k2) (.slice ia vn ic) q0 q1 q2 q3
              clear q0 q1 q2 q3
              have hgs := grown_own hga hfs.2.2.2.2 (fun k hk => by cases hk; exact hkc.ge)
              refine hK.out _ _ (HS.out _ hgs) (fun hHeld => ?_)
              clear hK K
              try simp only [Act.put, List.setIfInBounds_toArray, List.set_cons_zero, List.set_cons_succ]
              refine wpAnyH_done (by kernel_rfl) ?_ _
              have hEND := hgs
              clear hHeld
              have hdz : wr.drew.heap.size = wr.heap.size := rfl
              have hU2 := hsU.off hfs.2.2.2.2 (fun z e => by cases e; first | exact .inl (by omega) | exact .inr (by omega))
              have hI2 := hsI.off hfs.2.2.2.2 (fun z e => by cases e; first | exact .inl (by omega) | exact .inr (by omega))
              have hU3 := hU2.wide (lo' := wr.heap.size) (by first | exact Nat.le_refl _ | omega) hU2.1 (Nat.le_refl _)
              have hI3 := hI2.wide (lo' := wr.heap.size) (by first | exact Nat.le_refl _ | omega) hI2.1 (Nat.le_refl _)
              have hb3 := span_both hU3 hI3
              obtain ⟨p0, p1, p2, p3, _⟩ := hfs
              obtain ⟨gB, hgB⟩ : ∃ gB, wc2.heap.size = gB := ⟨_, rfl⟩
              obtain ⟨X, hX⟩ : ∃ X, (World.setCell (World.setCell (World.setCell (World.setCell WA ⟨wc2.heap.size, 0, none⟩ (.int .i64 k1)) ⟨wc2.heap.size, 1, none⟩ (.slice ua un uc)) ⟨wc2.heap.size, 2, none⟩ (.int .i64 k2)) ⟨wc2.heap.size, 3, none⟩ (.slice ia vn ic)) = X := ⟨_, rfl⟩
              rw [hX] at p0 p1 p2 p3 hb3 hEND ⊢
              rw [hgB] at p0 p1 p2 p3 ⊢
              clear hdz hX hU2 hI2 hU3 hI3 hsU hsI hgs hga hkc hzA hzG hzU hzI
              clear hgB
              have HE := Lib.hid (And.intro hEND hb3)
              have hIC := HIC.out X ua ia uc ic hb3.here.1 hb3.here.2
              clear hEND hb3
              have HIC2 := Lib.hid hIC
              clear hIC
              go_wp2_with fail
              refine HIC2.out.mono ?_
              rintro e w5 ⟨rfl, g5⟩
              have c0 := g5.cell p0 (by simp)
              have c1 := g5.cell p1 (by simp)
              have c2 := g5.cell p2 (by simp)
              have c3 := g5.cell p3 (by simp)
              have HG5 := Lib.hid (HE.out.1.trans g5)
              have HS5 := Lib.hid ((HE.out.2.grown g5).wide (Nat.le_refl _) g5.size (Nat.le_refl _))
              clear g5 p0 p1 p2 p3
              obtain ⟨Q, hQ⟩ : ∃ Q, inB U V = Q := ⟨_, rfl⟩
              rw [hQ]
              have HOK := Lib.hid hQ
              clear hQ
              cases Q with
              | false =>
                have HM : Hid (meetR A B = ([], 100)) := Lib.hid (by
                  rw [meetR, HQ.out, if_pos rfl, if_neg]
                  intro hq
                  have h1 := (allB_iff.1 hq).2 i x y HX.out.1 HX.out.2.1
                  rw [HMX.out.2, HOK.out] at h1
                  cases h1)
                go_wp2_with fail
                go_ret2
                exact meetP_none HM.out (HI.out.2.2.1.trans HG5.out)
              | true =>
                have HO5 := Lib.hid (Out.quiet HO.out HG5.out (fun x e => by cases e))
                have hlo : ∀ x, (Value.slice ga i gc).ownBlock = some x → x < wr.heap.size ∨ w5.heap.size ≤ x := fun x hx => .inl (HO.out.own.lt x hx).2
                have HLO := Lib.hid (And.intro hlo HI.out.2.2.1.size); clear hlo
                have HOW : Hid (w5.ownsRow w.heap.size 74 4 (.slice ga i gc) i (D.flatMap bdCells)) := Lib.hid (by have := HO5.out.own; rw [HI.out.2.2.2.1] at this; exact this)
                go_wp2_with (at_builtin; refine wpList_append_own_at _ rfl _ _ 57 rfl w.heap.size 74 i0 (.agg #[.int .i64 0, .slice none 0 0, .int .i64 0, .slice none 0 0]) 4 64 Try.underlying57 hi0 hz0 hz1 hz2 rfl (by decide) _ _ _ rfl (HOW.out.alloc _) ⟨w5.heap.size, 0, none⟩ 1 1 [.int .i64 k1, .slice ua un uc, .int .i64 k2, .slice ia vn ic] rfl rfl (cell_four_new _ _ _ _ _ _) (fun u hu => by simp at hu; rcases hu with rfl | rfl | rfl | rfl <;> rfl) (by unfold maxLen; omega) (by omega) (by have := HLO.out.2; have := HG5.out.size; simp only [World.size_alloc]; omega) ?_; intro v' w6 hown' hgrow6 hnil6 hat6; obtain ⟨g', cap', rfl⟩ := own_shape hown')
                go_roundg (n - (i + 1))
                case measure => rw [HI.out.1]; omega
                case rel =>
                  refine ⟨i + 1, D ++ [(((k1, U), (k2, V)), (ua, uc), (ia, ic))], rfl, rfl, by omega, by rw [List.map_append, HI.out.2.1, zip_take HX.out.1 HX.out.2.1, HMX.out.1]; rfl, ?_, ?_, ?_⟩
                  · refine Out.push HO5.out (d := (((k1, U), (k2, V)), (ua, uc), (ia, ic))) HS5.out HLO.out.2 HLO.out.1 (by rw [HI.out.2.2.2.1]; simpa [bdCells, HUV.out.1, HUV.out.2] using hown') hgrow6 hat6
                  · exact grown_own ((HI.out.2.2.1.trans HG5.out).trans (World.grownBy_alloc _ _ none)) hgrow6 (fun k hk => (HOW.out.lt k hk).1)
                  · intro j x' y' hj hx' hy'
                    by_cases hji : j < i
                    · exact HI.out.2.2.2.2 j x' y' hji hx' hy'
                    · have : j = i := by omega
                      subst this
                      rw [HX.out.1] at hx'
                      rw [HX.out.2.1] at hy'
                      cases hx'
                      cases hy'
                      rw [HMX.out.2, HOK.out]
            · rw [if_pos (by rfl)]
              go_simp
              have hga := World.grownBy.trans hgr1 (World.grownBy_alloc (wc1) (.cells #[.int .i64 0, .slice none 0 0, .int .i64 0, .slice none 0 0] 74) none)
              have hkc := Zero4.new (lo := wr.heap.size) (wc1) (World.grownBy.size hgr1)
              try (replace hsU := hsU.grown (World.grownBy_alloc (wc1) (.cells #[.int .i64 0, .slice none 0 0, .int .i64 0, .slice none 0 0] 74) none))
              try (replace hsI := hsI.grown (World.grownBy_alloc (wc1) (.cells #[.int .i64 0, .slice none 0 0, .int .i64 0, .slice none 0 0] 74) none))
              obtain ⟨WA, hWA⟩ : ∃ WA, World.alloc (wc1) (.cells #[.int .i64 0, .slice none 0 0, .int .i64 0, .slice none 0 0] 74) = WA := ⟨_, rfl⟩
              rw [hWA] at hga hkc ⊢
              try (rw [hWA] at hsU)
              try (rw [hWA] at hsI)
              clear hWA
              have hzA := hkc.lt
              have hzG := World.grownBy.size hga
              refine hK.out _ _ (HS.out _ hga) (fun hHeld => ?_)
              clear hK K
              try simp only [Act.put, List.setIfInBounds_toArray, List.set_cons_zero, List.set_cons_succ]
              refine wpAnyH_ready (rs := [21]) (by kernel_rfl) (by simp) ?_
              refine (AllReadyH.cons (o := { dst := some 83, op := Op.call { callee := Callee.value (Operand.func 105), args := #[Operand.tmp 77, Operand.tmp 82], argTypes := #[53, 53] }, type := 53, pos := "ref.go:94", after := #[{ on := 15, ground := Ground.data }, { on := 20, ground := Ground.data }, { on := 10, ground := Ground.chain }], guard := none }) rfl (fun K hK => ?_) AllReadyH.nil)
              rw [if_pos (by rfl)]
              go_simp
              go_at_call 105
              refine (HIN.out _ (hga)).mono ?_
              rintro e wc3 ⟨ia, ic, rfl, hsI, gc3⟩
              have hgr3 := World.grownBy.trans hga gc3
              have hzI := World.grownBy.size gc3
              replace hsU := hsU.grown gc3
              try (replace hkc := hkc.grown gc3)
              go_wp2_with fail
              refine hK.out _ _ (HS.out _ hgr3) (fun hHeld => ?_)
              clear hK K
              try simp only [Act.put, List.setIfInBounds_toArray, List.set_cons_zero, List.set_cons_succ]
              refine wpAnyH_take (i := 22) (oi := { dst := some 84, op := Op.build 74 #[(0, Operand.tmp 72), (1, Operand.tmp 83)], type := 74, pos := "ref.go:94", after := #[{ on := 10, ground := Ground.data }, { on := 21, ground := Ground.data }], guard := none }) (v := ?_) rfl (by kernel_rfl) (by kernel_rfl) (by kernel_rfl) (fun _ _ _ h => h) (Or.inl ⟨by rfl, ?_⟩) (by assumption) ?_
              rotate_left 1
              · (intro W hSW; (try dsimp only at hSW); first | (go_simp; done) | (go_simp; with_reducible rfl))
              try simp only [Act.put, List.setIfInBounds_toArray, List.set_cons_zero, List.set_cons_succ]
              refine wpAnyH_ready (rs := [24]) (by kernel_rfl) (by simp) ?_
              refine (AllReadyH.cons (o := { dst := none, op := Op.store 74 (Operand.tmp 10) (Operand.tmp 84), type := 0, pos := "ref.go:94", after := #[{ on := 23, ground := Ground.data }, { on := 22, ground := Ground.data }, { on := 21, ground := Ground.chain }, { on := 0, ground := Ground.phase }, { on := 1, ground := Ground.phase }, { on := 2, ground := Ground.phase }, { on := 3, ground := Ground.phase }, { on := 4, ground := Ground.phase }, { on := 5, ground := Ground.phase }, { on := 6, ground := Ground.phase }, { on := 7, ground := Ground.phase }, { on := 8, ground := Ground.phase }, { on := 9, ground := Ground.phase }, { on := 10, ground := Ground.phase }, { on := 11, ground := Ground.phase }, { on := 12, ground := Ground.phase }, { on := 13, ground := Ground.phase }, { on := 14, ground := Ground.phase }, { on := 15, ground := Ground.phase }, { on := 16, ground := Ground.phase }, { on := 17, ground := Ground.phase }, { on := 18, ground := Ground.phase }, { on := 19, ground := Ground.phase }, { on := 20, ground := Ground.phase }, { on := 21, ground := Ground.phase }, { on := 22, ground := Ground.phase }, { on := 23, ground := Ground.phase }], guard := none }) rfl (fun K hK => ?_) AllReadyH.nil)
              rw [if_pos (by rfl)]
              have q0 := hkc.c0
              have q1 := hkc.c1
              have q2 := hkc.c2
              have q3 := hkc.c3
              have q4 := hkc.f0
              have q5 := hkc.f1
              have q6 := hkc.f2
              have q7 := hkc.f3
              go_simp
              clear q4 q5 q6 q7
              have hfs := four_set (.int .i64 k1) (.slice ua un uc) (.int .i64 k2) (.slice ia vn ic) q0 q1 q2 q3
              clear q0 q1 q2 q3
              have hgs := grown_own hgr3 hfs.2.2.2.2 (fun k hk => by cases hk; exact hkc.ge)
              refine hK.out _ _ (HS.out _ hgs) (fun hHeld => ?_)
              clear hK K
              try simp only [Act.put, List.setIfInBounds_toArray, List.set_cons_zero, List.set_cons_succ]
              refine wpAnyH_done (by kernel_rfl) ?_ _
              have hEND := hgs
              clear hHeld
              have hdz : wr.drew.heap.size = wr.heap.size := rfl
              have hU2 := hsU.off hfs.2.2.2.2 (fun z e => by cases e; first | exact .inl (by omega) | exact .inr (by omega))
              have hI2 := hsI.off hfs.2.2.2.2 (fun z e => by cases e; first | exact .inl (by omega) | exact .inr (by omega))
              have hU3 := hU2.wide (lo' := wr.heap.size) (by first | exact Nat.le_refl _ | omega) hU2.1 (Nat.le_refl _)
              have hI3 := hI2.wide (lo' := wr.heap.size) (by first | exact Nat.le_refl _ | omega) hI2.1 (Nat.le_refl _)
              have hb3 := span_both hU3 hI3
              obtain ⟨p0, p1, p2, p3, _⟩ := hfs
              obtain ⟨gB, hgB⟩ : ∃ gB, wc1.heap.size = gB := ⟨_, rfl⟩
              obtain ⟨X, hX⟩ : ∃ X, (World.setCell (World.setCell (World.setCell (World.setCell wc3 ⟨wc1.heap.size, 0, none⟩ (.int .i64 k1)) ⟨wc1.heap.size, 1, none⟩ (.slice ua un uc)) ⟨wc1.heap.size, 2, none⟩ (.int .i64 k2)) ⟨wc1.heap.size, 3, none⟩ (.slice ia vn ic)) = X := ⟨_, rfl⟩
              rw [hX] at p0 p1 p2 p3 hb3 hEND ⊢
              rw [hgB] at p0 p1 p2 p3 ⊢
              clear hdz hX hU2 hI2 hU3 hI3 hsU hsI hgs hga hkc hzA hzG hzU hzI
              clear hgB
              have HE := Lib.hid (And.intro hEND hb3)
              have hIC := HIC.out X ua ia uc ic hb3.here.1 hb3.here.2
              clear hEND hb3
              have HIC2 := Lib.hid hIC
              clear hIC
              go_wp2_with fail
              refine HIC2.out.mono ?_
              rintro e w5 ⟨rfl, g5⟩
              have c0 := g5.cell p0 (by simp)
              have c1 := g5.cell p1 (by simp)
              have c2 := g5.cell p2 (by simp)
              have c3 := g5.cell p3 (by simp)
              have HG5 := Lib.hid (HE.out.1.trans g5)
              have HS5 := Lib.hid ((HE.out.2.grown g5).wide (Nat.le_refl _) g5.size (Nat.le_refl _))
              clear g5 p0 p1 p2 p3
              obtain ⟨Q, hQ⟩ : ∃ Q, inB U V = Q := ⟨_, rfl⟩
              rw [hQ]
              have HOK := Lib.hid hQ
              clear hQ
              cases Q with
              | false =>
                have HM : Hid (meetR A B = ([], 100)) := Lib.hid (by
                  rw [meetR, HQ.out, if_pos rfl, if_neg]
                  intro hq
                  have h1 := (allB_iff.1 hq).2 i x y HX.out.1 HX.out.2.1
                  rw [HMX.out.2, HOK.out] at h1
                  cases h1)
                go_wp2_with fail
                go_ret2
                exact meetP_none HM.out (HI.out.2.2.1.trans HG5.out)
              | true =>
                have HO5 := Lib.hid (Out.quiet HO.out HG5.out (fun x e => by cases e))
                have hlo : ∀ x, (Value.slice ga i gc).ownBlock = some x → x < wr.heap.size ∨ w5.heap.size ≤ x := fun x hx => .inl (HO.out.own.lt x hx).2
                have HLO := Lib.hid (And.intro hlo HI.out.2.2.1.size); clear hlo
                have HOW : Hid (w5.ownsRow w.heap.size 74 4 (.slice ga i gc) i (D.flatMap bdCells)) := Lib.hid (by have := HO5.out.own; rw [HI.out.2.2.2.1] at this; exact this)
                go_wp2_with (at_builtin; refine wpList_append_own_at _ rfl _ _ 57 rfl w.heap.size 74 i0 (.agg #[.int .i64 0, .slice none 0 0, .int .i64 0, .slice none 0 0]) 4 64 Try.underlying57 hi0 hz0 hz1 hz2 rfl (by decide) _ _ _ rfl (HOW.out.alloc _) ⟨w5.heap.size, 0, none⟩ 1 1 [.int .i64 k1, .slice ua un uc, .int .i64 k2, .slice ia vn ic] rfl rfl (cell_four_new _ _ _ _ _ _) (fun u hu => by simp at hu; rcases hu with rfl | rfl | rfl | rfl <;> rfl) (by unfold maxLen; omega) (by omega) (by have := HLO.out.2; have := HG5.out.size; simp only [World.size_alloc]; omega) ?_; intro v' w6 hown' hgrow6 hnil6 hat6; obtain ⟨g', cap', rfl⟩ := own_shape hown')
                go_roundg (n - (i + 1))
                case measure => rw [HI.out.1]; omega
                case rel =>
                  refine ⟨i + 1, D ++ [(((k1, U), (k2, V)), (ua, uc), (ia, ic))], rfl, rfl, by omega, by rw [List.map_append, HI.out.2.1, zip_take HX.out.1 HX.out.2.1, HMX.out.1]; rfl, ?_, ?_, ?_⟩
                  · refine Out.push HO5.out (d := (((k1, U), (k2, V)), (ua, uc), (ia, ic))) HS5.out HLO.out.2 HLO.out.1 (by rw [HI.out.2.2.2.1]; simpa [bdCells, HUV.out.1, HUV.out.2] using hown') hgrow6 hat6
                  · exact grown_own ((HI.out.2.2.1.trans HG5.out).trans (World.grownBy_alloc _ _ none)) hgrow6 (fun k hk => (HOW.out.lt k hk).1)
                  · intro j x' y' hj hx' hy'
                    by_cases hji : j < i
                    · exact HI.out.2.2.2.2 j x' y' hji hx' hy'
                    · have : j = i := by omega
                      subst this
                      rw [HX.out.1] at hx'
                      rw [HX.out.2.1] at hy'
                      cases hx'
                      cases hy'
                      rw [HMX.out.2, HOK.out]
          · rw [if_pos (by rfl)]
            go_simp
            have hga := World.grownBy.trans (World.grownBy_alloc wr (.cells #[.int .i64 0, .slice none 0 0, .int .i64 0, .slice none 0 0] 74) none) (⟨rfl, rfl, rfl, Nat.le_refl _, fun _ _ _ => rfl⟩ : (World.alloc wr (.cells #[.int .i64 0, .slice none 0 0, .int .i64 0, .slice none 0 0] 74)).grownBy (World.alloc wr (.cells #[.int .i64 0, .slice none 0 0, .int .i64 0, .slice none 0 0] 74)).drew none)
            have hkc := (Zero4.new (lo := wr.heap.size) wr (Nat.le_refl _)).grown (⟨rfl, rfl, rfl, Nat.le_refl _, fun _ _ _ => rfl⟩ : (World.alloc wr (.cells #[.int .i64 0, .slice none 0 0, .int .i64 0, .slice none 0 0] 74)).grownBy (World.alloc wr (.cells #[.int .i64 0, .slice none 0 0, .int .i64 0, .slice none 0 0] 74)).drew none)
            obtain ⟨WA, hWA⟩ : ∃ WA, (World.alloc wr (.cells #[.int .i64 0, .slice none 0 0, .int .i64 0, .slice none 0 0] 74)).drew = WA := ⟨_, rfl⟩
            rw [hWA] at hga hkc ⊢
            try (rw [hWA] at hsU)
            try (rw [hWA] at hsI)
            clear hWA
            have hzA := hkc.lt
            have hzG := World.grownBy.size hga
            refine hK.out _ _ (HS.out _ hga) (fun hHeld => ?_)
            clear hK K
            try simp only [Act.put, List.setIfInBounds_toArray, List.set_cons_zero, List.set_cons_succ]
            refine wpAnyH_ready (rs := [10]) (by kernel_rfl) (by simp) ?_
            refine (AllReadyH.cons (o := { dst := some 72, op := Op.call { callee := Callee.value (Operand.func 104), args := #[Operand.tmp 66, Operand.tmp 71], argTypes := #[53, 53] }, type := 53, pos := "ref.go:94", after := #[{ on := 4, ground := Ground.data }, { on := 9, ground := Ground.data }], guard := none }) rfl (fun K hK => ?_) AllReadyH.nil)
            rw [if_pos (by rfl)]
            go_simp
            go_at_call 104
            refine (HUN.out _ (hga)).mono ?_
            rintro e wc2 ⟨ua, uc, rfl, hsU, gc2⟩
            have hgr2 := World.grownBy.trans hga gc2
            have hzU := World.grownBy.size gc2
            try (replace hkc := hkc.grown gc2)
            go_wp2_with fail
            refine hK.out _ _ (HS.out _ hgr2) (fun hHeld => ?_)
            clear hK K
            try simp only [Act.put, List.setIfInBounds_toArray, List.set_cons_zero, List.set_cons_succ]
            refine wpAnyH_ready (rs := [21]) (by kernel_rfl) (by simp) ?_
            refine (AllReadyH.cons (o := { dst := some 83, op := Op.call { callee := Callee.value (Operand.func 105), args := #[Operand.tmp 77, Operand.tmp 82], argTypes := #[53, 53] }, type := 53, pos := "ref.go:94", after := #[{ on := 15, ground := Ground.data }, { on := 20, ground := Ground.data }, { on := 10, ground := Ground.chain }], guard := none }) rfl (fun K hK => ?_) AllReadyH.nil)
            rw [if_pos (by rfl)]
            go_simp
            go_at_call 105
            refine (HIN.out _ (hgr2)).mono ?_
            rintro e wc3 ⟨ia, ic, rfl, hsI, gc3⟩
            have hgr3 := World.grownBy.trans hgr2 gc3
            have hzI := World.grownBy.size gc3
            replace hsU := hsU.grown gc3
            try (replace hkc := hkc.grown gc3)
            go_wp2_with fail
            refine hK.out _ _ (HS.out _ hgr3) (fun hHeld => ?_)
            clear hK K
            try simp only [Act.put, List.setIfInBounds_toArray, List.set_cons_zero, List.set_cons_succ]
            refine wpAnyH_take (i := 22) (oi := { dst := some 84, op := Op.build 74 #[(0, Operand.tmp 72), (1, Operand.tmp 83)], type := 74, pos := "ref.go:94", after := #[{ on := 10, ground := Ground.data }, { on := 21, ground := Ground.data }], guard := none }) (v := ?_) rfl (by kernel_rfl) (by kernel_rfl) (by kernel_rfl) (fun _ _ _ h => h) (Or.inl ⟨by rfl, ?_⟩) (by assumption) ?_
            rotate_left 1
            · (intro W hSW; (try dsimp only at hSW); first | (go_simp; done) | (go_simp; with_reducible rfl))
            try simp only [Act.put, List.setIfInBounds_toArray, List.set_cons_zero, List.set_cons_succ]
            refine wpAnyH_ready (rs := [24]) (by kernel_rfl) (by simp) ?_
            refine (AllReadyH.cons (o := { dst := none, op := Op.store 74 (Operand.tmp 10) (Operand.tmp 84), type := 0, pos := "ref.go:94", after := #[{ on := 23, ground := Ground.data }, { on := 22, ground := Ground.data }, { on := 21, ground := Ground.chain }, { on := 0, ground := Ground.phase }, { on := 1, ground := Ground.phase }, { on := 2, ground := Ground.phase }, { on := 3, ground := Ground.phase }, { on := 4, ground := Ground.phase }, { on := 5, ground := Ground.phase }, { on := 6, ground := Ground.phase }, { on := 7, ground := Ground.phase }, { on := 8, ground := Ground.phase }, { on := 9, ground := Ground.phase }, { on := 10, ground := Ground.phase }, { on := 11, ground := Ground.phase }, { on := 12, ground := Ground.phase }, { on := 13, ground := Ground.phase }, { on := 14, ground := Ground.phase }, { on := 15, ground := Ground.phase }, { on := 16, ground := Ground.phase }, { on := 17, ground := Ground.phase }, { on := 18, ground := Ground.phase }, { on := 19, ground := Ground.phase }, { on := 20, ground := Ground.phase }, { on := 21, ground := Ground.phase }, { on := 22, ground := Ground.phase }, { on := 23, ground := Ground.phase }], guard := none }) rfl (fun K hK => ?_) AllReadyH.nil)
            rw [if_pos (by rfl)]
            have q0 := hkc.c0
            have q1 := hkc.c1
            have q2 := hkc.c2
            have q3 := hkc.c3
            have q4 := hkc.f0
            have q5 := hkc.f1
            have q6 := hkc.f2
            have q7 := hkc.f3
            go_simp
            clear q4 q5 q6 q7
            have hfs := four_set (.int .i64 k1) (.slice ua un uc) (.int .i64 k2) (.slice ia vn ic) q0 q1 q2 q3
            clear q0 q1 q2 q3
            have hgs := grown_own hgr3 hfs.2.2.2.2 (fun k hk => by cases hk; exact hkc.ge)
            refine hK.out _ _ (HS.out _ hgs) (fun hHeld => ?_)
            clear hK K
            try simp only [Act.put, List.setIfInBounds_toArray, List.set_cons_zero, List.set_cons_succ]
            refine wpAnyH_done (by kernel_rfl) ?_ _
            have hEND := hgs
            clear hHeld
            have hdz : wr.drew.heap.size = wr.heap.size := rfl
            have hU2 := hsU.off hfs.2.2.2.2 (fun z e => by cases e; first | exact .inl (by omega) | exact .inr (by omega))
            have hI2 := hsI.off hfs.2.2.2.2 (fun z e => by cases e; first | exact .inl (by omega) | exact .inr (by omega))
            have hU3 := hU2.wide (lo' := wr.heap.size) (by first | exact Nat.le_refl _ | omega) hU2.1 (Nat.le_refl _)
            have hI3 := hI2.wide (lo' := wr.heap.size) (by first | exact Nat.le_refl _ | omega) hI2.1 (Nat.le_refl _)
            have hb3 := span_both hU3 hI3
            obtain ⟨p0, p1, p2, p3, _⟩ := hfs
            obtain ⟨gB, hgB⟩ : ∃ gB, wr.heap.size = gB := ⟨_, rfl⟩
            obtain ⟨X, hX⟩ : ∃ X, (World.setCell (World.setCell (World.setCell (World.setCell wc3 ⟨wr.heap.size, 0, none⟩ (.int .i64 k1)) ⟨wr.heap.size, 1, none⟩ (.slice ua un uc)) ⟨wr.heap.size, 2, none⟩ (.int .i64 k2)) ⟨wr.heap.size, 3, none⟩ (.slice ia vn ic)) = X := ⟨_, rfl⟩
            rw [hX] at p0 p1 p2 p3 hb3 hEND ⊢
            rw [hgB] at p0 p1 p2 p3 ⊢
            clear hdz hX hU2 hI2 hU3 hI3 hsU hsI hgs hga hkc hzA hzG hzU hzI
            clear hgB
            have HE := Lib.hid (And.intro hEND hb3)
            have hIC := HIC.out X ua ia uc ic hb3.here.1 hb3.here.2
            clear hEND hb3
            have HIC2 := Lib.hid hIC
            clear hIC
            go_wp2_with fail
            refine HIC2.out.mono ?_
            rintro e w5 ⟨rfl, g5⟩
            have c0 := g5.cell p0 (by simp)
            have c1 := g5.cell p1 (by simp)
            have c2 := g5.cell p2 (by simp)
            have c3 := g5.cell p3 (by simp)
            have HG5 := Lib.hid (HE.out.1.trans g5)
            have HS5 := Lib.hid ((HE.out.2.grown g5).wide (Nat.le_refl _) g5.size (Nat.le_refl _))
            clear g5 p0 p1 p2 p3
            obtain ⟨Q, hQ⟩ : ∃ Q, inB U V = Q := ⟨_, rfl⟩
            rw [hQ]
            have HOK := Lib.hid hQ
            clear hQ
            cases Q with
            | false =>
              have HM : Hid (meetR A B = ([], 100)) := Lib.hid (by
                rw [meetR, HQ.out, if_pos rfl, if_neg]
                intro hq
                have h1 := (allB_iff.1 hq).2 i x y HX.out.1 HX.out.2.1
                rw [HMX.out.2, HOK.out] at h1
                cases h1)
              go_wp2_with fail
              go_ret2
              exact meetP_none HM.out (HI.out.2.2.1.trans HG5.out)
            | true =>
              have HO5 := Lib.hid (Out.quiet HO.out HG5.out (fun x e => by cases e))
              have hlo : ∀ x, (Value.slice ga i gc).ownBlock = some x → x < wr.heap.size ∨ w5.heap.size ≤ x := fun x hx => .inl (HO.out.own.lt x hx).2
              have HLO := Lib.hid (And.intro hlo HI.out.2.2.1.size); clear hlo
              have HOW : Hid (w5.ownsRow w.heap.size 74 4 (.slice ga i gc) i (D.flatMap bdCells)) := Lib.hid (by have := HO5.out.own; rw [HI.out.2.2.2.1] at this; exact this)
              go_wp2_with (at_builtin; refine wpList_append_own_at _ rfl _ _ 57 rfl w.heap.size 74 i0 (.agg #[.int .i64 0, .slice none 0 0, .int .i64 0, .slice none 0 0]) 4 64 Try.underlying57 hi0 hz0 hz1 hz2 rfl (by decide) _ _ _ rfl (HOW.out.alloc _) ⟨w5.heap.size, 0, none⟩ 1 1 [.int .i64 k1, .slice ua un uc, .int .i64 k2, .slice ia vn ic] rfl rfl (cell_four_new _ _ _ _ _ _) (fun u hu => by simp at hu; rcases hu with rfl | rfl | rfl | rfl <;> rfl) (by unfold maxLen; omega) (by omega) (by have := HLO.out.2; have := HG5.out.size; simp only [World.size_alloc]; omega) ?_; intro v' w6 hown' hgrow6 hnil6 hat6; obtain ⟨g', cap', rfl⟩ := own_shape hown')
              go_roundg (n - (i + 1))
              case measure => rw [HI.out.1]; omega
              case rel =>
                refine ⟨i + 1, D ++ [(((k1, U), (k2, V)), (ua, uc), (ia, ic))], rfl, rfl, by omega, by rw [List.map_append, HI.out.2.1, zip_take HX.out.1 HX.out.2.1, HMX.out.1]; rfl, ?_, ?_, ?_⟩
                · refine Out.push HO5.out (d := (((k1, U), (k2, V)), (ua, uc), (ia, ic))) HS5.out HLO.out.2 HLO.out.1 (by rw [HI.out.2.2.2.1]; simpa [bdCells, HUV.out.1, HUV.out.2] using hown') hgrow6 hat6
                · exact grown_own ((HI.out.2.2.1.trans HG5.out).trans (World.grownBy_alloc _ _ none)) hgrow6 (fun k hk => (HOW.out.lt k hk).1)
                · intro j x' y' hj hx' hy'
                  by_cases hji : j < i
                  · exact HI.out.2.2.2.2 j x' y' hji hx' hy'
                  · have : j = i := by omega
                    subst this
                    rw [HX.out.1] at hx'
                    rw [HX.out.2.1] at hy'
                    cases hx'
                    cases hy'
                    rw [HMX.out.2, HOK.out]
        · have hie : i = n := by omega
          subst hie
          have hinB : decide (i < i) = false := by simp
          have HM : Hid (meetR A B = (D.map (·.1), 0)) := Lib.hid (by
            rw [meetR, HQ.out, if_pos rfl, if_pos (allB_iff.2 ⟨by rw [HN.out.1, HN.out.2, HLM.out], fun j x y hx hy => HI.out.2.2.2.2 j x y (by have := (List.getElem?_eq_some_iff.1 hx).1; rw [HN.out.1] at this; exact this) hx hy⟩), HI.out.2.1, List.take_of_length_le (by rw [List.length_zipWith, HN.out.1]; exact Nat.min_le_left _ _)])
          obtain ⟨a2, c2, hv, hsp⟩ := OutB.bds HO.out
          rw [List.length_map, hDl] at hv
          subst hv
          have HSP := Lib.hid hsp; clear hsp
          have HDL := Lib.hid hDl; clear hDl
          go_wp2_with fail
          go_ret2
          refine ⟨a2, c2, ?_, ?_, HI.out.2.2.1⟩
          · rw [HM.out, List.length_map, HDL.out]; rfl
          · rw [HM.out]; exact HSP.out
end Go.Proofs.Ytbddpjofhddilaa

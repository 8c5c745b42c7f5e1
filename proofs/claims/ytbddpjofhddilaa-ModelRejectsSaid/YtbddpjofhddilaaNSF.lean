/- The law's own models: one atom in each state. -/
import Derived.Test.YtbddpjofhddilaaNSB
import Derived.Test.YtbddpjofhddilaaN06
namespace Go.Proofs.Ytbddpjofhddilaa
open Go.RowKit

def one1 (z : Int) : List Rl := [(1, [z])]
theorem results60 (tmps : Array Value) (w : World) (b : Nat) (a : Option Addr) (n c : Nat) (a2 : Option Addr) (n2 c2 : Nat) (x y : Int) (ht : tmps.getD 4 undef = .pointer (some ⟨b, 0, none⟩)) (h0 : w.cell? ⟨b, 0, none⟩ = some (.slice a n c)) (h1 : w.cell? ⟨b, 1, none⟩ = some (.int .i64 x))
    (h2 : w.cell? ⟨b, 2, none⟩ = some (.slice a2 n2 c2)) (h3 : w.cell? ⟨b, 3, none⟩ = some (.int .i64 y)) :
    (results Try.f60 tmps).run Try.prog w = .ok (.agg #[.slice a n c, .int .i64 x, .slice a2 n2 c2, .int .i64 y]) w := by
  have ht' : tmps[4]?.getD undef = .pointer (some ⟨b, 0, none⟩) := by simpa using ht
  simp [results, ht', go_sem, h0, h1, h2, h3, Result.andThen]

set_option maxRecDepth 100000 in
set_option maxHeartbeats 8000000 in
theorem trace_calls (lp : Int) (zs : List Int) (a : Option Addr) (c : Nat) (w : World) (h : IntsW w a c zs) (hl : zs.length ≤ 1000) :
    Calls Try.prog 60 #[.int .i64 lp, .slice a zs.length c] w fun e w' =>
      ∃ a1 c1 a2 c2, e = .returned (.agg #[.slice a1 1 c1, .int .i64 (zs.length : Nat), .slice a2 (zs.map one1).length c2, .int .i64 lp]) ∧
        Span w.heap.size w'.heap.size w' (fun W => Ints W a1 c1 [3] ∧ Sts W a2 c2 (zs.map one1)) ∧ w.grownBy w' none := by
  obtain ⟨n, hn⟩ : ∃ n, zs.length = n := ⟨_, rfl⟩
  rw [hn] at hl ⊢
  have HX := Lib.hid (And.intro hn h); clear hn h
  go_enter Try.func60, Try.ntmps60
  go_wp2_with fail
  have hg := (World.grownBy_alloc w (.cells #[.slice none 0 0, .int .i64 0, .slice none 0 0, .int .i64 0] 33) none).trans (World.grownBy_alloc (w.alloc (.cells #[.slice none 0 0, .int .i64 0, .slice none 0 0, .int .i64 0] 33)) (.cells #[.int .i64 3] 3) none)
  have hsz : ((w.alloc (.cells #[.slice none 0 0, .int .i64 0, .slice none 0 0, .int .i64 0] 33)).alloc (.cells #[.int .i64 3] 3)).heap.size = w.heap.size + 2 := by simp
  have hfz : ∀ o, ((w.alloc (.cells #[.slice none 0 0, .int .i64 0, .slice none 0 0, .int .i64 0] 33)).alloc (.cells #[.int .i64 3] 3)).frozen? ⟨w.heap.size, o, none⟩ = false := fun o => by go_simp
  have hd : ((w.alloc (.cells #[.slice none 0 0, .int .i64 0, .slice none 0 0, .int .i64 0] 33)).alloc (.cells #[.int .i64 3] 3)).cell? ⟨w.heap.size, 0, none⟩ = some (.slice none 0 0) ∧ ((w.alloc (.cells #[.slice none 0 0, .int .i64 0, .slice none 0 0, .int .i64 0] 33)).alloc (.cells #[.int .i64 3] 3)).cell? ⟨w.heap.size, 1, none⟩ = some (.int .i64 0) ∧
      ((w.alloc (.cells #[.slice none 0 0, .int .i64 0, .slice none 0 0, .int .i64 0] 33)).alloc (.cells #[.int .i64 3] 3)).cell? ⟨w.heap.size, 2, none⟩ = some (.slice none 0 0) ∧ ((w.alloc (.cells #[.slice none 0 0, .int .i64 0, .slice none 0 0, .int .i64 0] 33)).alloc (.cells #[.int .i64 3] 3)).cell? ⟨w.heap.size, 3, none⟩ = some (.int .i64 0) ∧
      ((w.alloc (.cells #[.slice none 0 0, .int .i64 0, .slice none 0 0, .int .i64 0] 33)).alloc (.cells #[.int .i64 3] 3)).cell? ⟨w.heap.size + 1, 0, none⟩ = some (.int .i64 3) := ⟨by go_simp, by go_simp, by go_simp, by go_simp, by go_simp⟩
  obtain ⟨W, hW⟩ : ∃ W, (w.alloc (.cells #[.slice none 0 0, .int .i64 0, .slice none 0 0, .int .i64 0] 33)).alloc (.cells #[.int .i64 3] 3) = W := ⟨_, rfl⟩
  rw [hW] at hg hsz hfz hd ⊢
  clear hW
  have hmade := MadeM.start W (.slice (some ⟨w.heap.size + 1, 0, none⟩) 1 1) (.int .i64 n) (.int .i64 lp)
  have hgw := World.grownBy_alloc W (.cells #[.slice (some ⟨w.heap.size + 1, 0, none⟩) 1 1, .int .i64 n, .slice none 0 0, .int .i64 lp] 33) none
  obtain ⟨Y0, hY0⟩ : ∃ Y0, W.alloc (.cells #[.slice (some ⟨w.heap.size + 1, 0, none⟩) 1 1, .int .i64 n, .slice none 0 0, .int .i64 lp] 33) = Y0 := ⟨_, rfl⟩
  obtain ⟨g0, hg0⟩ : ∃ g0, w.heap.size + 1 + 1 = g0 := ⟨_, rfl⟩
  rw [hY0] at hmade hgw ⊢
  rw [show W.heap.size = g0 by omega] at hmade
  rw [hg0]
  have HW := Lib.hid (And.intro hg (show W.heap.size = g0 by omega))
  have HMS := Lib.hid (And.intro hmade hgw); clear hmade hgw hY0 hg
  have HD := Lib.hid (And.intro hd hfz); clear hd hfz
  have HSP : Hid (Span (w.heap.size + 1) W.heap.size W (fun V => Ints V (some ⟨w.heap.size + 1, 0, none⟩) 1 [3])) := Lib.hid ⟨Nat.le_refl _, fun V hV => ⟨Nat.le_refl _, .inr ⟨w.heap.size + 1, 0, rfl, size_of_heap (hV (w.heap.size + 1) (by omega) (by omega)) (by omega), fun j z hj => by
    match j, hj with
    | 0, hj =>
      simp at hj
      subst hj
      rw [Nat.add_zero, World.cell?_of_block (a := ⟨w.heap.size + 1, 0, none⟩) (hV (w.heap.size + 1) (by omega) (by omega))]; exact HD.out.1.2.2.2.2⟩⟩⟩
  have HG0 := Lib.hid hg0; clear hg0
  go_loopg [6] n (fun g s6 wr => ∃ (i : Nat) (D : List Ds) (lv : Value), s6 = .int .i64 (i : Int) ∧ g = n - i ∧ i ≤ n ∧ MadeM wr g0 (.slice (some ⟨w.heap.size + 1, 0, none⟩) 1 1) (.int .i64 n) (.int .i64 lp) lv D ∧ D.map (·.1) = (zs.take i).map one1 ∧ W.grownBy wr none)
  case atStart => exact ⟨0, [], _, rfl, rfl, Nat.zero_le _, HMS.out.1, rfl, HMS.out.2⟩
  case round =>
    obtain ⟨i, D, lv, rfl, hgt, hi, hmd, hD, hgr⟩ := hrel
    have hDl : D.length = i := by rw [← List.length_map (f := (·.1)), hD, List.length_map, List.length_take, HX.out.1]; omega
    have HM := Lib.hid hmd
    have HGT := Lib.hid (And.intro hgt (And.intro hD (And.intro hDl hgr))); clear hgt hD
    obtain ⟨e0, e1, e2, e3, ef, eout⟩ := hmd
    obtain ⟨va, vc, rfl⟩ := own_shape eout.own
    rw [hDl] at e2
    rw [hDl] at HM
    clear eout hDl
    by_cases hin : i < n
    · have hinB : decide (i < n) = true := by simpa using hin
      have hinI : (i : Int) < (n : Int) := by omega
      obtain ⟨z, hz⟩ : ∃ z, zs[i]? = some z := ⟨_, List.getElem?_eq_getElem (by rw [HX.out.1]; exact hin)⟩
      obtain ⟨sb, so, rfl, cz⟩ := (HX.out.2.grown (HW.out.1.trans hgr)).at hz
      have HZI := Lib.hid hz; clear hz
      have HSET := Lib.hid (fun (W' : World) (_ : wr.grownBy W' none) => set_calls z W')
      have HST4 : Hid (∀ (w4 : World) (g3 : wr.drew.grownBy w4 none), MadeM w4 g0 (.slice (some ⟨w.heap.size + 1, 0, none⟩) 1 1) (.int .i64 n) (.int .i64 lp) (.slice va i vc) D ∧ wr.grownBy w4 none) := Lib.hid fun w4 g3 => ⟨HM.out.off (World.grownBy.trans (b := wr.drew) (grown_drewN wr 1 none) g3) (fun x e => by cases e), World.grownBy.trans (b := wr.drew) (grown_drewN wr 1 none) g3⟩
      have HD40 : Hid (wr.drew.heap.size = wr.heap.size ∧ g0 + 1 ≤ wr.drew.heap.size) := Lib.hid ⟨rfl, HM.out.lt⟩
      clear hgr
      go_wp2_with fail
      refine wp_region_any (by kernel_rfl) ?_
      change wpAny _ _ _ _ _ _ _ (World.drew _)
      refine wpAny_take (i := 0) (v := ?vQx1) rfl (by kernel_rfl) (by kernel_rfl) (by kernel_rfl) (fun _ _ _ h => h) (Or.inl ⟨by rfl, ?yQx1⟩) ?rQx1
      case yQx1 => (intro W; first | (go_simp; done) | (go_simp; with_reducible rfl))
      try simp only [Act.put, List.setIfInBounds_toArray]
      refine wpAny_take (i := 2) (v := ?vQx2) rfl (by kernel_rfl) (by kernel_rfl) (by kernel_rfl) (fun _ _ _ h => h) (Or.inl ⟨by rfl, ?yQx2⟩) ?rQx2
      case yQx2 => (intro W; first | (go_simp; done) | (go_simp; with_reducible rfl))
      try simp only [Act.put]
      refine wpAny_take (i := 3) (v := ?vQx3) rfl (by kernel_rfl) (by kernel_rfl) (by kernel_rfl) (fun _ _ _ h => h) (Or.inl ⟨by rfl, ?yQx3⟩) ?rQx3
      case yQx3 => (intro W; first | (go_simp; done) | (go_simp; with_reducible rfl))
      try simp only [Act.put]
      refine wpAny_take (i := 4) (v := ?vQx4) rfl (by kernel_rfl) (by kernel_rfl) (by kernel_rfl) (fun _ _ _ h => h) (Or.inl ⟨by rfl, ?yQx4⟩) ?rQx4
      case yQx4 => (intro W; first | (go_simp; done) | (go_simp; with_reducible rfl))
      try simp only [Act.put]
      refine wpAny_ready (rs := [1, 5]) (by kernel_rfl) (by simp) ?_
      refine (AllReady.cons rfl (fun K hK => ?_) (AllReady.cons rfl (fun K hK => ?_) AllReady.nil))
      · go_simp
        refine hK _ _ ?_
        clear hK K
        try simp only [Act.put, List.setIfInBounds_toArray, List.set_cons_zero, List.set_cons_succ]
        refine wpAny_ready (rs := [5]) (by kernel_rfl) (by simp) ?_
        refine (AllReady.cons rfl (fun K hK => ?_) AllReady.nil)
        go_simp
        refine hK _ _ ?_
        clear hK K
        try simp only [Act.put, List.setIfInBounds_toArray, List.set_cons_zero, List.set_cons_succ]
        refine wpAny_ready (rs := [6]) (by kernel_rfl) (by simp) ?_
        refine (AllReady.cons rfl (fun K hK => ?_) AllReady.nil)
        go_simp
        refine (HSET.out wr.drew (grown_drewN wr 1 none)).mono ?_
        rintro e w4 ⟨a', c', rfl, hsp, g3⟩
        have HS4 := Lib.hid (And.intro hsp (HST4.out w4 g3)); clear hsp g3
        obtain ⟨k0, k1, k2, k3, kf, ko⟩ := HS4.out.2.1
        have kA := (World.grownBy_alloc w4 (.cells #[.slice a' 1 c'] 40) none).cell k2 (by simp)
        have HOW := Lib.hid ko.own; clear ko
        rw [HGT.out.2.2.1] at HOW
        go_wp2_with fail
        try (refine hK _ _ ?_; clear hK K)
        try simp only [Act.put, List.setIfInBounds_toArray, List.set_cons_zero, List.set_cons_succ]
        refine wpAny_ready (rs := [7]) (by kernel_rfl) (by simp) ?_
        refine (AllReady.cons rfl (fun K hK => ?_) AllReady.nil)
        go_simp
        refine hK _ _ ?_
        clear hK K
        try simp only [Act.put, List.setIfInBounds_toArray, List.set_cons_zero, List.set_cons_succ]
        refine wpAny_ready (rs := [8]) (by kernel_rfl) (by simp) ?_
        refine (AllReady.cons rfl (fun K hK => ?_) AllReady.nil)
        refine ready_append rfl _ _ rfl (g0 + 1) _ i (D.flatMap stCells) rfl (HOW.out.alloc _) ⟨w4.heap.size, 0, none⟩ (.slice a' 1 c') rfl (cell_one_at _ _ _) rfl (by omega) (by simp only [World.size_alloc]; have := HS4.out.2.1.lt; omega) (fun v' w5 hown' hgrow5 hat5 => ?_)
        obtain ⟨va', vc', rfl⟩ := own_shape hown'
        obtain ⟨f0, f1, f2, f3, ff, -⟩ := HS4.out.2.1.at_ hgrow5
        refine hK _ _ ?_
        clear hK K
        try simp only [Act.put, List.setIfInBounds_toArray]
        refine wpAny_take (i := 9) (v := ?vQx5) rfl (by kernel_rfl) (by kernel_rfl) (by kernel_rfl) (fun _ _ _ h => h) (Or.inl ⟨by rfl, ?yQx5⟩) ?rQx5
        case yQx5 => (intro W; first | (go_simp; done) | (go_simp; with_reducible rfl))
        try simp only [Act.put]
        refine wpAny_ready (rs := [10]) (by kernel_rfl) (by simp) ?_
        refine (AllReady.cons rfl (fun K hK => ?_) AllReady.nil)
        go_simp
        refine hK _ _ ?_
        clear hK K
        try simp only [Act.put, List.setIfInBounds_toArray, List.set_cons_zero, List.set_cons_succ]
        refine wpAny_done (by kernel_rfl) ?_ _
        go_wp2_with fail
        go_roundg (n - (i + 1))
        case measure => rw [HGT.out.1]; omega
        case rel =>
          have hw2 := HW.out.2
          refine ⟨i + 1, D ++ [(one1 z, a', c')], _, rfl, rfl, by omega, HS4.out.2.1.step HS4.out.1 HD40.out.2 (fun x hx => .inl (HM.out.out.own.lt x hx).2) (by rw [HGT.out.2.2.1]; exact hown') hgrow5 hat5, ?_, ?_⟩
          · rw [List.map_append, HGT.out.2.1, List.take_add_one, HZI.out, Option.toList_some, List.map_append]; rfl
          · exact grown_made (HGT.out.2.2.2.trans HS4.out.2.2) hgrow5 (fun x hx => by have := (HM.out.out.own.lt x hx).1; omega) (by omega)
      · go_simp
        refine hK _ _ ?_
        clear hK K
        try simp only [Act.put, List.setIfInBounds_toArray, List.set_cons_zero, List.set_cons_succ]
        refine wpAny_ready (rs := [1, 6]) (by kernel_rfl) (by simp) ?_
        refine (AllReady.cons rfl (fun K hK => ?_) (AllReady.cons rfl (fun K hK => ?_) AllReady.nil))
        · go_simp
          refine hK _ _ ?_
          clear hK K
          try simp only [Act.put, List.setIfInBounds_toArray, List.set_cons_zero, List.set_cons_succ]
          refine wpAny_ready (rs := [6]) (by kernel_rfl) (by simp) ?_
          refine (AllReady.cons rfl (fun K hK => ?_) AllReady.nil)
          go_simp
          refine (HSET.out wr.drew (grown_drewN wr 1 none)).mono ?_
          rintro e w4 ⟨a', c', rfl, hsp, g3⟩
          have HS4 := Lib.hid (And.intro hsp (HST4.out w4 g3)); clear hsp g3
          obtain ⟨k0, k1, k2, k3, kf, ko⟩ := HS4.out.2.1
          have kA := (World.grownBy_alloc w4 (.cells #[.slice a' 1 c'] 40) none).cell k2 (by simp)
          have HOW := Lib.hid ko.own; clear ko
          rw [HGT.out.2.2.1] at HOW
          go_wp2_with fail
          try (refine hK _ _ ?_; clear hK K)
          try simp only [Act.put, List.setIfInBounds_toArray, List.set_cons_zero, List.set_cons_succ]
          refine wpAny_ready (rs := [7]) (by kernel_rfl) (by simp) ?_
          refine (AllReady.cons rfl (fun K hK => ?_) AllReady.nil)
          go_simp
          refine hK _ _ ?_
          clear hK K
          try simp only [Act.put, List.setIfInBounds_toArray, List.set_cons_zero, List.set_cons_succ]
          refine wpAny_ready (rs := [8]) (by kernel_rfl) (by simp) ?_
          refine (AllReady.cons rfl (fun K hK => ?_) AllReady.nil)
          refine ready_append rfl _ _ rfl (g0 + 1) _ i (D.flatMap stCells) rfl (HOW.out.alloc _) ⟨w4.heap.size, 0, none⟩ (.slice a' 1 c') rfl (cell_one_at _ _ _) rfl (by omega) (by simp only [World.size_alloc]; have := HS4.out.2.1.lt; omega) (fun v' w5 hown' hgrow5 hat5 => ?_)
          obtain ⟨va', vc', rfl⟩ := own_shape hown'
          obtain ⟨f0, f1, f2, f3, ff, -⟩ := HS4.out.2.1.at_ hgrow5
          refine hK _ _ ?_
          clear hK K
          try simp only [Act.put, List.setIfInBounds_toArray]
          refine wpAny_take (i := 9) (v := ?vQx6) rfl (by kernel_rfl) (by kernel_rfl) (by kernel_rfl) (fun _ _ _ h => h) (Or.inl ⟨by rfl, ?yQx6⟩) ?rQx6
          case yQx6 => (intro W; first | (go_simp; done) | (go_simp; with_reducible rfl))
          try simp only [Act.put]
          refine wpAny_ready (rs := [10]) (by kernel_rfl) (by simp) ?_
          refine (AllReady.cons rfl (fun K hK => ?_) AllReady.nil)
          go_simp
          refine hK _ _ ?_
          clear hK K
          try simp only [Act.put, List.setIfInBounds_toArray, List.set_cons_zero, List.set_cons_succ]
          refine wpAny_done (by kernel_rfl) ?_ _
          go_wp2_with fail
          go_roundg (n - (i + 1))
          case measure => rw [HGT.out.1]; omega
          case rel =>
            have hw2 := HW.out.2
            refine ⟨i + 1, D ++ [(one1 z, a', c')], _, rfl, rfl, by omega, HS4.out.2.1.step HS4.out.1 HD40.out.2 (fun x hx => .inl (HM.out.out.own.lt x hx).2) (by rw [HGT.out.2.2.1]; exact hown') hgrow5 hat5, ?_, ?_⟩
            · rw [List.map_append, HGT.out.2.1, List.take_add_one, HZI.out, Option.toList_some, List.map_append]; rfl
            · exact grown_made (HGT.out.2.2.2.trans HS4.out.2.2) hgrow5 (fun x hx => by have := (HM.out.out.own.lt x hx).1; omega) (by omega)
        · go_simp
          refine (HSET.out wr.drew (grown_drewN wr 1 none)).mono ?_
          rintro e w4 ⟨a', c', rfl, hsp, g3⟩
          have HS4 := Lib.hid (And.intro hsp (HST4.out w4 g3)); clear hsp g3
          obtain ⟨k0, k1, k2, k3, kf, ko⟩ := HS4.out.2.1
          have kA := (World.grownBy_alloc w4 (.cells #[.slice a' 1 c'] 40) none).cell k2 (by simp)
          have HOW := Lib.hid ko.own; clear ko
          rw [HGT.out.2.2.1] at HOW
          go_wp2_with fail
          try (refine hK _ _ ?_; clear hK K)
          try simp only [Act.put, List.setIfInBounds_toArray, List.set_cons_zero, List.set_cons_succ]
          refine wpAny_ready (rs := [1, 7]) (by kernel_rfl) (by simp) ?_
          refine (AllReady.cons rfl (fun K hK => ?_) (AllReady.cons rfl (fun K hK => ?_) AllReady.nil))
          · go_simp
            refine hK _ _ ?_
            clear hK K
            try simp only [Act.put, List.setIfInBounds_toArray, List.set_cons_zero, List.set_cons_succ]
            refine wpAny_ready (rs := [7]) (by kernel_rfl) (by simp) ?_
            refine (AllReady.cons rfl (fun K hK => ?_) AllReady.nil)
            go_simp
            refine hK _ _ ?_
            clear hK K
            try simp only [Act.put, List.setIfInBounds_toArray, List.set_cons_zero, List.set_cons_succ]
            refine wpAny_ready (rs := [8]) (by kernel_rfl) (by simp) ?_
            refine (AllReady.cons rfl (fun K hK => ?_) AllReady.nil)
            refine ready_append rfl _ _ rfl (g0 + 1) _ i (D.flatMap stCells) rfl (HOW.out.alloc _) ⟨w4.heap.size, 0, none⟩ (.slice a' 1 c') rfl (cell_one_at _ _ _) rfl (by omega) (by simp only [World.size_alloc]; have := HS4.out.2.1.lt; omega) (fun v' w5 hown' hgrow5 hat5 => ?_)
            obtain ⟨va', vc', rfl⟩ := own_shape hown'
            obtain ⟨f0, f1, f2, f3, ff, -⟩ := HS4.out.2.1.at_ hgrow5
            refine hK _ _ ?_
            clear hK K
            try simp only [Act.put, List.setIfInBounds_toArray]
            refine wpAny_take (i := 9) (v := ?vQx7) rfl (by kernel_rfl) (by kernel_rfl) (by kernel_rfl) (fun _ _ _ h => h) (Or.inl ⟨by rfl, ?yQx7⟩) ?rQx7
            case yQx7 => (intro W; first | (go_simp; done) | (go_simp; with_reducible rfl))
            try simp only [Act.put]
            refine wpAny_ready (rs := [10]) (by kernel_rfl) (by simp) ?_
            refine (AllReady.cons rfl (fun K hK => ?_) AllReady.nil)
            go_simp
            refine hK _ _ ?_
            clear hK K
            try simp only [Act.put, List.setIfInBounds_toArray, List.set_cons_zero, List.set_cons_succ]
            refine wpAny_done (by kernel_rfl) ?_ _
            go_wp2_with fail
            go_roundg (n - (i + 1))
            case measure => rw [HGT.out.1]; omega
            case rel =>
              have hw2 := HW.out.2
              refine ⟨i + 1, D ++ [(one1 z, a', c')], _, rfl, rfl, by omega, HS4.out.2.1.step HS4.out.1 HD40.out.2 (fun x hx => .inl (HM.out.out.own.lt x hx).2) (by rw [HGT.out.2.2.1]; exact hown') hgrow5 hat5, ?_, ?_⟩
              · rw [List.map_append, HGT.out.2.1, List.take_add_one, HZI.out, Option.toList_some, List.map_append]; rfl
              · exact grown_made (HGT.out.2.2.2.trans HS4.out.2.2) hgrow5 (fun x hx => by have := (HM.out.out.own.lt x hx).1; omega) (by omega)
          · go_simp
            refine hK _ _ ?_
            clear hK K
            try simp only [Act.put, List.setIfInBounds_toArray, List.set_cons_zero, List.set_cons_succ]
            refine wpAny_ready (rs := [1]) (by kernel_rfl) (by simp) ?_
            refine (AllReady.cons rfl (fun K hK => ?_) AllReady.nil)
            go_simp
            refine hK _ _ ?_
            clear hK K
            try simp only [Act.put, List.setIfInBounds_toArray, List.set_cons_zero, List.set_cons_succ]
            refine wpAny_ready (rs := [8]) (by kernel_rfl) (by simp) ?_
            refine (AllReady.cons rfl (fun K hK => ?_) AllReady.nil)
            refine ready_append rfl _ _ rfl (g0 + 1) _ i (D.flatMap stCells) rfl (HOW.out.alloc _) ⟨w4.heap.size, 0, none⟩ (.slice a' 1 c') rfl (cell_one_at _ _ _) rfl (by omega) (by simp only [World.size_alloc]; have := HS4.out.2.1.lt; omega) (fun v' w5 hown' hgrow5 hat5 => ?_)
            obtain ⟨va', vc', rfl⟩ := own_shape hown'
            obtain ⟨f0, f1, f2, f3, ff, -⟩ := HS4.out.2.1.at_ hgrow5
            refine hK _ _ ?_
            clear hK K
            try simp only [Act.put, List.setIfInBounds_toArray]
            refine wpAny_take (i := 9) (v := ?vQx8) rfl (by kernel_rfl) (by kernel_rfl) (by kernel_rfl) (fun _ _ _ h => h) (Or.inl ⟨by rfl, ?yQx8⟩) ?rQx8
            case yQx8 => (intro W; first | (go_simp; done) | (go_simp; with_reducible rfl))
            try simp only [Act.put]
            refine wpAny_ready (rs := [10]) (by kernel_rfl) (by simp) ?_
            refine (AllReady.cons rfl (fun K hK => ?_) AllReady.nil)
            go_simp
            refine hK _ _ ?_
            clear hK K
            try simp only [Act.put, List.setIfInBounds_toArray, List.set_cons_zero, List.set_cons_succ]
            refine wpAny_done (by kernel_rfl) ?_ _
            go_wp2_with fail
            go_roundg (n - (i + 1))
            case measure => rw [HGT.out.1]; omega
            case rel =>
              have hw2 := HW.out.2
              refine ⟨i + 1, D ++ [(one1 z, a', c')], _, rfl, rfl, by omega, HS4.out.2.1.step HS4.out.1 HD40.out.2 (fun x hx => .inl (HM.out.out.own.lt x hx).2) (by rw [HGT.out.2.2.1]; exact hown') hgrow5 hat5, ?_, ?_⟩
              · rw [List.map_append, HGT.out.2.1, List.take_add_one, HZI.out, Option.toList_some, List.map_append]; rfl
              · exact grown_made (HGT.out.2.2.2.trans HS4.out.2.2) hgrow5 (fun x hx => by have := (HM.out.out.own.lt x hx).1; omega) (by omega)
    · have hie : i = n := by omega
      subst hie
      have hinB : decide (i < i) = false := by simp
      have d0 := hgr.cell HD.out.1.1 (by simp)
      have d1 := hgr.cell HD.out.1.2.1 (by simp)
      have d2 := hgr.cell HD.out.1.2.2.1 (by simp)
      have d3 := hgr.cell HD.out.1.2.2.2.1 (by simp)
      have z0 := (grown_frozen hgr (b := w.heap.size) (by omega) 0).trans (HD.out.2 0)
      have z1 := (grown_frozen hgr (b := w.heap.size) (by omega) 1).trans (HD.out.2 1)
      have z2 := (grown_frozen hgr (b := w.heap.size) (by omega) 2).trans (HD.out.2 2)
      have z3 := (grown_frozen hgr (b := w.heap.size) (by omega) 3).trans (HD.out.2 3)
      have HGR := Lib.hid hgr
      go_wp2_with fail
      obtain ⟨va2, vc2, hve, hsts⟩ := HM.out.sts
      rw [HGT.out.2.1, List.take_of_length_le (by rw [HX.out.1]; exact Nat.le_refl _)] at hve hsts
      injection hve with e4 e5 e6
      subst e4 e6
      obtain ⟨q0, q1, q2, q3, qg⟩ := four_sets (.slice (some ⟨w.heap.size + 1, 0, none⟩) 1 1) (.int .i64 i) (.slice va i vc) (.int .i64 lp) d0 d1 d2 d3
      have hsz1 := qg.size
      have hsz2 := HGR.out.size
      have hg0 := HW.out.2
      refine bodyPost_ret (results60 _ _ w.heap.size (some ⟨w.heap.size + 1, 0, none⟩) 1 1 va i vc i lp rfl q0 q1 q2 q3) rfl ⟨some ⟨w.heap.size + 1, 0, none⟩, 1, va, vc, by rw [List.length_map, HX.out.1], ?_, ?_⟩
      · have h1 := (HSP.out.grown HGR.out).off qg (fun x hx => by cases hx; left; omega)
        have h2 := hsts.off qg (fun x hx => by cases hx; left; omega)
        exact (h1.wide (by omega) (by omega) (Nat.le_refl _)).both (h2.wide (by omega) hsz1 (Nat.le_refl _))
      · exact grown_own (HW.out.1.trans HGR.out) qg (fun x hx => by cases hx; omega)
end Go.Proofs.Ytbddpjofhddilaa

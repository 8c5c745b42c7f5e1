/- Texts of the proof: T5d. -/
import Derived.Test.YthkjjiijjedipaaDoorCD33
import Derived.Test.YthkjjiijjedipaaDoorCD37
import Derived.Test.YthkjjiijjedipaaDoorCD34
import Derived.Test.YthkjjiijjedipaaDoorCD36
namespace Go.Proofs.YthkjjiijjedipaaDoor
open Go.RowKit Go.Maps
set_option maxRecDepth 100000

theorem res22 (tmps : Array Value) (w : World) (b : Nat) (v : Int) (a : Option Addr) (n c : Nat) (ht : tmps.getD 2 undef = .pointer (some ⟨b, 0, none⟩)) (h0 : w.cell? ⟨b, 0, none⟩ = some (.int .i64 v)) (h1 : w.cell? ⟨b, 1, none⟩ = some (.slice a n c)) :
    (results Tryd.f22 tmps).run Tryd.prog w = .ok (cnfV v a n c) w := by
  have ht' : tmps[2]?.getD undef = .pointer (some ⟨b, 0, none⟩) := by simpa using ht
  simp [results, ht', go_sem, h0, h1, Result.andThen]
/-- A row of clauses, by its cells and by what they hold. -/
theorem cls_of_own {w : World} {B n : Nat} {v : Value} {D : List Dc} (h : w.ownsRow B 28 1 v n (D.flatMap clC)) (hn : D.length = n) (hd : ∀ d ∈ D, clP d w) : ∃ a c, v = .slice a n c ∧ ClsW w a c (D.map (fun x => x.1)) := by
  have hc := @World.ownsRow.cells w B 28 1 v n _ h
  rcases h.2 with ⟨hv, h0⟩ | ⟨g, cap, cur, rfl, hb, hg, hnc, hcm, _⟩
  · have hl : D = [] := List.eq_nil_of_length_eq_zero (by omega)
    subst hl
    exact ⟨none, 0, by rw [hv, h0], clsW_nil _ _ _⟩
  · refine ⟨_, _, rfl, by rw [List.length_map, hn]; exact hnc, .inr ⟨g, 0, rfl, fun j z hz => ?_⟩⟩
    rw [List.getElem?_map] at hz
    cases hd' : D[j]? with
    | none => rw [hd'] at hz; cases hz
    | some d =>
      rw [hd'] at hz
      simp only [Option.map_some, Option.some.injEq] at hz
      subst hz
      have := hc (g := g) rfl j (.slice d.2.1 d.1.length d.2.2) (by
        have := flat_at (cs := clC) (k := 1) (fun _ => rfl) D j d hd' 0 (by decide)
        rw [Nat.mul_one, Nat.add_zero] at this
        rw [this]; rfl)
      rw [add_at] at this
      exact ⟨d.2.1, d.2.2, by rw [Nat.zero_add]; exact this, hd d (List.mem_of_getElem? hd')⟩

/-- The row of distinct literals that is being made. -/
structure DiS (W3 : World) (bm : Nat) (zs : List Int) (wr : World) (j : Nat) (av : Option Addr) (cv : Nat) : Prop where
  own : wr.ownsRow W3.heap.size 3 1 (.slice av (distGo zs j).length cv) (distGo zs j).length (intCells (distGo zs j))
  grow : W3.grownBy wr none
  mp : ∃ m, MapF 3 litI wr bm m (ixOf zs)
  lt : bm < W3.heap.size

/-- The clauses that are kept, in their box. -/
structure KeS (W4 : World) (p14 : Nat) (v : Int) (D : List Dc) (cl : List (List Int)) (wr : World) (k t : Nat) (ov : Option Addr) (oc : Nat) (E : List Dc) : Prop where
  f0 : wr.cell? ⟨p14, 0, none⟩ = some (.int .i64 v)
  f1 : wr.cell? ⟨p14, 1, none⟩ = some (.slice ov t oc)
  ff : wr.frozen? ⟨p14, 1, none⟩ = false
  own : wr.ownsRow (p14 + 1) 28 1 (.slice ov t oc) t (E.flatMap clC)
  len : E.length = t
  els : ∀ d ∈ E, d ∈ D
  map : E.map (fun x => x.1) = keepGo cl k
  grow : W4.grownBy wr none
  low : W4.heap.size ≤ p14
theorem KeS.step {W4 : World} {p14 : Nat} {v : Int} {D : List Dc} {cl : List (List Int)} {wr w' : World} {k t : Nat} {ov : Option Addr} {oc : Nat} {E : List Dc} (h : KeS W4 p14 v D cl wr k t ov oc E) (hg : wr.grownBy w' none) (hk : keepGo cl (k + 1) = keepGo cl k) : KeS W4 p14 v D cl w' (k + 1) t ov oc E :=
  ⟨hg.cell h.f0 (by simp), hg.cell h.f1 (by simp), (grown_frozen hg (lies_lt h.f1) 1).trans h.ff, own_grown h.own hg, h.len, h.els, by rw [hk]; exact h.map, World.grownBy.trans h.grow hg, h.low⟩

set_option maxHeartbeats 16000000 in
theorem simplify_calls (v : Int) (l : List (List Int)) (a : Option Addr) (c : Nat) (w : World) (h : ClsW w a c l) (hl : l.length ≤ 1000) (hl2 : ∀ z ∈ l, z.length ≤ 1000) (hb : ∀ z ∈ l, ∀ x ∈ z, Nine x) (htab : Tab w) :
    Calls Tryd.prog 22 #[cnfV v a l.length c] w fun e w' => ∃ a' c', e = .returned (cnfV v a' (simpP l).length c') ∧ ClsW w' a' c' (simpP l) ∧ w.grownBy w' none := by
  obtain ⟨n, hn⟩ : ∃ n, l.length = n := ⟨_, rfl⟩
  have hg1 := World.grownBy_alloc w (.cells #[.int .i64 v, .slice a n c] 35) none
  have e1 := one_cells w (.int .i64 v) (.slice a n c) 35
  obtain ⟨W1, hW1⟩ : ∃ W, w.alloc (.cells #[.int .i64 v, .slice a n c] 35) = W := ⟨_, rfl⟩
  rw [hW1] at hg1 e1
  have hg2 := World.grownBy_alloc W1 (.cells #[.int .i64 0, .slice none 0 0] 35) none
  have e2 := one_cells W1 (.int .i64 0) (.slice none 0 0) 35
  obtain ⟨W2, hW2⟩ : ∃ W, W1.alloc (.cells #[.int .i64 0, .slice none 0 0] 35) = W := ⟨_, rfl⟩
  rw [hW2] at hg2 e2
  have q0 := hg2.cell e1.2.1 (by simp)
  have q1 := hg2.cell e1.2.2.1 (by simp)
  have HQ := Lib.hid (And.intro q0 q1)
  have HR2 := Lib.hid e2
  have HG := Lib.hid (World.grownBy.trans hg1 hg2)
  have HN := Lib.hid (And.intro hn (And.intro h (And.intro hl2 (And.intro hb htab))))
  have HSZ := Lib.hid (And.intro e1.1 e2.1)
  rw [hn] at hl ⊢
  clear hg1 hg2 e1 e2 hn h hl2 hb htab
  go_enter Tryd.func22, Tryd.ntmps22
  go_wp2_with fail
  clear hW1 hW2 q0 q1
  go_loopg [20, 3] n (fun gk s20 s3 wr => ∃ (k p : Nat) (av : Option Addr) (cv : Nat) (D : List Dc), s20 = .int .i64 (k : Int) ∧ s3 = .slice av p cv ∧ gk = n - k ∧ k ≤ n ∧ D.length = p ∧ OutC wr W2.heap.size (.slice av p cv) D ∧ D.map (fun x => x.1) = dropGo l k ∧ W2.grownBy wr none)
  case atStart => exact ⟨0, 0, none, 0, [], rfl, rfl, rfl, Nat.zero_le _, rfl, Out.start _ _ _, rfl, grown_refl _ _⟩
  case round =>
    obtain ⟨k, p, av, cv, D, rfl, rfl, hgk, hk, hDp, hO, hDl, hgr⟩ := hrel
    obtain ⟨wo, hwo⟩ : ∃ z, z = wr := ⟨_, rfl⟩
    rw [← hwo] at hO hgr ⊢
    clear hwo
    have HI := Lib.hid (And.intro hgk (And.intro hDp (And.intro hO (And.intro hDl hgr))))
    clear hgk hDp hO hDl hgr
    by_cases hkn : k < n
    · have hkB : decide (k < n) = true := by simpa using hkn
      have hkI : (k : Int) < (n : Int) := by omega
      obtain ⟨zs, hz⟩ : ∃ z, l[k]? = some z := ⟨_, List.getElem?_eq_getElem (by rw [HN.out.1]; exact hkn)⟩
      have hcl := HN.out.2.1.grown (World.grownBy.trans HG.out HI.out.2.2.2.2)
      obtain ⟨rb, ro, ra, rc, rfl, c0, hir⟩ := hcl.at hz
      have hzl := HN.out.2.2.1 zs (List.mem_of_getElem? hz)
      have hzb := HN.out.2.2.2.1 zs (List.mem_of_getElem? hz)
      have HZ := Lib.hid (And.intro hz (And.intro hir hzb))
      have HFI := Lib.hid (firstsI_calls zs ra rc wo hir (by omega) (fun x hx => by have := hzb x hx; unfold Nine at this; omega))
      obtain ⟨q, hq⟩ : ∃ q, zs.length = q := ⟨_, rfl⟩
      rw [hq] at c0 HFI hzl
      have HQL := Lib.hid hq
      clear hz hcl hir hzb hq
      go_wp2_with fail
      refine HFI.out.mono ?_
      rintro e W3 ⟨bm, mm, rfl, hM3, _, hbm3, hg3⟩
      have H3 := Lib.hid (And.intro hM3 (And.intro hbm3 hg3))
      have HD0 : Hid (DiS W3 bm zs W3 0 none 0) := Lib.hid ⟨World.ownsRow_nil _ _ _ _, grown_refl _ _, ⟨mm, hM3⟩, hM3.lt⟩
      clear hM3 hbm3 hg3 c0
      go_wp2_with fail
      go_loopg [28, 7, 8] q (fun gk s28 s7 s8 wr => ∃ (j t : Nat) (dv : Option Addr) (dc : Nat), s28 = .int .i64 (j : Int) ∧ s7 = .slice dv t dc ∧ s8 = .bool (tautGo zs j) ∧ gk = q - j ∧ j ≤ q ∧ (distGo zs j).length = t ∧ DiS W3 bm zs wr j dv dc)
      case atStart => exact ⟨0, 0, none, 0, rfl, rfl, rfl, rfl, Nat.zero_le _, rfl, HD0.out⟩
      case round =>
        obtain ⟨j, t, dv, dc, rfl, rfl, rfl, hgj, hj, hDt, hS⟩ := hrel
        obtain ⟨w5, hw5⟩ : ∃ z, z = wr := ⟨_, rfl⟩
        rw [← hw5] at hS ⊢
        clear hw5
        have HJ := Lib.hid (And.intro hgj (And.intro hDt hS))
        clear hgj hDt hS
        by_cases hjq : j < q
        · have hjB : decide (j < q) = true := by simpa using hjq
          have hjI : (j : Int) < (q : Int) := by omega
          obtain ⟨x, hx⟩ : ∃ x, zs[j]? = some x := ⟨_, List.getElem?_eq_getElem (by rw [HQL.out]; exact hjq)⟩
          have hg35 := World.grownBy.trans H3.out.2.2 HJ.out.2.2.grow
          obtain ⟨xb, xo, rfl, c1⟩ := (HZ.out.2.1.grown hg35).at hx
          have hxn := HZ.out.2.2 x (List.mem_of_getElem? hx)
          unfold Nine at hxn
          have hng : IntKind.i64.wrap (-x) = -x := IntWalk.i64_in _ (by omega)
          obtain ⟨mj, hM5⟩ := HJ.out.2.2.mp
          have hk1 : keyOf Tryd.prog 3 (.int .i64 x) = some (litI x) := keyOf_int_mk Tryd.underlying3 (WalkArith.wf_i64 (by omega))
          have hk2 : keyOf Tryd.prog 3 (.int .i64 (-x)) = some (litI (-x)) := keyOf_int_mk Tryd.underlying3 (WalkArith.wf_i64 (by omega))
          obtain ⟨j1, hj1l, hj1⟩ := ix_of_mem (List.mem_of_getElem? hx)
          have hlk1 := hM5.look1 (mt := 64) (int_keyed Tryd.underlying3) Tryd.underlying64 hk1 hj1
          obtain ⟨o2, ho2⟩ : ∃ o, (ixOf zs (-x)).isSome = o := ⟨_, rfl⟩
          have HTS : Hid (tautGo zs (j + 1) = (tautGo zs j || o2)) := Lib.hid (by rw [taut_step hx, ho2])
          obtain ⟨o1, ho1⟩ : ∃ o, tautGo zs j = o := ⟨_, rfl⟩
          rw [ho1]
          rw [ho1] at HTS
          have HX := Lib.hid (And.intro hx (And.intro hj1 (And.intro hk2 ho2)))
          have HM5 := Lib.hid hM5
          obtain ⟨i0, hi0, hz0, hz1, hz2⟩ := info_parts info3
          clear hx hg35 hxn hM5 hk1 hk2 hj1 ho2 ho1 hj1l
          by_cases hjj : j1 = j
          · have hbq : ((j1 : Int) == (j : Int)) = true := by rw [hjj]; simp
            have HDY : Hid (distGo zs (j + 1) = distGo zs j ++ [x]) := Lib.hid (dist_yes HX.out.1 (by rw [HX.out.2.1, hjj]))
            obtain ⟨Ld, hLd⟩ : ∃ z, intCells (distGo zs j) = z := ⟨_, rfl⟩
            have hown5 := HJ.out.2.2.own
            rw [HJ.out.2.1, hLd] at hown5
            have HLD := Lib.hid hLd
            have hnew := cell_one_new w5 (.int .i64 x) 3
            have HSS : Hid (W3.heap.size ≤ w5.heap.size) := Lib.hid HJ.out.2.2.grow.size
            clear hLd hjj
            go_wp2_with (at_builtin; refine wpList_append_own_at _ rfl _ _ 28 rfl W3.heap.size 3 i0 (.int .i64 0) 1 8 Tryd.underlying28 hi0 hz0 hz1 hz2 rfl (by decide) _ t Ld rfl (hown5.alloc _) ⟨w5.heap.size, 0, none⟩ 1 1 [.int .i64 x] rfl rfl hnew (fun u hu => by simp at hu; subst hu; rfl) (by have := dist_len zs j; have := HJ.out.2.1; unfold maxLen; omega) (by have := dist_len zs j; have := HJ.out.2.1; omega) (by have := HSS.out; simp; omega) ?_)
            intro v' w7 hown7 hgrow7 _ hat7
            obtain ⟨rgA, rcA, rfl⟩ := own_shape hown7
            have hga := World.grownBy_alloc w5 (.cells #[.int .i64 x] 3) none
            have hltw : ∀ g, (Value.slice dv t dc).ownBlock = some g → W3.heap.size ≤ g := fun g e => (hown5.lt g e).1
            have hM7 := (HM5.out.grown hga).kept hgrow7 (fun e => by have := hltw bm e.symm; have := HJ.out.2.2.lt; omega)
            obtain ⟨c2, hlk2, _⟩ := hM7.look (mt := 64) (int_keyed Tryd.underlying3) Tryd.underlying64 HX.out.2.2.1
            rw [HX.out.2.2.2] at hlk2
            have H7 : Hid ((distGo zs (j + 1)).length = t + 1 ∧ DiS W3 bm zs w7 (j + 1) rgA rcA) := Lib.hid ⟨by rw [HDY.out, List.length_append, HJ.out.2.1]; rfl, ⟨by rw [HDY.out, List.length_append, HJ.out.2.1, intCells, List.map_append, ← intCells, HLD.out]; exact hown7, grown_own (World.grownBy.trans HJ.out.2.2.grow hga) hgrow7 hltw, ⟨_, hM7⟩, HJ.out.2.2.lt⟩⟩
            clear hown7 hgrow7 hat7 hga hltw hM7 hown5 hnew
            cases o1 with
            | false =>
              go_wp2_with fail
              go_roundg (q - (j + 1))
              case measure => rw [HJ.out.1]; omega
              case rel => exact ⟨j + 1, t + 1, _, _, rfl, rfl, by rw [HTS.out]; rfl, rfl, by omega, H7.out.1, H7.out.2⟩
            | true =>
              go_wp2_with fail
              go_roundg (q - (j + 1))
              case measure => rw [HJ.out.1]; omega
              case rel => exact ⟨j + 1, t + 1, _, _, rfl, rfl, by rw [HTS.out]; rfl, rfl, by omega, H7.out.1, H7.out.2⟩
          · have hbq : ((j1 : Int) == (j : Int)) = false := by simp; omega
            have HDN : Hid (distGo zs (j + 1) = distGo zs j) := Lib.hid (dist_no HX.out.1 (by rw [HX.out.2.1]; intro e; exact hjj (Option.some.inj e)))
            obtain ⟨c2, hlk2, _⟩ := HM5.out.look (mt := 64) (int_keyed Tryd.underlying3) Tryd.underlying64 HX.out.2.2.1
            rw [HX.out.2.2.2] at hlk2
            have H7 : Hid ((distGo zs (j + 1)).length = t ∧ DiS W3 bm zs w5 (j + 1) dv dc) := Lib.hid ⟨by rw [HDN.out]; exact HJ.out.2.1, ⟨by rw [HDN.out]; exact HJ.out.2.2.own, HJ.out.2.2.grow, HJ.out.2.2.mp, HJ.out.2.2.lt⟩⟩
            clear hjj
            cases o1 with
            | false =>
              go_wp2_with fail
              go_roundg (q - (j + 1))
              case measure => rw [HJ.out.1]; omega
              case rel => exact ⟨j + 1, t, _, _, rfl, rfl, by rw [HTS.out]; rfl, rfl, by omega, H7.out.1, H7.out.2⟩
            | true =>
              go_wp2_with fail
              go_roundg (q - (j + 1))
              case measure => rw [HJ.out.1]; omega
              case rel => exact ⟨j + 1, t, _, _, rfl, rfl, by rw [HTS.out]; rfl, rfl, by omega, H7.out.1, H7.out.2⟩
        · have hje : j = q := by omega
          subst hje
          have hjB : decide (j < j) = false := by simp
          have HTP : Hid (tautGo zs j = tautP zs ∧ distGo zs j = distP zs) := Lib.hid (by unfold tautP distP; rw [HQL.out]; exact ⟨rfl, rfl⟩)
          rw [HTP.out.1]
          obtain ⟨ot, hot⟩ : ∃ o, tautP zs = o := ⟨_, rfl⟩
          rw [hot]
          have HOT := Lib.hid hot
          clear hot
          have hg35 := World.grownBy.trans HI.out.2.2.2.2 (World.grownBy.trans H3.out.2.2 HJ.out.2.2.grow)
          have HG5 := Lib.hid (And.intro hg35 (World.grownBy.trans H3.out.2.2 HJ.out.2.2.grow))
          clear hg35
          cases ot with
          | true =>
            have HDR := Lib.hid (drop_no HZ.out.1 HOT.out)
            have HO5 := Lib.hid (HI.out.2.2.1.quiet HG5.out.2 (fun x e => by cases e))
            go_wp2_with fail
            go_roundg (n - (k + 1))
            case measure => rw [HI.out.1]; omega
            case rel => exact ⟨k + 1, p, av, cv, D, rfl, rfl, rfl, by omega, HI.out.2.1, HO5.out, by rw [HDR.out]; exact HI.out.2.2.2.1, HG5.out.1⟩
          | false =>
            have HDR := Lib.hid (drop_yes HZ.out.1 HOT.out)
            have hO5 := HI.out.2.2.1.quiet HG5.out.2 (fun x e => by cases e)
            obtain ⟨a9, c9, e9, hs9⟩ := ints_span HJ.out.2.2.own
            rw [HJ.out.2.1] at e9
            cases e9
            have hga := World.grownBy_alloc w5 (.cells #[.slice dv t dc] 28) none
            have hnew := cell_one_new w5 (.slice dv t dc) 28
            obtain ⟨WA, hWA⟩ : ∃ z, w5.alloc (.cells #[.slice dv t dc] 28) = z := ⟨_, rfl⟩
            rw [hWA] at hga hnew
            have hOA := hO5.quiet hga (fun x e => by cases e)
            have hown5 := hOA.own
            obtain ⟨Dc0, hDc⟩ : ∃ z, D.flatMap clC = z := ⟨_, rfl⟩
            rw [HI.out.2.1, hDc] at hown5
            have HPD := Lib.hid hDc
            have HSP := Lib.hid (hs9.grown hga)
            have HOA := Lib.hid hOA
            have HGA := Lib.hid hga
            have hp1 : p ≤ 1000 := by
              have h1 := congrArg List.length HI.out.2.2.2.1
              have h2 := drop_len l k
              rw [List.length_map, HI.out.2.1] at h1
              omega
            have HSB : Hid (W2.heap.size ≤ WA.heap.size ∧ W2.heap.size ≤ W3.heap.size ∧ wo.heap.size ≤ W3.heap.size) := Lib.hid (by have h1 := HI.out.2.2.2.2.size; have h2 := H3.out.2.2.size; have h3 := HJ.out.2.2.grow.size; have h4 := hga.size; omega)
            obtain ⟨i0, hi0, hz0, hz1, hz2⟩ := info_parts info28
            clear hs9 hOA hO5 hga hDc
            go_wp2_with (at_builtin; refine wpList_append_own_at _ rfl _ _ 33 rfl W2.heap.size 28 i0 (.slice none 0 0) 1 24 Tryd.underlying33 hi0 hz0 hz1 hz2 rfl (by decide) _ p Dc0 rfl hown5 ⟨w5.heap.size, 0, none⟩ 1 1 [.slice dv t dc] rfl rfl hnew (fun u hu => by simp at hu; subst hu; rfl) (by unfold maxLen; omega) (by omega) HSB.out.1 ?_)
            intro v' w7 hown7 hgrow7 _ hat7
            obtain ⟨rgA, rcA, rfl⟩ := own_shape hown7
            have hvo : ∀ x, (Value.slice av p cv).ownBlock = some x → W2.heap.size ≤ x ∧ x < wo.heap.size := fun x e => HI.out.2.2.1.own.lt x e
            have H7 : Hid (OutC w7 W2.heap.size (.slice rgA (p + 1) rcA) (D ++ [((distP zs, dv, dc) : Dc)]) ∧ W2.grownBy w7 none) := Lib.hid ⟨Out.pushL HOA.out (fun d hd => by
                simp only [List.mem_cons, List.not_mem_nil, or_false] at hd
                subst hd
                exact ⟨_, _, HSP.out.map (fun W hW => by rw [HTP.out.2] at hW; exact hW.weak), HSB.out.2.1, fun x e => .inl (by have := (hvo x e).2; have := HSB.out.2.2; omega)⟩) (by
                rw [HI.out.2.1, HPD.out]
                have : [((distP zs, dv, dc) : Dc)].flatMap clC = [.slice dv t dc] := by
                  show [Value.slice dv (distP zs).length dc] = _
                  rw [← HTP.out.2, HJ.out.2.1]
                rw [this]; exact hown7) hgrow7 (by
                rcases hat7 with e | e
                · exact .inl e
                · exact .inr (fun x e2 => by rw [e] at e2; injection e2 with e2; omega)), grown_own (World.grownBy.trans HG5.out.1 HGA.out) hgrow7 (fun x e => (hvo x e).1)⟩
            clear hown7 hgrow7 hat7 hvo hown5 hnew hWA
            go_wp2_with fail
            go_roundg (n - (k + 1))
            case measure => rw [HI.out.1]; omega
            case rel => exact ⟨k + 1, p + 1, rgA, rcA, _, rfl, rfl, rfl, by omega, by rw [List.length_append, HI.out.2.1]; rfl, H7.out.1, by rw [HDR.out, List.map_append, HI.out.2.2.2.1]; rfl, H7.out.2⟩
    · have hie : k = n := by omega
      subst hie
      have hkB : decide (k < k) = false := by simp
      obtain ⟨cl, hcl⟩ : ∃ z, dropP l = z := ⟨_, rfl⟩
      have HSI : Hid (simpP l = keepP cl) := Lib.hid (by unfold simpP; rw [hcl])
      have HDM : Hid (D.map (fun x => x.1) = cl) := Lib.hid (by rw [HI.out.2.2.2.1, ← hcl]; unfold dropP; rw [HN.out.1])
      have HCP : Hid (cl.length = p) := Lib.hid (by rw [← HDM.out, List.length_map]; exact HI.out.2.1)
      have HCE : Hid (∀ z ∈ cl, z.length ≤ 100000 ∧ ∀ x ∈ z, Nine x) := Lib.hid (fun z hz => by
        rw [← hcl, mem_dropP] at hz
        obtain ⟨y, hy, _, rfl⟩ := hz
        refine ⟨?_, fun x hx => HN.out.2.2.2.1 y hy x (mem_distP.1 hx)⟩
        have h1 := dist_len y y.length
        have h2 := HN.out.2.2.1 y hy
        unfold distP
        omega)
      have hp1 : p ≤ 1000 := by
        have h1 := drop_len l l.length
        rw [← HCP.out, ← hcl]
        unfold dropP
        rw [HN.out.1] at h1
        rw [HN.out.1]
        omega
      clear hcl
      obtain ⟨a8, c8, e8, _, hspan⟩ := HI.out.2.2.1.span (fun _ => rfl)
      rw [HI.out.2.1] at e8
      cases e8
      obtain ⟨a9, c9, e9, hs9⟩ := OutC.cls HI.out.2.2.1
      rw [HDM.out, HCP.out] at e9
      cases e9
      have hcw := hs9.here
      rw [HDM.out] at hcw
      have HTB := Lib.hid (HN.out.2.2.2.2.grown (World.grownBy.trans HG.out HI.out.2.2.2.2))
      have HF := Lib.hid (firstsS_calls cl av cv wo hcw (by rw [HCP.out]; omega) (fun z hz => (HCE.out z hz).1) (fun z hz => (HCE.out z hz).2) HTB.out)
      rw [HCP.out] at HF
      have HSPN := Lib.hid hspan
      clear hspan hs9 hcw
      go_wp2_with fail
      refine HF.out.mono ?_
      rintro e W4 ⟨bm, mm, rfl, hM4, _, hb4, hg4⟩
      have H4 := Lib.hid (And.intro hM4 hg4)
      have HG4 := Lib.hid (World.grownBy.trans HI.out.2.2.2.2 hg4)
      have q0 := HG4.out.cell HQ.out.1 (by simp)
      have hg5 := World.grownBy_alloc W4 (.cells #[.int .i64 v, .slice none 0 0] 35) none
      have e5 := one_cells W4 (.int .i64 v) (.slice none 0 0) 35
      obtain ⟨W5, hW5⟩ : ∃ z, W4.alloc (.cells #[.int .i64 v, .slice none 0 0] 35) = z := ⟨_, rfl⟩
      rw [hW5] at hg5 e5
      obtain ⟨p14, hp14⟩ : ∃ z, W4.heap.size = z := ⟨_, rfl⟩
      have HK5 : Hid (KeS W4 p14 v D cl W5 0 0 none 0 []) := Lib.hid ⟨by rw [← hp14]; exact e5.2.1, by rw [← hp14]; exact e5.2.2.1, by rw [← hp14]; exact e5.2.2.2.2, World.ownsRow_nil _ _ _ _, rfl, (fun d hd => by cases hd), rfl, hg5, Nat.le_of_eq hp14⟩
      have HPB : Hid (W1.heap.size < W2.heap.size ∧ W2.heap.size ≤ wo.heap.size ∧ wo.heap.size ≤ W4.heap.size) := Lib.hid ⟨HSZ.out.2, HI.out.2.2.2.2.size, hg4.size⟩
      have q4 := HK5.out.f0
      have q5 := HK5.out.f1
      have q6 := HK5.out.ff
      clear hM4 hb4 hg4 hg5 e5
      go_wp2_with fail
      have HK6 : Hid (KeS W4 p14 v D cl (W5.setCell ⟨p14, 1, none⟩ (.slice none 0 0)) 0 0 none 0 []) := Lib.hid ⟨by rw [World.cell?_setCell_other _ _ _ _ (ne_at (by decide))]; exact q4, World.cell?_setCell_same _ _ _ q5, by rw [World.frozen?_setCell]; exact q6, World.ownsRow_nil _ _ _ _, rfl, (fun d hd => by cases hd), rfl, grown_own HK5.out.grow (grown_set W5 p14 1 _) (fun x e => by cases e; exact HK5.out.low), HK5.out.low⟩
      clear hW5 q0 q4 q5 q6
      have HP14 := Lib.hid hp14
      clear hp14
      go_loopg [68] p (fun gk s68 wr => ∃ (j t : Nat) (ov : Option Addr) (oc : Nat) (E : List Dc), s68 = .int .i64 (j : Int) ∧ gk = p - j ∧ j ≤ p ∧ t ≤ j ∧ KeS W4 p14 v D cl wr j t ov oc E)
      case atStart => exact ⟨0, 0, none, 0, [], rfl, rfl, Nat.zero_le _, Nat.le_refl _, HK6.out⟩
      case round =>
        obtain ⟨j, t, ov, oc, E, rfl, hgj, hj, htj, hS⟩ := hrel
        obtain ⟨w5, hw5⟩ : ∃ z, z = wr := ⟨_, rfl⟩
        rw [← hw5] at hS ⊢
        clear hw5
        have HJ := Lib.hid (And.intro hgj hS)
        clear hgj hS
        by_cases hjp : j < p
        · have hjB : decide (j < p) = true := by simpa using hjp
          have hjI : (j : Int) < (p : Int) := by omega
          obtain ⟨d, hd⟩ : ∃ d, D[j]? = some d := ⟨_, List.getElem?_eq_getElem (by rw [HI.out.2.1]; exact hjp)⟩
          have hg45 := World.grownBy.trans H4.out.2 HJ.out.2.grow
          obtain ⟨hcp, gg, hav, hcells⟩ := (HSPN.out.grown hg45).here j d hd
          have c0 := hcells 0 _ rfl
          rw [Nat.zero_add, Nat.mul_one, Nat.add_zero] at c0
          have hz : cl[j]? = some d.1 := by rw [← HDM.out, List.getElem?_map, hd]; rfl
          have hce := HCE.out d.1 (List.mem_of_getElem? hz)
          have HKEY := Lib.hid (keyS_key hce.1 hce.2)
          have HKC := Lib.hid (key_calls d.1 d.2.1 d.2.2 w5 hcp hce.1 hce.2 (HTB.out.grown hg45))
          obtain ⟨j1, hj1l, hj1⟩ := ix_of_mem (zs := cl.map keyP) (x := keyP d.1) (List.mem_map.2 ⟨d.1, List.mem_of_getElem? hz, rfl⟩)
          have HDD := Lib.hid (And.intro hd (And.intro hz hj1))
          obtain ⟨zs, da, dc⟩ := d
          simp only at c0 HKC HKEY HDD
          obtain ⟨zl, hzl⟩ : ∃ z, zs.length = z := ⟨_, rfl⟩
          rw [hzl] at c0 HKC
          have HZL := Lib.hid hzl
          obtain ⟨kx, hkx⟩ : ∃ z, keyP zs = z := ⟨_, rfl⟩
          rw [hkx] at HKEY HKC HDD
          have HKX := Lib.hid hkx
          obtain ⟨S, hS⟩ : ∃ S : ByteArray, (⟨kx.toArray⟩ : ByteArray) = S := ⟨_, rfl⟩
          rw [hS] at HKEY HKC
          have HAV := Lib.hid hav
          subst hav
          clear hd hg45 hcp hcells hz hce hj1 hzl hkx hS
          go_wp2_with fail
          refine HKC.out.mono ?_
          rintro e w6 ⟨rfl, hg6⟩
          have HG6 := Lib.hid hg6
          have hM6 := H4.out.1.grown (World.grownBy.trans HJ.out.2.grow hg6)
          have hlk := hM6.look1 (mt := 67) (string_keyed Tryd.underlying9) Tryd.underlying67 HKEY.out HDD.out.2.2
          clear hM6 hg6 c0
          by_cases hjj : j1 = j
          · have hbq : ((j1 : Int) == (j : Int)) = true := by rw [hjj]; simp
            have HKY : Hid (keepGo cl (j + 1) = keepGo cl j ++ [zs]) := Lib.hid (keep_yes HDD.out.2.1 (by rw [HKX.out, HDD.out.2.2, hjj]))
            have hb1 := HG6.out.cell HJ.out.2.f1 (by simp)
            have hga := World.grownBy_alloc w6 (.cells #[.slice da zl dc] 28) none
            have hnew := cell_one_new w6 (.slice da zl dc) 28
            obtain ⟨WA, hWA⟩ : ∃ z, w6.alloc (.cells #[.slice da zl dc] 28) = z := ⟨_, rfl⟩
            rw [hWA] at hga hnew
            have hown6 := own_grown HJ.out.2.own (World.grownBy.trans HG6.out hga)
            obtain ⟨Ec, hEc⟩ : ∃ z, E.flatMap clC = z := ⟨_, rfl⟩
            rw [hEc] at hown6
            have HEC := Lib.hid hEc
            have HGA := Lib.hid (And.intro (World.grownBy.trans HG6.out hga) (World.grownBy.trans HJ.out.2.grow (World.grownBy.trans HG6.out hga)))
            have HPS : Hid (p14 + 1 ≤ WA.heap.size ∧ p14 < w5.heap.size) := Lib.hid ⟨by have h1 := lies_lt HJ.out.2.f1; have h2 := HGA.out.1.size; simp only at h1; omega, lies_lt HJ.out.2.f1⟩
            obtain ⟨i0, hi0, hz0, hz1, hz2⟩ := info_parts info28
            clear hga hEc hjj
            go_wp2_with (at_builtin; refine wpList_append_own_at _ rfl _ _ 33 rfl (p14 + 1) 28 i0 (.slice none 0 0) 1 24 Tryd.underlying33 hi0 hz0 hz1 hz2 rfl (by decide) _ t Ec rfl hown6 ⟨w6.heap.size, 0, none⟩ 1 1 [.slice da zl dc] rfl rfl hnew (fun u hu => by simp at hu; subst hu; rfl) (by unfold maxLen; omega) (by omega) HPS.out.1 ?_)
            intro v' w7 hown7 hgrow7 _ hat7
            obtain ⟨rgA, rcA, rfl⟩ := own_shape hown7
            have hvo : ∀ x, (Value.slice ov t oc).ownBlock = some x → p14 + 1 ≤ x := fun x e => (hown6.lt x e).1
            have neB : some p14 ≠ (Value.slice ov t oc).ownBlock := fun e => by have := hvo _ e.symm; omega
            have b0 := hgrow7.cell (HGA.out.1.cell HJ.out.2.f0 (by simp)) neB
            have b1 := hgrow7.cell (HGA.out.1.cell HJ.out.2.f1 (by simp)) neB
            have bf : w7.frozen? ⟨p14, 1, none⟩ = false := (World.frozen?_of_block (a := ⟨p14, 1, none⟩) (hgrow7.block p14 (Nat.lt_of_lt_of_le HPS.out.2 HGA.out.1.size) neB)).trans ((grown_frozen HGA.out.1 HPS.out.2 1).trans HJ.out.2.ff)
            have H7 : Hid (KeS W4 p14 v D cl (w7.setCell ⟨p14, 1, none⟩ (.slice rgA (t + 1) rcA)) (j + 1) (t + 1) rgA rcA (E ++ [(zs, da, dc)])) := Lib.hid (by
              have hs := grown_set w7 p14 1 (.slice rgA (t + 1) rcA)
              refine ⟨by rw [World.cell?_setCell_other _ _ _ _ (ne_at (by decide))]; exact b0, World.cell?_setCell_same _ _ _ b1, by rw [World.frozen?_setCell]; exact bf, ?_, by rw [List.length_append, HJ.out.2.len]; rfl, fun d hd => ?_, by rw [HKY.out, List.map_append, HJ.out.2.map]; rfl, grown_own (grown_own HGA.out.2 hgrow7 (fun x e => by have := hvo x e; have := HJ.out.2.low; omega)) hs (fun x e => by cases e; exact HJ.out.2.low), HJ.out.2.low⟩
              · rw [List.flatMap_append, HEC.out]
                have : [((zs, da, dc) : Dc)].flatMap clC = [.slice da zl dc] := by
                  show [Value.slice da zs.length dc] = _
                  rw [HZL.out]
                rw [this]
                refine hown7.kept hs ?_
                cases hv : (Value.slice rgA (t + 1) rcA).ownBlock with
                | none => exact .inl rfl
                | some g => exact .inr (fun e => by have := (hown7.lt g hv).1; cases e; omega)
              · rw [List.mem_append, List.mem_singleton] at hd
                rcases hd with hd | rfl
                · exact HJ.out.2.els d hd
                · exact List.mem_of_getElem? HDD.out.1)
            clear hown7 hgrow7 hat7 hvo neB b0 hown6 hnew hWA hb1
            go_wp2_with fail
            go_roundg (p - (j + 1))
            case measure => rw [HJ.out.1]; omega
            case rel => exact ⟨j + 1, t + 1, rgA, rcA, _, rfl, rfl, by omega, by omega, H7.out⟩
          · have hbq : ((j1 : Int) == (j : Int)) = false := by simp; omega
            have HKN := Lib.hid (keep_no HDD.out.2.1 (by rw [HKX.out, HDD.out.2.2]; intro e; exact hjj (Option.some.inj e)))
            have H7 := Lib.hid (HJ.out.2.step HG6.out HKN.out)
            clear hjj
            go_wp2_with fail
            go_roundg (p - (j + 1))
            case measure => rw [HJ.out.1]; omega
            case rel => exact ⟨j + 1, t, ov, oc, E, rfl, rfl, by omega, by omega, H7.out⟩
        · have hje : j = p := by omega
          subst hje
          have hjB : decide (j < j) = false := by simp
          have hg25 := World.grownBy.trans HG4.out HJ.out.2.grow
          have b0 := HJ.out.2.f0
          have b1 := HJ.out.2.f1
          have g0 := hg25.cell HR2.out.2.1 (by simp)
          have g1 := hg25.cell HR2.out.2.2.1 (by simp)
          have gf0 := (grown_frozen hg25 HR2.out.1 0).trans HR2.out.2.2.2.1
          have gf1 := (grown_frozen hg25 HR2.out.1 1).trans HR2.out.2.2.2.2
          have HFF := Lib.hid (sets2 g0 g1 (.int .i64 v) (.slice ov t oc))
          have HKK : Hid (E.map (fun x => x.1) = keepP cl ∧ (keepP cl).length = t) := Lib.hid (by
            have h1 : keepGo cl j = keepP cl := by unfold keepP; rw [HCP.out]
            have h2 := HJ.out.2.map
            rw [h1] at h2
            exact ⟨h2, by rw [← h2, List.length_map]; exact HJ.out.2.len⟩)
          have HG25 := Lib.hid hg25
          have HP2 : Hid (w.heap.size ≤ W1.heap.size ∧ W1.heap.size < p14) := Lib.hid ⟨Nat.le_of_lt HSZ.out.1, by have := HPB.out; have := HP14.out; omega⟩
          clear hg25
          go_wp2_with fail
          have hgz : w5.grownBy ((w5.setCell ⟨W1.heap.size, 0, none⟩ (.int .i64 v)).setCell ⟨W1.heap.size, 1, none⟩ (.slice ov t oc)) (some W1.heap.size) := (grown_set _ _ _ _).trans (grown_set _ _ _ _)
          obtain ⟨WZ, hWZ⟩ : ∃ z, (w5.setCell ⟨W1.heap.size, 0, none⟩ (.int .i64 v)).setCell ⟨W1.heap.size, 1, none⟩ (.slice ov t oc) = z := ⟨_, rfl⟩
          rw [hWZ] at hgz HFF ⊢
          have hspz := (HSPN.out.grown (World.grownBy.trans H4.out.2 HJ.out.2.grow)).off hgz (fun x e => by cases e; exact .inl HPB.out.1)
          have hownz := HJ.out.2.own.kept hgz (by
            cases hv : (Value.slice ov t oc).ownBlock with
            | none => exact .inl rfl
            | some g => exact .inr (fun e => by have h1 := (HJ.out.2.own.lt g hv).1; have h2 := HP2.out.2; cases e; omega))
          obtain ⟨a', c', e', hcw⟩ := cls_of_own hownz HJ.out.2.len (fun d hd => by
            obtain ⟨i, hi, ei⟩ := List.getElem_of_mem (HJ.out.2.els d hd)
            exact (hspz.here i d (by rw [List.getElem?_eq_getElem hi, ei])).1)
          cases e'
          refine bodyPost_ret (res22 _ _ W1.heap.size v ov t oc rfl HFF.out.1 HFF.out.2) rfl ⟨ov, oc, by rw [HSI.out, HKK.out.2], by rw [HSI.out, ← HKK.out.1]; exact hcw, ?_⟩
          exact grown_own (World.grownBy.trans HG.out HG25.out) hgz (fun x e => by cases e; exact HP2.out.1)
end Go.Proofs.YthkjjiijjedipaaDoor

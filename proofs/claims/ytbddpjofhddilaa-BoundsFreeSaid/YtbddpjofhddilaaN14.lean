/- Common texts of the laws of stage 9, joined: VB. -/
import Derived.Test.YtbddpjofhddilaaN13
import Derived.Test.YtbddpjofhddilaaN12
import Derived.Deep.RegionHeld3
/- The bounds that raw data describe: the walk. -/
namespace Go.Proofs.Ytbddpjofhddilaa
open Go.RowKit

theorem madeTo_yes {rw' : List Nat} {L : List Int} {t k : Nat} {z : Int} (h : L[k]? = some z) (ht : t < pick rw' k) : madeTo rw' L t (k + 1) = madeTo rw' L t k ++ [z] := by
  rw [madeTo, if_pos ht, h]; rfl
theorem madeTo_no {rw' : List Nat} {L : List Int} {t k : Nat} (ht : ¬ t < pick rw' k) : madeTo rw' L t (k + 1) = madeTo rw' L t k := by
  rw [madeTo, if_neg ht, List.append_nil]
theorem fullL_len {zs : List Nat} (hz : ∀ z ∈ zs, z ≤ 5) {ss : List Int} (hs : ss.length ≤ 3) : (fullL zs ss).length ≤ 125 := by
  unfold fullL
  split
  · rw [List.length_map]
    have h3 := digs_length hz (ss.map Int.toNat) 0
    have h4 : 5 ^ (ss.map Int.toNat).length ≤ 5 ^ 3 := Nat.pow_le_pow_right (by omega) (by rw [List.length_map]; exact hs)
    omega
  · simp
theorem apart_symm {u v : Value} (h : ∀ x, u.ownBlock = some x → v.ownBlock ≠ some x) : ∀ x, v.ownBlock = some x → u.ownBlock ≠ some x := fun x hv hu => h x hu hv

set_option maxRecDepth 100000 in
set_option maxHeartbeats 32000000 in
theorem made_calls (s1 fa s3 s4 : Option Addr) (ns c1 fc n3 c3 n4 c4 : Nat) (F : List Fd) (zs : List Nat) (za : Option Addr) (zc : Nat) (st : Int) (raw : List (List Nat)) (ra : Option Addr) (rc : Nat) (w : World) (hF : Fields w fa fc F) (hzn : Nums w za zc zs) (hz : ∀ z ∈ zs, z ≤ 5) (hzl : zs.length ≤ 4) (hfl : F.length ≤ 100) (hff : ∀ f ∈ F, f.2.1 ≠ [] ∧ f.2.1.length ≤ 3) (hfit : ∀ f ∈ F, fits zs.length f.2.1 = true)
    (hr : Raws w ra rc raw) (hro : RawOk raw) :
    Calls Try.prog 56 #[.agg #[.slice s1 ns c1, .slice fa F.length fc, .slice s3 n3 c3, .slice s4 n4 c4], .agg #[.slice za zs.length zc, .int .i64 st], .slice ra raw.length rc] w
      fun e w' => ∃ a c, e = .returned (.slice a F.length c) ∧ Span w.heap.size w'.heap.size w' (fun W => Bds W a c (madeL raw (F.map (defX zs)))) ∧ w.grownBy w' none := by
  have HD0 := Lib.hid (fun (U : World) (g : w.grownBy U none) => rDefault_calls s1 fa s3 s4 ns c1 fc n3 c3 n4 c4 F zs za zc st U (hF.grown g) (hzn.grown g) hz hzl hfl hff hfit)
  obtain ⟨j0, hj0, hy0, hy1, hy2⟩ := info_parts info3
  have hz0 := hy0
  have hz1 := hy1
  have hz2 := hy2
  have hi0 := hj0
  have HDB : Hid (∀ x ∈ F.map (defX zs), x.2.1 = x.1.1 ∧ x.2.2.length ≤ 125) := Lib.hid (fun x hx => by
    obtain ⟨f, hf, rfl⟩ := List.mem_map.1 hx
    exact ⟨rfl, fullL_len hz (hff f hf).2⟩)
  obtain ⟨n, hn⟩ : ∃ n, F.length = n := ⟨_, rfl⟩
  obtain ⟨N, hN⟩ : ∃ n, zs.length = n := ⟨_, rfl⟩
  obtain ⟨m, hm⟩ : ∃ n, raw.length = n := ⟨_, rfl⟩
  have HDL : Hid ((F.map (defX zs)).length = n) := Lib.hid (by rw [List.length_map]; exact hn)
  have hml : (m : Int) ≤ 9223372036854775807 := by rw [← hm]; exact hro.1
  have HH := Lib.hid (And.intro hr (And.intro hro hm))
  rw [hn, hN] at HD0
  rw [hn] at hfl
  rw [hn, hN, hm]
  clear hF hzn hz hzl hff hfit hr hro hn hN hm
  obtain ⟨DB, hDB⟩ : ∃ DB, F.map (defX zs) = DB := ⟨_, rfl⟩
  rw [hDB] at HD0 HDB HDL ⊢
  clear hDB
  have hg := (World.grownBy_alloc w (.cells #[.slice s1 ns c1, .slice fa n fc, .slice s3 n3 c3, .slice s4 n4 c4] 27) none).trans (World.grownBy_alloc _ (.cells #[.slice za N zc, .int .i64 st] 30) none)
  have HG := Lib.hid hg
  have HD1 := Lib.hid (HD0.out _ hg)
  clear hg HD0
  go_enter Try.func56, Try.ntmps56
  go_wp2_with fail
  refine HD1.out.mono ?_
  clear HD1
  rintro e w1 ⟨ga, gc, rfl, v, D, rfl, hO, hD, g1⟩
  have HW1 := Lib.hid (HG.out.trans g1)
  have HO1 := Lib.hid (And.intro (Out.less hO HG.out.size) hD)
  clear hO hD g1 HG
  go_wp2_with fail
  go_loopg [8, 9, 10, 11, 12, 13] n (fun g s8 s9 s10 s11 s12 s13 wr => ∃ (i : Nat) (D : List Db), s8 = .int .i64 (i : Int) ∧ g = n - i ∧ i ≤ n ∧ OutB wr w.heap.size (.slice ga n gc) D ∧ D.map (·.1) = madeUp raw DB i ∧ w.grownBy wr none)
  case atStart => exact ⟨0, D, rfl, rfl, Nat.zero_le _, HO1.out.1, by rw [madeUp_zero]; exact HO1.out.2, HW1.out⟩
  case round =>
    obtain ⟨i, D, rfl, hgi, hi, hO, hD, hgr⟩ := hrel
    have hDl : D.length = n := by rw [← List.length_map (f := (·.1)), hD, madeUp_len]; exact HDL.out
    by_cases hin : i < n
    · have hinB : decide (i < n) = true := by simpa using hin
      have hinI : (i : Int) < (n : Int) := by omega
      obtain ⟨x, hx⟩ : ∃ x, DB[i]? = some x := ⟨_, List.getElem?_eq_getElem (by rw [HDL.out]; exact hin)⟩
      have hxi := HDB.out x (List.mem_of_getElem? hx)
      obtain ⟨g, rfl, hgB⟩ : ∃ g, ga = some ⟨g, 0, none⟩ ∧ w.heap.size ≤ g := by
        rcases hO.own.2 with ⟨h', _⟩ | ⟨g', cap', cur, h', hb, _⟩
        · injection h' with _ h2 _; omega
        · injection h' with h1 _ _; exact ⟨g', h1, hb⟩
      have hglt : g < wr.heap.size := (hO.own.lt g rfl).2
      obtain ⟨ba, bc, hbv, hbs⟩ := OutB.bds hO
      injection hbv with hb1 hb2 hb3
      subst hb1 hb3
      clear hb2
      obtain ⟨b', o', hab, hbx⟩ := hbs.here.2 i x (by rw [hD, madeUp_at]; exact hx)
      cases hab
      obtain ⟨ya1, yk1, ya2, yk2, y0, y1, y2, y3, yi1, yi2⟩ := hbx.parts
      rw [Nat.zero_add] at y0 y1 y2 y3
      obtain ⟨K, hK⟩ : ∃ k, x.2.1 = k := ⟨_, rfl⟩
      obtain ⟨L, hL⟩ : ∃ k, x.2.2 = k := ⟨_, rfl⟩
      obtain ⟨q, hq⟩ : ∃ k, L.length = k := ⟨_, rfl⟩
      obtain ⟨l1, hl1⟩ : ∃ k, x.1.2.length = k := ⟨_, rfl⟩
      rw [hK] at y2
      rw [hL, hq] at y3
      rw [← hxi.1, hK] at y0
      rw [hl1] at y1
      have hq125 : q ≤ 125 := by have := hxi.2; rw [hL, hq] at this; exact this
      rw [hL] at yi2
      have HX := Lib.hid (And.intro hx (And.intro hK (And.intro hL hq)))
      have HOO := Lib.hid (And.intro hO (And.intro hD (And.intro hgr (And.intro hDl hgi))))
      have HY := Lib.hid (And.intro y0 (And.intro y1 (And.intro y2 (And.intro y3 yi2))))
      have HGB := Lib.hid (And.intro hgB hglt)
      clear hx hxi hO hD hgr hDl hgi hbs hbx yi1 yi2 hK hL hq hl1 hgB hglt
      obtain ⟨wo, hwo⟩ : ∃ wo, wo = wr := ⟨_, rfl⟩
      subst hwo
      have hu := World.grownBy_alloc wo (.cells #[.int .i64 K, .slice ya2 q yk2] 53) none
      have hu0 : (wo.alloc (.cells #[.int .i64 K, .slice ya2 q yk2] 53)).cell? ⟨wo.heap.size, 0, none⟩ = some (.int .i64 K) := by go_simp
      have hu1 : (wo.alloc (.cells #[.int .i64 K, .slice ya2 q yk2] 53)).cell? ⟨wo.heap.size, 1, none⟩ = some (.slice ya2 q yk2) := by go_simp
      have huz : (wo.alloc (.cells #[.int .i64 K, .slice ya2 q yk2] 53)).heap.size = wo.heap.size + 1 := by simp
      obtain ⟨U, hU⟩ : ∃ U, wo.alloc (.cells #[.int .i64 K, .slice ya2 q yk2] 53) = U := ⟨_, rfl⟩
      rw [hU] at hu hu0 hu1 huz
      have hbl := RowBox.new U K (Bs := U.heap.size + 1) rfl
      have hbh := RowBox.new (U.alloc (.cells #[.int .i64 K, .slice none 0 0] 53)) K (Bs := U.heap.size + 2) (by simp)
      have hbl2 := (hbl.grown (World.grownBy_alloc _ (.cells #[.int .i64 K, .slice none 0 0] 53) none)).more (Bs' := U.heap.size + 2) (by omega) (by simp)
      rw [World.size_alloc] at hbh
      have hu2 := (World.grownBy_alloc U (.cells #[.int .i64 K, .slice none 0 0] 53) none).trans (World.grownBy_alloc _ (.cells #[.int .i64 K, .slice none 0 0] 53) none)
      have HU := Lib.hid (And.intro hu (And.intro hu0 (And.intro hu1 huz)))
      have HB2 := Lib.hid (And.intro hbl2 (And.intro hbh hu2))
      have hu0a := (World.grownBy_alloc U (.cells #[.int .i64 K, .slice none 0 0] 53) none).cell hu0 (by simp)
      clear hbl hbl2 hbh hu2 hu huz
      go_wp2_with fail
      clear y0 y1 y2 y3 hu0 hu1 hu0a
      obtain ⟨W3, hW3⟩ : ∃ W3, (U.alloc (.cells #[.int .i64 K, .slice none 0 0] 53)).alloc (.cells #[.int .i64 K, .slice none 0 0] 53) = W3 := ⟨_, rfl⟩
      rw [hW3] at HB2 ⊢
      clear hW3
      obtain ⟨u, hub⟩ : ∃ u, U.heap.size = u := ⟨_, rfl⟩
      have huz := HU.out.2.2.2
      rw [hub] at HB2 huz
      rw [hub]
      have HUB := Lib.hid hub
      have HUZ := Lib.hid huz
      clear hub huz hU
      obtain ⟨rw', hrw⟩ : ∃ r, raw.getD i [] = r := ⟨_, rfl⟩
      have HRW := Lib.hid hrw; clear hrw
      go_loopg [12, 13] q (fun g s12 s13 wr => ∃ (k : Nat) (vl vh : Value), s12 = .int .i64 (k : Int) ∧ g = q - k ∧ k ≤ q ∧ RowBox (u + 2) wr u K vl (madeTo rw' L 1 k) ∧ RowBox (u + 2) wr (u + 1) K vh (madeTo rw' L 0 k) ∧ (∀ x, vl.ownBlock = some x → vh.ownBlock ≠ some x) ∧ U.grownBy wr none)
      case atStart => exact ⟨0, .slice none 0 0, .slice none 0 0, rfl, rfl, Nat.zero_le _, HB2.out.1, HB2.out.2.1, (fun x h => (by cases h)), HB2.out.2.2⟩
      case round =>
        obtain ⟨k, vl, vh, rfl, hgk, hk, hlb, hhb, hap, hgu⟩ := hrel
        obtain ⟨la, lc, rfl⟩ := own_shape hlb.own
        obtain ⟨ha, hc, rfl⟩ := own_shape hhb.own
        have h0len : (madeTo rw' L 0 k).length ≤ 125 := by have := madeTo_len (raw := rw') (full := L) (t := 0) (n := k); omega
        have h1len : (madeTo rw' L 1 k).length ≤ 125 := by have := madeTo_len (raw := rw') (full := L) (t := 1) (n := k); omega
        have HLB := Lib.hid hlb
        have HHB := Lib.hid hhb
        have HAP := Lib.hid (And.intro hap hgk)
        have HWR := Lib.hid hgu
        have HL0 : Hid ((madeTo rw' L 0 k).length ≤ 1000000) := Lib.hid (by omega)
        have HL1 : Hid ((madeTo rw' L 1 k).length ≤ 1000000) := Lib.hid (by omega)
        have HB0' : Hid (U.heap.size ≤ u + 1) := Lib.hid (by rw [HUB.out]; omega)
        have HB1' : Hid (U.heap.size ≤ u) := Lib.hid (by rw [HUB.out]; exact Nat.le_refl _)
        have huc := HU.out
        have b0 := hgu.cell huc.2.1 (by simp)
        have b1 := hgu.cell huc.2.2.1 (by simp)
        clear hlb hhb hap hgk
        by_cases hkq : k < q
        · have hkB : decide (k < q) = true := by simpa using hkq
          have hkI : (k : Int) < (q : Int) := by omega
          obtain ⟨z, hzk⟩ : ∃ z, L[k]? = some z := ⟨_, List.getElem?_eq_getElem (by rw [HX.out.2.2.2]; exact hkq)⟩
          obtain ⟨tb, to, rfl, hcell0⟩ := (HY.out.2.2.2.2.grown huc.1).at hzk
          have hcell := hgu.cell hcell0 (by simp)
          have HZ := Lib.hid hzk
          clear hzk hgu
          by_cases him : i < m
          · have himB : decide (i < m) = true := by simpa using him
            have himI : (i : Int) < (m : Int) := by omega
            obtain ⟨rr, hrr⟩ : ∃ r, raw[i]? = some r := ⟨_, List.getElem?_eq_getElem (by rw [HH.out.2.2]; exact him)⟩
            obtain ⟨rb, ro, rfl, ua, uc, hrc, hu8⟩ := (HH.out.1.grown (HOO.out.2.2.1.trans (huc.1.trans HWR.out))).2 i rr hrr
            have hro := HH.out.2.1.2 rr (List.mem_of_getElem? hrr)
            have HRE : Hid (rr = rw') := Lib.hid (by rw [← HRW.out, List.getD_eq_getElem?_getD, hrr]; rfl)
            obtain ⟨p, hp⟩ : ∃ p, rr.length = p := ⟨_, rfl⟩
            rw [hp] at hrc hro
            have hpl : (p : Int) ≤ 9223372036854775807 := hro.1
            have HRP := Lib.hid hp; clear hp hrr
            by_cases hkp : k < p
            · have hkpB : decide (k < p) = true := by simpa using hkp
              have hkpI : (k : Int) < (p : Int) := by omega
              obtain ⟨y, hy⟩ : ∃ y, rr[k]? = some y := ⟨_, List.getElem?_eq_getElem (by rw [HRP.out]; exact hkp)⟩
              obtain ⟨ub, uo, rfl, hyc⟩ := hu8.2 k y hy
              have hy256 : y < 256 := hro.2 y (List.mem_of_getElem? hy)
              have hy0 : (0 : Int) ≤ (y : Int) := by omega
              have hy1 : (y : Int) < 256 := by omega
              obtain ⟨P, hP⟩ : ∃ P, y % 4 = P := ⟨_, rfl⟩
              have HP : Hid (pick rw' k = P) := Lib.hid (by rw [pick, ← HRE.out, hy]; exact hP)
              have hP4 : P < 4 := by omega
              have hPI : (y : Int) % 4 = (P : Int) := by omega
              clear hy hP hu8 hro
              by_cases hP0 : P = 0
              · subst hP0
                have HM1 : Hid (madeTo rw' L 1 (k + 1) = madeTo rw' L 1 k) := Lib.hid (madeTo_no (by rw [HP.out]; omega))
                have HM0 : Hid (madeTo rw' L 0 (k + 1) = madeTo rw' L 0 k) := Lib.hid (madeTo_no (by rw [HP.out]; omega))
                go_wp2_with fail
                go_roundg (q - (k + 1))
                case measure => rw [HAP.out.2]; omega
                case rel => exact ⟨k + 1, _, _, rfl, rfl, by omega, by rw [HM1.out]; exact HLB.out, by rw [HM0.out]; exact HHB.out, HAP.out.1, HWR.out⟩
              have hPB0 : decide (0 < (P : Int)) = true := by simp; omega
              have hPB0' : decide (0 < P) = true := by simp; omega
              by_cases hP1 : P = 1
              · subst hP1
                have HM1 : Hid (madeTo rw' L 1 (k + 1) = madeTo rw' L 1 k) := Lib.hid (madeTo_no (by rw [HP.out]; omega))
                have HM0 : Hid (madeTo rw' L 0 (k + 1) = madeTo rw' L 0 k ++ [z]) := Lib.hid (madeTo_yes HZ.out (by rw [HP.out]; omega))
                go_wp2_with fail
                have HS := Lib.hid (fun (Wh : World) (hWh : U.grownBy Wh none) => (⟨hWh, hWh.cell huc.2.1 (by simp), hWh.cell huc.2.2.1 (by simp), hWh.cell hcell0 (by simp)⟩ : (fun Wh : World => U.grownBy Wh none ∧ Wh.cell? ⟨wo.heap.size, 0, none⟩ = some (.int .i64 K) ∧ Wh.cell? ⟨wo.heap.size, 1, none⟩ = some (.slice (some ⟨tb, to, none⟩) q yk2) ∧ Wh.cell? ⟨tb, to + k, none⟩ = some (.int .i64 z)) Wh))
                have hdr : U.grownBy wr.drew none := World.grownBy.trans HWR.out (⟨rfl, rfl, rfl, Nat.le_refl _, fun _ _ _ => rfl⟩ : wr.grownBy wr.drew none)
                refine wp_region_held_drew (S := (fun Wh : World => U.grownBy Wh none ∧ Wh.cell? ⟨wo.heap.size, 0, none⟩ = some (.int .i64 K) ∧ Wh.cell? ⟨wo.heap.size, 1, none⟩ = some (.slice (some ⟨tb, to, none⟩) q yk2) ∧ Wh.cell? ⟨tb, to + k, none⟩ = some (.int .i64 z))) (by kernel_rfl) (HS.out _ hdr) (fun hHeld => ?_)
                refine wpAnyH_take (i := 0) (oi := { dst := some 64, op := Op.fieldAddr 53 (Operand.tmp 11) 1, type := 0, pos := "law.go:54", after := #[], guard := none }) (v := ?_) rfl (by kernel_rfl) (by kernel_rfl) (by kernel_rfl) (fun _ _ _ h => h) (Or.inl ⟨by rfl, ?_⟩) (by assumption) ?_
                rotate_left 1
                · (intro W hSW; (try dsimp only at hSW); first | (go_simp; done) | (go_simp; with_reducible rfl))
                try simp only [Act.put, List.setIfInBounds_toArray, List.set_cons_zero, List.set_cons_succ]
                refine wpAnyH_take (i := 2) (oi := { dst := some 66, op := Op.fieldAddr 53 (Operand.tmp 9) 1, type := 0, pos := "law.go:54", after := #[], guard := none }) (v := ?_) rfl (by kernel_rfl) (by kernel_rfl) (by kernel_rfl) (fun _ _ _ h => h) (Or.inl ⟨by rfl, ?_⟩) (by assumption) ?_
                rotate_left 1
                · (intro W hSW; (try dsimp only at hSW); first | (go_simp; done) | (go_simp; with_reducible rfl))
                try simp only [Act.put, List.setIfInBounds_toArray, List.set_cons_zero, List.set_cons_succ]
                refine wpAnyH_take (i := 3) (oi := { dst := some 67, op := Op.load 28 (Operand.tmp 66), type := 28, pos := "law.go:54", after := #[{ on := 2, ground := Ground.data }], guard := none }) (v := ?_) rfl (by kernel_rfl) (by kernel_rfl) (by kernel_rfl) (fun _ _ _ h => h) (Or.inl ⟨by rfl, ?_⟩) (by assumption) ?_
                rotate_left 1
                · (intro W hSW; (try dsimp only at hSW); first | (go_simp; done) | (go_simp; with_reducible rfl))
                try simp only [Act.put, List.setIfInBounds_toArray, List.set_cons_zero, List.set_cons_succ]
                refine wpAnyH_take (i := 4) (oi := { dst := some 68, op := Op.move (Operand.tmp 12), type := 3, pos := "law.go:54", after := #[], guard := none }) (v := ?_) rfl (by kernel_rfl) (by kernel_rfl) (by kernel_rfl) (fun _ _ _ h => h) (Or.inl ⟨by rfl, ?_⟩) (by assumption) ?_
                rotate_left 1
                · (intro W hSW; (try dsimp only at hSW); first | (go_simp; done) | (go_simp; with_reducible rfl))
                try simp only [Act.put, List.setIfInBounds_toArray, List.set_cons_zero, List.set_cons_succ]
                refine wpAnyH_take (i := 5) (oi := { dst := some 69, op := Op.indexAddr 28 (Operand.tmp 67) (Operand.tmp 68), type := 0, pos := "law.go:54", after := #[{ on := 3, ground := Ground.data }, { on := 4, ground := Ground.data }], guard := none }) (v := ?_) rfl (by kernel_rfl) (by kernel_rfl) (by kernel_rfl) (fun _ _ _ h => h) (Or.inl ⟨by rfl, ?_⟩) (by assumption) ?_
                rotate_left 1
                · (intro W hSW; (try dsimp only at hSW); first | (go_simp; done) | (go_simp; with_reducible rfl))
                try simp only [Act.put, List.setIfInBounds_toArray, List.set_cons_zero, List.set_cons_succ]
                refine wpAnyH_take (i := 6) (oi := { dst := some 70, op := Op.load 3 (Operand.tmp 69), type := 3, pos := "law.go:54", after := #[{ on := 5, ground := Ground.data }], guard := none }) (v := ?_) rfl (by kernel_rfl) (by kernel_rfl) (by kernel_rfl) (fun _ _ _ h => h) (Or.inl ⟨by rfl, ?_⟩) (by assumption) ?_
                rotate_left 1
                · (intro W hSW; (try dsimp only at hSW); first | (go_simp; done) | (go_simp; with_reducible rfl))
                try simp only [Act.put, List.setIfInBounds_toArray, List.set_cons_zero, List.set_cons_succ]
                refine wpAnyH_ready (rs := [1, 7]) (by kernel_rfl) (by simp) ?_
                refine (AllReadyH.cons (o := { dst := some 65, op := Op.load 28 (Operand.tmp 64), type := 28, pos := "law.go:54", after := #[{ on := 0, ground := Ground.data }], guard := none }) rfl (fun K hK => ?_) (AllReadyH.cons (o := { dst := some 71, op := Op.buildSlice 28 1 #[(0, Operand.tmp 70)], type := 28, pos := "law.go:54", after := #[{ on := 6, ground := Ground.data }], guard := none }) rfl (fun K hK => ?_) AllReadyH.nil))
                · rw [if_pos (by rfl)]
                  have hrow := (HHB.out).row
                  go_simp
                  clear hrow
                  refine hK.out _ _ (HS.out _ hdr) (fun hHeld => ?_)
                  clear hK K
                  try simp only [Act.put, List.setIfInBounds_toArray, List.set_cons_zero, List.set_cons_succ]
                  refine wpAnyH_ready (rs := [7]) (by kernel_rfl) (by simp) ?_
                  refine (AllReadyH.cons (o := { dst := some 71, op := Op.buildSlice 28 1 #[(0, Operand.tmp 70)], type := 28, pos := "law.go:54", after := #[{ on := 6, ground := Ground.data }], guard := none }) rfl (fun K hK => ?_) AllReadyH.nil)
                  rw [if_pos (by rfl)]
                  go_simp
                  have haA : wr.grownBy ((World.alloc wr (.cells #[.int .i64 z] 3)).drew) none := World.grownBy.trans (World.grownBy_alloc wr _ none) (⟨rfl, rfl, rfl, Nat.le_refl _, fun _ _ _ => rfl⟩ : (World.alloc wr (.cells #[.int .i64 z] 3)).grownBy ((World.alloc wr (.cells #[.int .i64 z] 3)).drew) none)
                  have hnA : ∀ j u, [Value.int .i64 z][j]? = some u → ((World.alloc wr (.cells #[.int .i64 z] 3)).drew).cell? ((⟨wr.heap.size, 0, none⟩ : Addr).add j) = some u := cell_one_new wr _ _
                  obtain ⟨WA, hWA⟩ : ∃ WA, (World.alloc wr (.cells #[.int .i64 z] 3)).drew = WA := ⟨_, rfl⟩
                  rw [hWA] at haA hnA ⊢
                  clear hWA
                  have HBA := HHB.out.grown haA
                  have hgA := World.grownBy.trans HWR.out haA
                  refine hK.out _ _ (HS.out _ hgA) (fun hHeld => ?_)
                  clear hK K
                  try simp only [Act.put, List.setIfInBounds_toArray, List.set_cons_zero, List.set_cons_succ]
                  refine wpAnyH_ready (rs := [8]) (by kernel_rfl) (by simp) ?_
                  refine (AllReadyH.cons (o := { dst := some 72, op := Op.call { callee := Callee.builtin Builtin.append, args := #[Operand.tmp 65, Operand.tmp 71], argTypes := #[28, 28] }, type := 28, pos := "law.go:54", after := #[{ on := 1, ground := Ground.data }, { on := 7, ground := Ground.data }], guard := none }) rfl (fun K hK => ?_) AllReadyH.nil)
                  refine ready_append_g 28 3 (.tmp 65) (.tmp 71) rfl rfl Try.underlying28 hi0 hz0 hz1 hz2 rfl (by decide) (by omega) (u + 2) _ _ (intCells _) rfl HBA.own ⟨wr.heap.size, 0, none⟩ [.int .i64 z] rfl rfl hnA (fun u hu => by simp at hu; subst hu; rfl) HL0.out (HBA.low.2) (fun v' w6 hown' hgrow6 hat6 => ?_)
                  have hg6 := grown_own hgA hgrow6 (fun j hj => by have h1 := (HBA.own.lt j hj).1; have h2 := HBA.low.1; have h3 := HB0'.out; omega)
                  obtain ⟨hs1, hs2⟩ := HHB.out.at_ haA hgrow6
                  obtain ⟨rgA, rcA, rfl⟩ := own_shape hown'
                  refine hK.out _ _ (HS.out _ hg6) (fun hHeld => ?_)
                  clear hK K
                  try simp only [Act.put, List.setIfInBounds_toArray, List.set_cons_zero, List.set_cons_succ]
                  refine wpAnyH_take (i := 9) (oi := { dst := some 73, op := Op.fieldAddr 53 (Operand.tmp 11) 1, type := 0, pos := "law.go:54", after := #[{ on := 0, ground := Ground.phase }, { on := 1, ground := Ground.phase }, { on := 2, ground := Ground.phase }, { on := 3, ground := Ground.phase }, { on := 4, ground := Ground.phase }, { on := 5, ground := Ground.phase }, { on := 6, ground := Ground.phase }, { on := 7, ground := Ground.phase }, { on := 8, ground := Ground.phase }], guard := none }) (v := ?_) rfl (by kernel_rfl) (by kernel_rfl) (by kernel_rfl) (fun _ _ _ h => h) (Or.inl ⟨by rfl, ?_⟩) (by assumption) ?_
                  rotate_left 1
                  · (intro W hSW; (try dsimp only at hSW); first | (go_simp; done) | (go_simp; with_reducible rfl))
                  try simp only [Act.put, List.setIfInBounds_toArray, List.set_cons_zero, List.set_cons_succ]
                  refine wpAnyH_ready (rs := [10]) (by kernel_rfl) (by simp) ?_
                  refine (AllReadyH.cons (o := { dst := none, op := Op.store 28 (Operand.tmp 73) (Operand.tmp 72), type := 0, pos := "law.go:54", after := #[{ on := 9, ground := Ground.data }, { on := 8, ground := Ground.data }, { on := 8, ground := Ground.chain }, { on := 0, ground := Ground.phase }, { on := 1, ground := Ground.phase }, { on := 2, ground := Ground.phase }, { on := 3, ground := Ground.phase }, { on := 4, ground := Ground.phase }, { on := 5, ground := Ground.phase }, { on := 6, ground := Ground.phase }, { on := 7, ground := Ground.phase }, { on := 8, ground := Ground.phase }], guard := none }) rfl (fun K hK => ?_) AllReadyH.nil)
                  rw [if_pos (by rfl)]
                  go_simp
                  have hst := HHB.out.step haA hgrow6 hown'
                  have hgs := HHB.out.grows2 hst HWR.out HB0'.out haA hgrow6
                  refine hK.out _ _ (HS.out _ hgs) (fun hHeld => ?_)
                  clear hK K
                  try simp only [Act.put, List.setIfInBounds_toArray, List.set_cons_zero, List.set_cons_succ]
                  refine wpAnyH_done (by kernel_rfl) ?_ _
                  have hEND := hgs
                  clear hHeld
                  have hlo := HHB.out.other (v' := .slice rgA ((madeTo rw' L 0 k).length + 1) rcA) HLB.out (show u + 1 ≠ u by omega) (apart_symm HAP.out.1) haA hgrow6
                  have hap2 := HHB.out.apart HLB.out (apart_symm HAP.out.1) haA hat6
                  have HWH0 := hgs
                  obtain ⟨wh, hwh⟩ : ∃ wh, World.setCell w6 ⟨u + 1, 1, none⟩ (.slice rgA ((madeTo rw' L 0 k).length + 1) rcA) = wh := ⟨_, rfl⟩
                  rw [hwh] at hst hlo HWH0 ⊢
                  clear hwh
                  have HST := Lib.hid (And.intro hst (And.intro hlo (And.intro (apart_symm hap2) HWH0)))
                  clear hst hlo hap2 HWH0 hgs hs1 hs2 hgrow6 hown' hat6 haA hnA HBA hgA hg6 hEND HS
                  go_wp2_with fail
                  go_roundg (q - (k + 1))
                  case measure => rw [HAP.out.2]; omega
                  case rel => exact ⟨k + 1, _, _, rfl, rfl, by omega, by rw [HM1.out]; exact HST.out.2.1, by rw [HM0.out]; exact HST.out.1, HST.out.2.2.1, HST.out.2.2.2⟩
                · rw [if_pos (by rfl)]
                  go_simp
                  have haA : wr.grownBy ((World.alloc wr (.cells #[.int .i64 z] 3)).drew) none := World.grownBy.trans (World.grownBy_alloc wr _ none) (⟨rfl, rfl, rfl, Nat.le_refl _, fun _ _ _ => rfl⟩ : (World.alloc wr (.cells #[.int .i64 z] 3)).grownBy ((World.alloc wr (.cells #[.int .i64 z] 3)).drew) none)
                  have hnA : ∀ j u, [Value.int .i64 z][j]? = some u → ((World.alloc wr (.cells #[.int .i64 z] 3)).drew).cell? ((⟨wr.heap.size, 0, none⟩ : Addr).add j) = some u := cell_one_new wr _ _
                  obtain ⟨WA, hWA⟩ : ∃ WA, (World.alloc wr (.cells #[.int .i64 z] 3)).drew = WA := ⟨_, rfl⟩
                  rw [hWA] at haA hnA ⊢
                  clear hWA
                  have HBA := HHB.out.grown haA
                  have hgA := World.grownBy.trans HWR.out haA
                  refine hK.out _ _ (HS.out _ hgA) (fun hHeld => ?_)
                  clear hK K
                  try simp only [Act.put, List.setIfInBounds_toArray, List.set_cons_zero, List.set_cons_succ]
                  refine wpAnyH_ready (rs := [1]) (by kernel_rfl) (by simp) ?_
                  refine (AllReadyH.cons (o := { dst := some 65, op := Op.load 28 (Operand.tmp 64), type := 28, pos := "law.go:54", after := #[{ on := 0, ground := Ground.data }], guard := none }) rfl (fun K hK => ?_) AllReadyH.nil)
                  rw [if_pos (by rfl)]
                  have hrow := (HBA).row
                  go_simp
                  clear hrow
                  refine hK.out _ _ (HS.out _ hgA) (fun hHeld => ?_)
                  clear hK K
                  try simp only [Act.put, List.setIfInBounds_toArray, List.set_cons_zero, List.set_cons_succ]
                  refine wpAnyH_ready (rs := [8]) (by kernel_rfl) (by simp) ?_
                  refine (AllReadyH.cons (o := { dst := some 72, op := Op.call { callee := Callee.builtin Builtin.append, args := #[Operand.tmp 65, Operand.tmp 71], argTypes := #[28, 28] }, type := 28, pos := "law.go:54", after := #[{ on := 1, ground := Ground.data }, { on := 7, ground := Ground.data }], guard := none }) rfl (fun K hK => ?_) AllReadyH.nil)
                  refine ready_append_g 28 3 (.tmp 65) (.tmp 71) rfl rfl Try.underlying28 hi0 hz0 hz1 hz2 rfl (by decide) (by omega) (u + 2) _ _ (intCells _) rfl HBA.own ⟨wr.heap.size, 0, none⟩ [.int .i64 z] rfl rfl hnA (fun u hu => by simp at hu; subst hu; rfl) HL0.out (HBA.low.2) (fun v' w6 hown' hgrow6 hat6 => ?_)
                  have hg6 := grown_own hgA hgrow6 (fun j hj => by have h1 := (HBA.own.lt j hj).1; have h2 := HBA.low.1; have h3 := HB0'.out; omega)
                  obtain ⟨hs1, hs2⟩ := HHB.out.at_ haA hgrow6
                  obtain ⟨rgA, rcA, rfl⟩ := own_shape hown'
                  refine hK.out _ _ (HS.out _ hg6) (fun hHeld => ?_)
                  clear hK K
                  try simp only [Act.put, List.setIfInBounds_toArray, List.set_cons_zero, List.set_cons_succ]
                  refine wpAnyH_take (i := 9) (oi := { dst := some 73, op := Op.fieldAddr 53 (Operand.tmp 11) 1, type := 0, pos := "law.go:54", after := #[{ on := 0, ground := Ground.phase }, { on := 1, ground := Ground.phase }, { on := 2, ground := Ground.phase }, { on := 3, ground := Ground.phase }, { on := 4, ground := Ground.phase }, { on := 5, ground := Ground.phase }, { on := 6, ground := Ground.phase }, { on := 7, ground := Ground.phase }, { on := 8, ground := Ground.phase }], guard := none }) (v := ?_) rfl (by kernel_rfl) (by kernel_rfl) (by kernel_rfl) (fun _ _ _ h => h) (Or.inl ⟨by rfl, ?_⟩) (by assumption) ?_
                  rotate_left 1
                  · (intro W hSW; (try dsimp only at hSW); first | (go_simp; done) | (go_simp; with_reducible rfl))
                  try simp only [Act.put, List.setIfInBounds_toArray, List.set_cons_zero, List.set_cons_succ]
                  refine wpAnyH_ready (rs := [10]) (by kernel_rfl) (by simp) ?_
                  refine (AllReadyH.cons (o := { dst := none, op := Op.store 28 (Operand.tmp 73) (Operand.tmp 72), type := 0, pos := "law.go:54", after := #[{ on := 9, ground := Ground.data }, { on := 8, ground := Ground.data }, { on := 8, ground := Ground.chain }, { on := 0, ground := Ground.phase }, { on := 1, ground := Ground.phase }, { on := 2, ground := Ground.phase }, { on := 3, ground := Ground.phase }, { on := 4, ground := Ground.phase }, { on := 5, ground := Ground.phase }, { on := 6, ground := Ground.phase }, { on := 7, ground := Ground.phase }, { on := 8, ground := Ground.phase }], guard := none }) rfl (fun K hK => ?_) AllReadyH.nil)
                  rw [if_pos (by rfl)]
                  go_simp
                  have hst := HHB.out.step haA hgrow6 hown'
                  have hgs := HHB.out.grows2 hst HWR.out HB0'.out haA hgrow6
                  refine hK.out _ _ (HS.out _ hgs) (fun hHeld => ?_)
                  clear hK K
                  try simp only [Act.put, List.setIfInBounds_toArray, List.set_cons_zero, List.set_cons_succ]
                  refine wpAnyH_done (by kernel_rfl) ?_ _
                  have hEND := hgs
                  clear hHeld
                  have hlo := HHB.out.other (v' := .slice rgA ((madeTo rw' L 0 k).length + 1) rcA) HLB.out (show u + 1 ≠ u by omega) (apart_symm HAP.out.1) haA hgrow6
                  have hap2 := HHB.out.apart HLB.out (apart_symm HAP.out.1) haA hat6
                  have HWH0 := hgs
                  obtain ⟨wh, hwh⟩ : ∃ wh, World.setCell w6 ⟨u + 1, 1, none⟩ (.slice rgA ((madeTo rw' L 0 k).length + 1) rcA) = wh := ⟨_, rfl⟩
                  rw [hwh] at hst hlo HWH0 ⊢
                  clear hwh
                  have HST := Lib.hid (And.intro hst (And.intro hlo (And.intro (apart_symm hap2) HWH0)))
                  clear hst hlo hap2 HWH0 hgs hs1 hs2 hgrow6 hown' hat6 haA hnA HBA hgA hg6 hEND HS
                  go_wp2_with fail
                  go_roundg (q - (k + 1))
                  case measure => rw [HAP.out.2]; omega
                  case rel => exact ⟨k + 1, _, _, rfl, rfl, by omega, by rw [HM1.out]; exact HST.out.2.1, by rw [HM0.out]; exact HST.out.1, HST.out.2.2.1, HST.out.2.2.2⟩
              have hPB1 : decide (1 < (P : Int)) = true := by simp; omega
              have hPB1' : decide (1 < P) = true := by simp; omega
              have hPP : 2 ≤ P := by omega
              have HM1 : Hid (madeTo rw' L 1 (k + 1) = madeTo rw' L 1 k ++ [z]) := Lib.hid (madeTo_yes HZ.out (by rw [HP.out]; omega))
              have HM0 : Hid (madeTo rw' L 0 (k + 1) = madeTo rw' L 0 k ++ [z]) := Lib.hid (madeTo_yes HZ.out (by rw [HP.out]; omega))
              go_wp2_with fail
              have HS := Lib.hid (fun (Wh : World) (hWh : U.grownBy Wh none) => (⟨hWh, hWh.cell huc.2.1 (by simp), hWh.cell huc.2.2.1 (by simp), hWh.cell hcell0 (by simp)⟩ : (fun Wh : World => U.grownBy Wh none ∧ Wh.cell? ⟨wo.heap.size, 0, none⟩ = some (.int .i64 K) ∧ Wh.cell? ⟨wo.heap.size, 1, none⟩ = some (.slice (some ⟨tb, to, none⟩) q yk2) ∧ Wh.cell? ⟨tb, to + k, none⟩ = some (.int .i64 z)) Wh))
              have hdr : U.grownBy wr.drew none := World.grownBy.trans HWR.out (⟨rfl, rfl, rfl, Nat.le_refl _, fun _ _ _ => rfl⟩ : wr.grownBy wr.drew none)
              refine wp_region_held_drew (S := (fun Wh : World => U.grownBy Wh none ∧ Wh.cell? ⟨wo.heap.size, 0, none⟩ = some (.int .i64 K) ∧ Wh.cell? ⟨wo.heap.size, 1, none⟩ = some (.slice (some ⟨tb, to, none⟩) q yk2) ∧ Wh.cell? ⟨tb, to + k, none⟩ = some (.int .i64 z))) (by kernel_rfl) (HS.out _ hdr) (fun hHeld => ?_)
              refine wpAnyH_take (i := 0) (oi := { dst := some 64, op := Op.fieldAddr 53 (Operand.tmp 11) 1, type := 0, pos := "law.go:54", after := #[], guard := none }) (v := ?_) rfl (by kernel_rfl) (by kernel_rfl) (by kernel_rfl) (fun _ _ _ h => h) (Or.inl ⟨by rfl, ?_⟩) (by assumption) ?_
              rotate_left 1
              · (intro W hSW; (try dsimp only at hSW); first | (go_simp; done) | (go_simp; with_reducible rfl))
              try simp only [Act.put, List.setIfInBounds_toArray, List.set_cons_zero, List.set_cons_succ]
              refine wpAnyH_take (i := 2) (oi := { dst := some 66, op := Op.fieldAddr 53 (Operand.tmp 9) 1, type := 0, pos := "law.go:54", after := #[], guard := none }) (v := ?_) rfl (by kernel_rfl) (by kernel_rfl) (by kernel_rfl) (fun _ _ _ h => h) (Or.inl ⟨by rfl, ?_⟩) (by assumption) ?_
              rotate_left 1
              · (intro W hSW; (try dsimp only at hSW); first | (go_simp; done) | (go_simp; with_reducible rfl))
              try simp only [Act.put, List.setIfInBounds_toArray, List.set_cons_zero, List.set_cons_succ]
              refine wpAnyH_take (i := 3) (oi := { dst := some 67, op := Op.load 28 (Operand.tmp 66), type := 28, pos := "law.go:54", after := #[{ on := 2, ground := Ground.data }], guard := none }) (v := ?_) rfl (by kernel_rfl) (by kernel_rfl) (by kernel_rfl) (fun _ _ _ h => h) (Or.inl ⟨by rfl, ?_⟩) (by assumption) ?_
              rotate_left 1
              · (intro W hSW; (try dsimp only at hSW); first | (go_simp; done) | (go_simp; with_reducible rfl))
              try simp only [Act.put, List.setIfInBounds_toArray, List.set_cons_zero, List.set_cons_succ]
              refine wpAnyH_take (i := 4) (oi := { dst := some 68, op := Op.move (Operand.tmp 12), type := 3, pos := "law.go:54", after := #[], guard := none }) (v := ?_) rfl (by kernel_rfl) (by kernel_rfl) (by kernel_rfl) (fun _ _ _ h => h) (Or.inl ⟨by rfl, ?_⟩) (by assumption) ?_
              rotate_left 1
              · (intro W hSW; (try dsimp only at hSW); first | (go_simp; done) | (go_simp; with_reducible rfl))
              try simp only [Act.put, List.setIfInBounds_toArray, List.set_cons_zero, List.set_cons_succ]
              refine wpAnyH_take (i := 5) (oi := { dst := some 69, op := Op.indexAddr 28 (Operand.tmp 67) (Operand.tmp 68), type := 0, pos := "law.go:54", after := #[{ on := 3, ground := Ground.data }, { on := 4, ground := Ground.data }], guard := none }) (v := ?_) rfl (by kernel_rfl) (by kernel_rfl) (by kernel_rfl) (fun _ _ _ h => h) (Or.inl ⟨by rfl, ?_⟩) (by assumption) ?_
              rotate_left 1
              · (intro W hSW; (try dsimp only at hSW); first | (go_simp; done) | (go_simp; with_reducible rfl))
              try simp only [Act.put, List.setIfInBounds_toArray, List.set_cons_zero, List.set_cons_succ]
              refine wpAnyH_take (i := 6) (oi := { dst := some 70, op := Op.load 3 (Operand.tmp 69), type := 3, pos := "law.go:54", after := #[{ on := 5, ground := Ground.data }], guard := none }) (v := ?_) rfl (by kernel_rfl) (by kernel_rfl) (by kernel_rfl) (fun _ _ _ h => h) (Or.inl ⟨by rfl, ?_⟩) (by assumption) ?_
              rotate_left 1
              · (intro W hSW; (try dsimp only at hSW); first | (go_simp; done) | (go_simp; with_reducible rfl))
              try simp only [Act.put, List.setIfInBounds_toArray, List.set_cons_zero, List.set_cons_succ]
              refine wpAnyH_ready (rs := [1, 7]) (by kernel_rfl) (by simp) ?_
              refine (AllReadyH.cons (o := { dst := some 65, op := Op.load 28 (Operand.tmp 64), type := 28, pos := "law.go:54", after := #[{ on := 0, ground := Ground.data }], guard := none }) rfl (fun K hK => ?_) (AllReadyH.cons (o := { dst := some 71, op := Op.buildSlice 28 1 #[(0, Operand.tmp 70)], type := 28, pos := "law.go:54", after := #[{ on := 6, ground := Ground.data }], guard := none }) rfl (fun K hK => ?_) AllReadyH.nil))
              · rw [if_pos (by rfl)]
                have hrow := (HHB.out).row
                go_simp
                clear hrow
                refine hK.out _ _ (HS.out _ hdr) (fun hHeld => ?_)
                clear hK K
                try simp only [Act.put, List.setIfInBounds_toArray, List.set_cons_zero, List.set_cons_succ]
                refine wpAnyH_ready (rs := [7]) (by kernel_rfl) (by simp) ?_
                refine (AllReadyH.cons (o := { dst := some 71, op := Op.buildSlice 28 1 #[(0, Operand.tmp 70)], type := 28, pos := "law.go:54", after := #[{ on := 6, ground := Ground.data }], guard := none }) rfl (fun K hK => ?_) AllReadyH.nil)
                rw [if_pos (by rfl)]
                go_simp
                have haA : wr.grownBy ((World.alloc wr (.cells #[.int .i64 z] 3)).drew) none := World.grownBy.trans (World.grownBy_alloc wr _ none) (⟨rfl, rfl, rfl, Nat.le_refl _, fun _ _ _ => rfl⟩ : (World.alloc wr (.cells #[.int .i64 z] 3)).grownBy ((World.alloc wr (.cells #[.int .i64 z] 3)).drew) none)
                have hnA : ∀ j u, [Value.int .i64 z][j]? = some u → ((World.alloc wr (.cells #[.int .i64 z] 3)).drew).cell? ((⟨wr.heap.size, 0, none⟩ : Addr).add j) = some u := cell_one_new wr _ _
                obtain ⟨WA, hWA⟩ : ∃ WA, (World.alloc wr (.cells #[.int .i64 z] 3)).drew = WA := ⟨_, rfl⟩
                rw [hWA] at haA hnA ⊢
                clear hWA
                have HBA := HHB.out.grown haA
                have hgA := World.grownBy.trans HWR.out haA
                refine hK.out _ _ (HS.out _ hgA) (fun hHeld => ?_)
                clear hK K
                try simp only [Act.put, List.setIfInBounds_toArray, List.set_cons_zero, List.set_cons_succ]
                refine wpAnyH_ready (rs := [8]) (by kernel_rfl) (by simp) ?_
                refine (AllReadyH.cons (o := { dst := some 72, op := Op.call { callee := Callee.builtin Builtin.append, args := #[Operand.tmp 65, Operand.tmp 71], argTypes := #[28, 28] }, type := 28, pos := "law.go:54", after := #[{ on := 1, ground := Ground.data }, { on := 7, ground := Ground.data }], guard := none }) rfl (fun K hK => ?_) AllReadyH.nil)
                refine ready_append_g 28 3 (.tmp 65) (.tmp 71) rfl rfl Try.underlying28 hi0 hz0 hz1 hz2 rfl (by decide) (by omega) (u + 2) _ _ (intCells _) rfl HBA.own ⟨wr.heap.size, 0, none⟩ [.int .i64 z] rfl rfl hnA (fun u hu => by simp at hu; subst hu; rfl) HL0.out (HBA.low.2) (fun v' w6 hown' hgrow6 hat6 => ?_)
                have hg6 := grown_own hgA hgrow6 (fun j hj => by have h1 := (HBA.own.lt j hj).1; have h2 := HBA.low.1; have h3 := HB0'.out; omega)
                obtain ⟨hs1, hs2⟩ := HHB.out.at_ haA hgrow6
                obtain ⟨rgA, rcA, rfl⟩ := own_shape hown'
                refine hK.out _ _ (HS.out _ hg6) (fun hHeld => ?_)
                clear hK K
                try simp only [Act.put, List.setIfInBounds_toArray, List.set_cons_zero, List.set_cons_succ]
                refine wpAnyH_take (i := 9) (oi := { dst := some 73, op := Op.fieldAddr 53 (Operand.tmp 11) 1, type := 0, pos := "law.go:54", after := #[{ on := 0, ground := Ground.phase }, { on := 1, ground := Ground.phase }, { on := 2, ground := Ground.phase }, { on := 3, ground := Ground.phase }, { on := 4, ground := Ground.phase }, { on := 5, ground := Ground.phase }, { on := 6, ground := Ground.phase }, { on := 7, ground := Ground.phase }, { on := 8, ground := Ground.phase }], guard := none }) (v := ?_) rfl (by kernel_rfl) (by kernel_rfl) (by kernel_rfl) (fun _ _ _ h => h) (Or.inl ⟨by rfl, ?_⟩) (by assumption) ?_
                rotate_left 1
                · (intro W hSW; (try dsimp only at hSW); first | (go_simp; done) | (go_simp; with_reducible rfl))
                try simp only [Act.put, List.setIfInBounds_toArray, List.set_cons_zero, List.set_cons_succ]
                refine wpAnyH_ready (rs := [10]) (by kernel_rfl) (by simp) ?_
                refine (AllReadyH.cons (o := { dst := none, op := Op.store 28 (Operand.tmp 73) (Operand.tmp 72), type := 0, pos := "law.go:54", after := #[{ on := 9, ground := Ground.data }, { on := 8, ground := Ground.data }, { on := 8, ground := Ground.chain }, { on := 0, ground := Ground.phase }, { on := 1, ground := Ground.phase }, { on := 2, ground := Ground.phase }, { on := 3, ground := Ground.phase }, { on := 4, ground := Ground.phase }, { on := 5, ground := Ground.phase }, { on := 6, ground := Ground.phase }, { on := 7, ground := Ground.phase }, { on := 8, ground := Ground.phase }], guard := none }) rfl (fun K hK => ?_) AllReadyH.nil)
                rw [if_pos (by rfl)]
                go_simp
                have hst := HHB.out.step haA hgrow6 hown'
                have hgs := HHB.out.grows2 hst HWR.out HB0'.out haA hgrow6
                refine hK.out _ _ (HS.out _ hgs) (fun hHeld => ?_)
                clear hK K
                try simp only [Act.put, List.setIfInBounds_toArray, List.set_cons_zero, List.set_cons_succ]
                refine wpAnyH_done (by kernel_rfl) ?_ _
                have hEND := hgs
                clear hHeld
                have hlo := HHB.out.other (v' := .slice rgA ((madeTo rw' L 0 k).length + 1) rcA) HLB.out (show u + 1 ≠ u by omega) (apart_symm HAP.out.1) haA hgrow6
                have hap2 := HHB.out.apart HLB.out (apart_symm HAP.out.1) haA hat6
                have HWH0 := hgs
                obtain ⟨wh, hwh⟩ : ∃ wh, World.setCell w6 ⟨u + 1, 1, none⟩ (.slice rgA ((madeTo rw' L 0 k).length + 1) rcA) = wh := ⟨_, rfl⟩
                rw [hwh] at hst hlo HWH0 ⊢
                clear hwh
                have HST := Lib.hid (And.intro hst (And.intro hlo (And.intro (apart_symm hap2) HWH0)))
                clear hst hlo hap2 HWH0 hgs hs1 hs2 hgrow6 hown' hat6 haA hnA HBA hgA hg6 hEND HS
                have HLB2 := Lib.hid HST.out.2.1
                go_wp2_with fail
                have HS := Lib.hid (fun (Wh : World) (hWh : U.grownBy Wh none) => (⟨hWh, hWh.cell huc.2.1 (by simp), hWh.cell huc.2.2.1 (by simp), hWh.cell hcell0 (by simp)⟩ : (fun Wh : World => U.grownBy Wh none ∧ Wh.cell? ⟨wo.heap.size, 0, none⟩ = some (.int .i64 K) ∧ Wh.cell? ⟨wo.heap.size, 1, none⟩ = some (.slice (some ⟨tb, to, none⟩) q yk2) ∧ Wh.cell? ⟨tb, to + k, none⟩ = some (.int .i64 z)) Wh))
                have hdr : U.grownBy wh.drew none := World.grownBy.trans HST.out.2.2.2 (⟨rfl, rfl, rfl, Nat.le_refl _, fun _ _ _ => rfl⟩ : wh.grownBy wh.drew none)
                refine wp_region_held_drew (S := (fun Wh : World => U.grownBy Wh none ∧ Wh.cell? ⟨wo.heap.size, 0, none⟩ = some (.int .i64 K) ∧ Wh.cell? ⟨wo.heap.size, 1, none⟩ = some (.slice (some ⟨tb, to, none⟩) q yk2) ∧ Wh.cell? ⟨tb, to + k, none⟩ = some (.int .i64 z))) (by kernel_rfl) (HS.out _ hdr) (fun hHeld => ?_)
                refine wpAnyH_take (i := 0) (oi := { dst := some 76, op := Op.fieldAddr 53 (Operand.tmp 10) 1, type := 0, pos := "law.go:57", after := #[], guard := none }) (v := ?_) rfl (by kernel_rfl) (by kernel_rfl) (by kernel_rfl) (fun _ _ _ h => h) (Or.inl ⟨by rfl, ?_⟩) (by assumption) ?_
                rotate_left 1
                · (intro W hSW; (try dsimp only at hSW); first | (go_simp; done) | (go_simp; with_reducible rfl))
                try simp only [Act.put, List.setIfInBounds_toArray, List.set_cons_zero, List.set_cons_succ]
                refine wpAnyH_take (i := 2) (oi := { dst := some 78, op := Op.fieldAddr 53 (Operand.tmp 9) 1, type := 0, pos := "law.go:57", after := #[], guard := none }) (v := ?_) rfl (by kernel_rfl) (by kernel_rfl) (by kernel_rfl) (fun _ _ _ h => h) (Or.inl ⟨by rfl, ?_⟩) (by assumption) ?_
                rotate_left 1
                · (intro W hSW; (try dsimp only at hSW); first | (go_simp; done) | (go_simp; with_reducible rfl))
                try simp only [Act.put, List.setIfInBounds_toArray, List.set_cons_zero, List.set_cons_succ]
                refine wpAnyH_take (i := 3) (oi := { dst := some 79, op := Op.load 28 (Operand.tmp 78), type := 28, pos := "law.go:57", after := #[{ on := 2, ground := Ground.data }], guard := none }) (v := ?_) rfl (by kernel_rfl) (by kernel_rfl) (by kernel_rfl) (fun _ _ _ h => h) (Or.inl ⟨by rfl, ?_⟩) (by assumption) ?_
                rotate_left 1
                · (intro W hSW; (try dsimp only at hSW); first | (go_simp; done) | (go_simp; with_reducible rfl))
                try simp only [Act.put, List.setIfInBounds_toArray, List.set_cons_zero, List.set_cons_succ]
                refine wpAnyH_take (i := 4) (oi := { dst := some 80, op := Op.move (Operand.tmp 12), type := 3, pos := "law.go:57", after := #[], guard := none }) (v := ?_) rfl (by kernel_rfl) (by kernel_rfl) (by kernel_rfl) (fun _ _ _ h => h) (Or.inl ⟨by rfl, ?_⟩) (by assumption) ?_
                rotate_left 1
                · (intro W hSW; (try dsimp only at hSW); first | (go_simp; done) | (go_simp; with_reducible rfl))
                try simp only [Act.put, List.setIfInBounds_toArray, List.set_cons_zero, List.set_cons_succ]
                refine wpAnyH_take (i := 5) (oi := { dst := some 81, op := Op.indexAddr 28 (Operand.tmp 79) (Operand.tmp 80), type := 0, pos := "law.go:57", after := #[{ on := 3, ground := Ground.data }, { on := 4, ground := Ground.data }], guard := none }) (v := ?_) rfl (by kernel_rfl) (by kernel_rfl) (by kernel_rfl) (fun _ _ _ h => h) (Or.inl ⟨by rfl, ?_⟩) (by assumption) ?_
                rotate_left 1
                · (intro W hSW; (try dsimp only at hSW); first | (go_simp; done) | (go_simp; with_reducible rfl))
                try simp only [Act.put, List.setIfInBounds_toArray, List.set_cons_zero, List.set_cons_succ]
                refine wpAnyH_take (i := 6) (oi := { dst := some 82, op := Op.load 3 (Operand.tmp 81), type := 3, pos := "law.go:57", after := #[{ on := 5, ground := Ground.data }], guard := none }) (v := ?_) rfl (by kernel_rfl) (by kernel_rfl) (by kernel_rfl) (fun _ _ _ h => h) (Or.inl ⟨by rfl, ?_⟩) (by assumption) ?_
                rotate_left 1
                · (intro W hSW; (try dsimp only at hSW); first | (go_simp; done) | (go_simp; with_reducible rfl))
                try simp only [Act.put, List.setIfInBounds_toArray, List.set_cons_zero, List.set_cons_succ]
                refine wpAnyH_ready (rs := [1, 7]) (by kernel_rfl) (by simp) ?_
                refine (AllReadyH.cons (o := { dst := some 77, op := Op.load 28 (Operand.tmp 76), type := 28, pos := "law.go:57", after := #[{ on := 0, ground := Ground.data }], guard := none }) rfl (fun K hK => ?_) (AllReadyH.cons (o := { dst := some 83, op := Op.buildSlice 28 1 #[(0, Operand.tmp 82)], type := 28, pos := "law.go:57", after := #[{ on := 6, ground := Ground.data }], guard := none }) rfl (fun K hK => ?_) AllReadyH.nil))
                · rw [if_pos (by rfl)]
                  have hrow := (HLB2.out).row
                  go_simp
                  clear hrow
                  refine hK.out _ _ (HS.out _ hdr) (fun hHeld => ?_)
                  clear hK K
                  try simp only [Act.put, List.setIfInBounds_toArray, List.set_cons_zero, List.set_cons_succ]
                  refine wpAnyH_ready (rs := [7]) (by kernel_rfl) (by simp) ?_
                  refine (AllReadyH.cons (o := { dst := some 83, op := Op.buildSlice 28 1 #[(0, Operand.tmp 82)], type := 28, pos := "law.go:57", after := #[{ on := 6, ground := Ground.data }], guard := none }) rfl (fun K hK => ?_) AllReadyH.nil)
                  rw [if_pos (by rfl)]
                  go_simp
                  have haA : wh.grownBy ((World.alloc wh (.cells #[.int .i64 z] 3)).drew) none := World.grownBy.trans (World.grownBy_alloc wh _ none) (⟨rfl, rfl, rfl, Nat.le_refl _, fun _ _ _ => rfl⟩ : (World.alloc wh (.cells #[.int .i64 z] 3)).grownBy ((World.alloc wh (.cells #[.int .i64 z] 3)).drew) none)
                  have hnA : ∀ j u, [Value.int .i64 z][j]? = some u → ((World.alloc wh (.cells #[.int .i64 z] 3)).drew).cell? ((⟨wh.heap.size, 0, none⟩ : Addr).add j) = some u := cell_one_new wh _ _
                  obtain ⟨WA, hWA⟩ : ∃ WA, (World.alloc wh (.cells #[.int .i64 z] 3)).drew = WA := ⟨_, rfl⟩
                  rw [hWA] at haA hnA ⊢
                  clear hWA
                  have HBA := HLB2.out.grown haA
                  have hgA := World.grownBy.trans HST.out.2.2.2 haA
                  refine hK.out _ _ (HS.out _ hgA) (fun hHeld => ?_)
                  clear hK K
                  try simp only [Act.put, List.setIfInBounds_toArray, List.set_cons_zero, List.set_cons_succ]
                  refine wpAnyH_ready (rs := [8]) (by kernel_rfl) (by simp) ?_
                  refine (AllReadyH.cons (o := { dst := some 84, op := Op.call { callee := Callee.builtin Builtin.append, args := #[Operand.tmp 77, Operand.tmp 83], argTypes := #[28, 28] }, type := 28, pos := "law.go:57", after := #[{ on := 1, ground := Ground.data }, { on := 7, ground := Ground.data }], guard := none }) rfl (fun K hK => ?_) AllReadyH.nil)
                  refine ready_append_g 28 3 (.tmp 77) (.tmp 83) rfl rfl Try.underlying28 hi0 hz0 hz1 hz2 rfl (by decide) (by omega) (u + 2) _ _ (intCells _) rfl HBA.own ⟨wh.heap.size, 0, none⟩ [.int .i64 z] rfl rfl hnA (fun u hu => by simp at hu; subst hu; rfl) HL1.out (HBA.low.2) (fun v' w6 hown' hgrow6 hat6 => ?_)
                  have hg6 := grown_own hgA hgrow6 (fun j hj => by have h1 := (HBA.own.lt j hj).1; have h2 := HBA.low.1; have h3 := HB1'.out; omega)
                  obtain ⟨hs1, hs2⟩ := HLB2.out.at_ haA hgrow6
                  obtain ⟨rgA, rcA, rfl⟩ := own_shape hown'
                  refine hK.out _ _ (HS.out _ hg6) (fun hHeld => ?_)
                  clear hK K
                  try simp only [Act.put, List.setIfInBounds_toArray, List.set_cons_zero, List.set_cons_succ]
                  refine wpAnyH_take (i := 9) (oi := { dst := some 85, op := Op.fieldAddr 53 (Operand.tmp 10) 1, type := 0, pos := "law.go:57", after := #[{ on := 0, ground := Ground.phase }, { on := 1, ground := Ground.phase }, { on := 2, ground := Ground.phase }, { on := 3, ground := Ground.phase }, { on := 4, ground := Ground.phase }, { on := 5, ground := Ground.phase }, { on := 6, ground := Ground.phase }, { on := 7, ground := Ground.phase }, { on := 8, ground := Ground.phase }], guard := none }) (v := ?_) rfl (by kernel_rfl) (by kernel_rfl) (by kernel_rfl) (fun _ _ _ h => h) (Or.inl ⟨by rfl, ?_⟩) (by assumption) ?_
                  rotate_left 1
                  · (intro W hSW; (try dsimp only at hSW); first | (go_simp; done) | (go_simp; with_reducible rfl))
                  try simp only [Act.put, List.setIfInBounds_toArray, List.set_cons_zero, List.set_cons_succ]
                  refine wpAnyH_ready (rs := [10]) (by kernel_rfl) (by simp) ?_
                  refine (AllReadyH.cons (o := { dst := none, op := Op.store 28 (Operand.tmp 85) (Operand.tmp 84), type := 0, pos := "law.go:57", after := #[{ on := 9, ground := Ground.data }, { on := 8, ground := Ground.data }, { on := 8, ground := Ground.chain }, { on := 0, ground := Ground.phase }, { on := 1, ground := Ground.phase }, { on := 2, ground := Ground.phase }, { on := 3, ground := Ground.phase }, { on := 4, ground := Ground.phase }, { on := 5, ground := Ground.phase }, { on := 6, ground := Ground.phase }, { on := 7, ground := Ground.phase }, { on := 8, ground := Ground.phase }], guard := none }) rfl (fun K hK => ?_) AllReadyH.nil)
                  rw [if_pos (by rfl)]
                  go_simp
                  have hst := HLB2.out.step haA hgrow6 hown'
                  have hgs := HLB2.out.grows2 hst HST.out.2.2.2 HB1'.out haA hgrow6
                  refine hK.out _ _ (HS.out _ hgs) (fun hHeld => ?_)
                  clear hK K
                  try simp only [Act.put, List.setIfInBounds_toArray, List.set_cons_zero, List.set_cons_succ]
                  refine wpAnyH_done (by kernel_rfl) ?_ _
                  have hEND := hgs
                  clear hHeld
                  have hlo := HLB2.out.other (v' := .slice rgA ((madeTo rw' L 1 k).length + 1) rcA) HST.out.1 (show u ≠ u + 1 by omega) HST.out.2.2.1 haA hgrow6
                  have hap2 := HLB2.out.apart HST.out.1 HST.out.2.2.1 haA hat6
                  have HST2 := Lib.hid (And.intro hst (And.intro hlo (And.intro hap2 hgs)))
                  clear hst hlo hap2 hgs hs1 hs2 hgrow6 hown' hat6 haA hnA HBA hgA hg6 hEND HS
                  go_wp2_with fail
                  go_roundg (q - (k + 1))
                  case measure => rw [HAP.out.2]; omega
                  case rel => exact ⟨k + 1, _, _, rfl, rfl, by omega, by rw [HM1.out]; exact HST2.out.1, by rw [HM0.out]; exact HST2.out.2.1, HST2.out.2.2.1, HST2.out.2.2.2⟩
                · rw [if_pos (by rfl)]
                  go_simp
                  have haA : wh.grownBy ((World.alloc wh (.cells #[.int .i64 z] 3)).drew) none := World.grownBy.trans (World.grownBy_alloc wh _ none) (⟨rfl, rfl, rfl, Nat.le_refl _, fun _ _ _ => rfl⟩ : (World.alloc wh (.cells #[.int .i64 z] 3)).grownBy ((World.alloc wh (.cells #[.int .i64 z] 3)).drew) none)
                  have hnA : ∀ j u, [Value.int .i64 z][j]? = some u → ((World.alloc wh (.cells #[.int .i64 z] 3)).drew).cell? ((⟨wh.heap.size, 0, none⟩ : Addr).add j) = some u := cell_one_new wh _ _
                  obtain ⟨WA, hWA⟩ : ∃ WA, (World.alloc wh (.cells #[.int .i64 z] 3)).drew = WA := ⟨_, rfl⟩
                  rw [hWA] at haA hnA ⊢
                  clear hWA
                  have HBA := HLB2.out.grown haA
                  have hgA := World.grownBy.trans HST.out.2.2.2 haA
                  refine hK.out _ _ (HS.out _ hgA) (fun hHeld => ?_)
                  clear hK K
                  try simp only [Act.put, List.setIfInBounds_toArray, List.set_cons_zero, List.set_cons_succ]
                  refine wpAnyH_ready (rs := [1]) (by kernel_rfl) (by simp) ?_
                  refine (AllReadyH.cons (o := { dst := some 77, op := Op.load 28 (Operand.tmp 76), type := 28, pos := "law.go:57", after := #[{ on := 0, ground := Ground.data }], guard := none }) rfl (fun K hK => ?_) AllReadyH.nil)
                  rw [if_pos (by rfl)]
                  have hrow := (HBA).row
                  go_simp
                  clear hrow
                  refine hK.out _ _ (HS.out _ hgA) (fun hHeld => ?_)
                  clear hK K
                  try simp only [Act.put, List.setIfInBounds_toArray, List.set_cons_zero, List.set_cons_succ]
                  refine wpAnyH_ready (rs := [8]) (by kernel_rfl) (by simp) ?_
                  refine (AllReadyH.cons (o := { dst := some 84, op := Op.call { callee := Callee.builtin Builtin.append, args := #[Operand.tmp 77, Operand.tmp 83], argTypes := #[28, 28] }, type := 28, pos := "law.go:57", after := #[{ on := 1, ground := Ground.data }, { on := 7, ground := Ground.data }], guard := none }) rfl (fun K hK => ?_) AllReadyH.nil)
                  refine ready_append_g 28 3 (.tmp 77) (.tmp 83) rfl rfl Try.underlying28 hi0 hz0 hz1 hz2 rfl (by decide) (by omega) (u + 2) _ _ (intCells _) rfl HBA.own ⟨wh.heap.size, 0, none⟩ [.int .i64 z] rfl rfl hnA (fun u hu => by simp at hu; subst hu; rfl) HL1.out (HBA.low.2) (fun v' w6 hown' hgrow6 hat6 => ?_)
                  have hg6 := grown_own hgA hgrow6 (fun j hj => by have h1 := (HBA.own.lt j hj).1; have h2 := HBA.low.1; have h3 := HB1'.out; omega)
                  obtain ⟨hs1, hs2⟩ := HLB2.out.at_ haA hgrow6
                  obtain ⟨rgA, rcA, rfl⟩ := own_shape hown'
                  refine hK.out _ _ (HS.out _ hg6) (fun hHeld => ?_)
                  clear hK K
                  try simp only [Act.put, List.setIfInBounds_toArray, List.set_cons_zero, List.set_cons_succ]
                  refine wpAnyH_take (i := 9) (oi := { dst := some 85, op := Op.fieldAddr 53 (Operand.tmp 10) 1, type := 0, pos := "law.go:57", after := #[{ on := 0, ground := Ground.phase }, { on := 1, ground := Ground.phase }, { on := 2, ground := Ground.phase }, { on := 3, ground := Ground.phase }, { on := 4, ground := Ground.phase }, { on := 5, ground := Ground.phase }, { on := 6, ground := Ground.phase }, { on := 7, ground := Ground.phase }, { on := 8, ground := Ground.phase }], guard := none }) (v := ?_) rfl (by kernel_rfl) (by kernel_rfl) (by kernel_rfl) (fun _ _ _ h => h) (Or.inl ⟨by rfl, ?_⟩) (by assumption) ?_
                  rotate_left 1
                  · (intro W hSW; (try dsimp only at hSW); first | (go_simp; done) | (go_simp; with_reducible rfl))
                  try simp only [Act.put, List.setIfInBounds_toArray, List.set_cons_zero, List.set_cons_succ]
                  refine wpAnyH_ready (rs := [10]) (by kernel_rfl) (by simp) ?_
                  refine (AllReadyH.cons (o := { dst := none, op := Op.store 28 (Operand.tmp 85) (Operand.tmp 84), type := 0, pos := "law.go:57", after := #[{ on := 9, ground := Ground.data }, { on := 8, ground := Ground.data }, { on := 8, ground := Ground.chain }, { on := 0, ground := Ground.phase }, { on := 1, ground := Ground.phase }, { on := 2, ground := Ground.phase }, { on := 3, ground := Ground.phase }, { on := 4, ground := Ground.phase }, { on := 5, ground := Ground.phase }, { on := 6, ground := Ground.phase }, { on := 7, ground := Ground.phase }, { on := 8, ground := Ground.phase }], guard := none }) rfl (fun K hK => ?_) AllReadyH.nil)
                  rw [if_pos (by rfl)]
                  go_simp
                  have hst := HLB2.out.step haA hgrow6 hown'
                  have hgs := HLB2.out.grows2 hst HST.out.2.2.2 HB1'.out haA hgrow6
                  refine hK.out _ _ (HS.out _ hgs) (fun hHeld => ?_)
                  clear hK K
                  try simp only [Act.put, List.setIfInBounds_toArray, List.set_cons_zero, List.set_cons_succ]
                  refine wpAnyH_done (by kernel_rfl) ?_ _
                  have hEND := hgs
                  clear hHeld
                  have hlo := HLB2.out.other (v' := .slice rgA ((madeTo rw' L 1 k).length + 1) rcA) HST.out.1 (show u ≠ u + 1 by omega) HST.out.2.2.1 haA hgrow6
                  have hap2 := HLB2.out.apart HST.out.1 HST.out.2.2.1 haA hat6
                  have HST2 := Lib.hid (And.intro hst (And.intro hlo (And.intro hap2 hgs)))
                  clear hst hlo hap2 hgs hs1 hs2 hgrow6 hown' hat6 haA hnA HBA hgA hg6 hEND HS
                  go_wp2_with fail
                  go_roundg (q - (k + 1))
                  case measure => rw [HAP.out.2]; omega
                  case rel => exact ⟨k + 1, _, _, rfl, rfl, by omega, by rw [HM1.out]; exact HST2.out.1, by rw [HM0.out]; exact HST2.out.2.1, HST2.out.2.2.1, HST2.out.2.2.2⟩
              · rw [if_pos (by rfl)]
                go_simp
                have haA : wr.grownBy ((World.alloc wr (.cells #[.int .i64 z] 3)).drew) none := World.grownBy.trans (World.grownBy_alloc wr _ none) (⟨rfl, rfl, rfl, Nat.le_refl _, fun _ _ _ => rfl⟩ : (World.alloc wr (.cells #[.int .i64 z] 3)).grownBy ((World.alloc wr (.cells #[.int .i64 z] 3)).drew) none)
                have hnA : ∀ j u, [Value.int .i64 z][j]? = some u → ((World.alloc wr (.cells #[.int .i64 z] 3)).drew).cell? ((⟨wr.heap.size, 0, none⟩ : Addr).add j) = some u := cell_one_new wr _ _
                obtain ⟨WA, hWA⟩ : ∃ WA, (World.alloc wr (.cells #[.int .i64 z] 3)).drew = WA := ⟨_, rfl⟩
                rw [hWA] at haA hnA ⊢
                clear hWA
                have HBA := HHB.out.grown haA
                have hgA := World.grownBy.trans HWR.out haA
                refine hK.out _ _ (HS.out _ hgA) (fun hHeld => ?_)
                clear hK K
                try simp only [Act.put, List.setIfInBounds_toArray, List.set_cons_zero, List.set_cons_succ]
                refine wpAnyH_ready (rs := [1]) (by kernel_rfl) (by simp) ?_
                refine (AllReadyH.cons (o := { dst := some 65, op := Op.load 28 (Operand.tmp 64), type := 28, pos := "law.go:54", after := #[{ on := 0, ground := Ground.data }], guard := none }) rfl (fun K hK => ?_) AllReadyH.nil)
                rw [if_pos (by rfl)]
                have hrow := (HBA).row
                go_simp
                clear hrow
                refine hK.out _ _ (HS.out _ hgA) (fun hHeld => ?_)
                clear hK K
                try simp only [Act.put, List.setIfInBounds_toArray, List.set_cons_zero, List.set_cons_succ]
                refine wpAnyH_ready (rs := [8]) (by kernel_rfl) (by simp) ?_
                refine (AllReadyH.cons (o := { dst := some 72, op := Op.call { callee := Callee.builtin Builtin.append, args := #[Operand.tmp 65, Operand.tmp 71], argTypes := #[28, 28] }, type := 28, pos := "law.go:54", after := #[{ on := 1, ground := Ground.data }, { on := 7, ground := Ground.data }], guard := none }) rfl (fun K hK => ?_) AllReadyH.nil)
                refine ready_append_g 28 3 (.tmp 65) (.tmp 71) rfl rfl Try.underlying28 hi0 hz0 hz1 hz2 rfl (by decide) (by omega) (u + 2) _ _ (intCells _) rfl HBA.own ⟨wr.heap.size, 0, none⟩ [.int .i64 z] rfl rfl hnA (fun u hu => by simp at hu; subst hu; rfl) HL0.out (HBA.low.2) (fun v' w6 hown' hgrow6 hat6 => ?_)
                have hg6 := grown_own hgA hgrow6 (fun j hj => by have h1 := (HBA.own.lt j hj).1; have h2 := HBA.low.1; have h3 := HB0'.out; omega)
                obtain ⟨hs1, hs2⟩ := HHB.out.at_ haA hgrow6
                obtain ⟨rgA, rcA, rfl⟩ := own_shape hown'
                refine hK.out _ _ (HS.out _ hg6) (fun hHeld => ?_)
                clear hK K
                try simp only [Act.put, List.setIfInBounds_toArray, List.set_cons_zero, List.set_cons_succ]
                refine wpAnyH_take (i := 9) (oi := { dst := some 73, op := Op.fieldAddr 53 (Operand.tmp 11) 1, type := 0, pos := "law.go:54", after := #[{ on := 0, ground := Ground.phase }, { on := 1, ground := Ground.phase }, { on := 2, ground := Ground.phase }, { on := 3, ground := Ground.phase }, { on := 4, ground := Ground.phase }, { on := 5, ground := Ground.phase }, { on := 6, ground := Ground.phase }, { on := 7, ground := Ground.phase }, { on := 8, ground := Ground.phase }], guard := none }) (v := ?_) rfl (by kernel_rfl) (by kernel_rfl) (by kernel_rfl) (fun _ _ _ h => h) (Or.inl ⟨by rfl, ?_⟩) (by assumption) ?_
                rotate_left 1
                · (intro W hSW; (try dsimp only at hSW); first | (go_simp; done) | (go_simp; with_reducible rfl))
                try simp only [Act.put, List.setIfInBounds_toArray, List.set_cons_zero, List.set_cons_succ]
                refine wpAnyH_ready (rs := [10]) (by kernel_rfl) (by simp) ?_
                refine (AllReadyH.cons (o := { dst := none, op := Op.store 28 (Operand.tmp 73) (Operand.tmp 72), type := 0, pos := "law.go:54", after := #[{ on := 9, ground := Ground.data }, { on := 8, ground := Ground.data }, { on := 8, ground := Ground.chain }, { on := 0, ground := Ground.phase }, { on := 1, ground := Ground.phase }, { on := 2, ground := Ground.phase }, { on := 3, ground := Ground.phase }, { on := 4, ground := Ground.phase }, { on := 5, ground := Ground.phase }, { on := 6, ground := Ground.phase }, { on := 7, ground := Ground.phase }, { on := 8, ground := Ground.phase }], guard := none }) rfl (fun K hK => ?_) AllReadyH.nil)
                rw [if_pos (by rfl)]
                go_simp
                have hst := HHB.out.step haA hgrow6 hown'
                have hgs := HHB.out.grows2 hst HWR.out HB0'.out haA hgrow6
                refine hK.out _ _ (HS.out _ hgs) (fun hHeld => ?_)
                clear hK K
                try simp only [Act.put, List.setIfInBounds_toArray, List.set_cons_zero, List.set_cons_succ]
                refine wpAnyH_done (by kernel_rfl) ?_ _
                have hEND := hgs
                clear hHeld
                have hlo := HHB.out.other (v' := .slice rgA ((madeTo rw' L 0 k).length + 1) rcA) HLB.out (show u + 1 ≠ u by omega) (apart_symm HAP.out.1) haA hgrow6
                have hap2 := HHB.out.apart HLB.out (apart_symm HAP.out.1) haA hat6
                have HWH0 := hgs
                obtain ⟨wh, hwh⟩ : ∃ wh, World.setCell w6 ⟨u + 1, 1, none⟩ (.slice rgA ((madeTo rw' L 0 k).length + 1) rcA) = wh := ⟨_, rfl⟩
                rw [hwh] at hst hlo HWH0 ⊢
                clear hwh
                have HST := Lib.hid (And.intro hst (And.intro hlo (And.intro (apart_symm hap2) HWH0)))
                clear hst hlo hap2 HWH0 hgs hs1 hs2 hgrow6 hown' hat6 haA hnA HBA hgA hg6 hEND HS
                have HLB2 := Lib.hid HST.out.2.1
                go_wp2_with fail
                have HS := Lib.hid (fun (Wh : World) (hWh : U.grownBy Wh none) => (⟨hWh, hWh.cell huc.2.1 (by simp), hWh.cell huc.2.2.1 (by simp), hWh.cell hcell0 (by simp)⟩ : (fun Wh : World => U.grownBy Wh none ∧ Wh.cell? ⟨wo.heap.size, 0, none⟩ = some (.int .i64 K) ∧ Wh.cell? ⟨wo.heap.size, 1, none⟩ = some (.slice (some ⟨tb, to, none⟩) q yk2) ∧ Wh.cell? ⟨tb, to + k, none⟩ = some (.int .i64 z)) Wh))
                have hdr : U.grownBy wh.drew none := World.grownBy.trans HST.out.2.2.2 (⟨rfl, rfl, rfl, Nat.le_refl _, fun _ _ _ => rfl⟩ : wh.grownBy wh.drew none)
                refine wp_region_held_drew (S := (fun Wh : World => U.grownBy Wh none ∧ Wh.cell? ⟨wo.heap.size, 0, none⟩ = some (.int .i64 K) ∧ Wh.cell? ⟨wo.heap.size, 1, none⟩ = some (.slice (some ⟨tb, to, none⟩) q yk2) ∧ Wh.cell? ⟨tb, to + k, none⟩ = some (.int .i64 z))) (by kernel_rfl) (HS.out _ hdr) (fun hHeld => ?_)
                refine wpAnyH_take (i := 0) (oi := { dst := some 76, op := Op.fieldAddr 53 (Operand.tmp 10) 1, type := 0, pos := "law.go:57", after := #[], guard := none }) (v := ?_) rfl (by kernel_rfl) (by kernel_rfl) (by kernel_rfl) (fun _ _ _ h => h) (Or.inl ⟨by rfl, ?_⟩) (by assumption) ?_
                rotate_left 1
                · (intro W hSW; (try dsimp only at hSW); first | (go_simp; done) | (go_simp; with_reducible rfl))
                try simp only [Act.put, List.setIfInBounds_toArray, List.set_cons_zero, List.set_cons_succ]
                refine wpAnyH_take (i := 2) (oi := { dst := some 78, op := Op.fieldAddr 53 (Operand.tmp 9) 1, type := 0, pos := "law.go:57", after := #[], guard := none }) (v := ?_) rfl (by kernel_rfl) (by kernel_rfl) (by kernel_rfl) (fun _ _ _ h => h) (Or.inl ⟨by rfl, ?_⟩) (by assumption) ?_
                rotate_left 1
                · (intro W hSW; (try dsimp only at hSW); first | (go_simp; done) | (go_simp; with_reducible rfl))
                try simp only [Act.put, List.setIfInBounds_toArray, List.set_cons_zero, List.set_cons_succ]
                refine wpAnyH_take (i := 3) (oi := { dst := some 79, op := Op.load 28 (Operand.tmp 78), type := 28, pos := "law.go:57", after := #[{ on := 2, ground := Ground.data }], guard := none }) (v := ?_) rfl (by kernel_rfl) (by kernel_rfl) (by kernel_rfl) (fun _ _ _ h => h) (Or.inl ⟨by rfl, ?_⟩) (by assumption) ?_
                rotate_left 1
                · (intro W hSW; (try dsimp only at hSW); first | (go_simp; done) | (go_simp; with_reducible rfl))
                try simp only [Act.put, List.setIfInBounds_toArray, List.set_cons_zero, List.set_cons_succ]
                refine wpAnyH_take (i := 4) (oi := { dst := some 80, op := Op.move (Operand.tmp 12), type := 3, pos := "law.go:57", after := #[], guard := none }) (v := ?_) rfl (by kernel_rfl) (by kernel_rfl) (by kernel_rfl) (fun _ _ _ h => h) (Or.inl ⟨by rfl, ?_⟩) (by assumption) ?_
                rotate_left 1
                · (intro W hSW; (try dsimp only at hSW); first | (go_simp; done) | (go_simp; with_reducible rfl))
                try simp only [Act.put, List.setIfInBounds_toArray, List.set_cons_zero, List.set_cons_succ]
                refine wpAnyH_take (i := 5) (oi := { dst := some 81, op := Op.indexAddr 28 (Operand.tmp 79) (Operand.tmp 80), type := 0, pos := "law.go:57", after := #[{ on := 3, ground := Ground.data }, { on := 4, ground := Ground.data }], guard := none }) (v := ?_) rfl (by kernel_rfl) (by kernel_rfl) (by kernel_rfl) (fun _ _ _ h => h) (Or.inl ⟨by rfl, ?_⟩) (by assumption) ?_
                rotate_left 1
                · (intro W hSW; (try dsimp only at hSW); first | (go_simp; done) | (go_simp; with_reducible rfl))
                try simp only [Act.put, List.setIfInBounds_toArray, List.set_cons_zero, List.set_cons_succ]
                refine wpAnyH_take (i := 6) (oi := { dst := some 82, op := Op.load 3 (Operand.tmp 81), type := 3, pos := "law.go:57", after := #[{ on := 5, ground := Ground.data }], guard := none }) (v := ?_) rfl (by kernel_rfl) (by kernel_rfl) (by kernel_rfl) (fun _ _ _ h => h) (Or.inl ⟨by rfl, ?_⟩) (by assumption) ?_
                rotate_left 1
                · (intro W hSW; (try dsimp only at hSW); first | (go_simp; done) | (go_simp; with_reducible rfl))
                try simp only [Act.put, List.setIfInBounds_toArray, List.set_cons_zero, List.set_cons_succ]
                refine wpAnyH_ready (rs := [1, 7]) (by kernel_rfl) (by simp) ?_
                refine (AllReadyH.cons (o := { dst := some 77, op := Op.load 28 (Operand.tmp 76), type := 28, pos := "law.go:57", after := #[{ on := 0, ground := Ground.data }], guard := none }) rfl (fun K hK => ?_) (AllReadyH.cons (o := { dst := some 83, op := Op.buildSlice 28 1 #[(0, Operand.tmp 82)], type := 28, pos := "law.go:57", after := #[{ on := 6, ground := Ground.data }], guard := none }) rfl (fun K hK => ?_) AllReadyH.nil))
                · rw [if_pos (by rfl)]
                  have hrow := (HLB2.out).row
                  go_simp
                  clear hrow
                  refine hK.out _ _ (HS.out _ hdr) (fun hHeld => ?_)
                  clear hK K
                  try simp only [Act.put, List.setIfInBounds_toArray, List.set_cons_zero, List.set_cons_succ]
                  refine wpAnyH_ready (rs := [7]) (by kernel_rfl) (by simp) ?_
                  refine (AllReadyH.cons (o := { dst := some 83, op := Op.buildSlice 28 1 #[(0, Operand.tmp 82)], type := 28, pos := "law.go:57", after := #[{ on := 6, ground := Ground.data }], guard := none }) rfl (fun K hK => ?_) AllReadyH.nil)
                  rw [if_pos (by rfl)]
                  go_simp
                  have haA : wh.grownBy ((World.alloc wh (.cells #[.int .i64 z] 3)).drew) none := World.grownBy.trans (World.grownBy_alloc wh _ none) (⟨rfl, rfl, rfl, Nat.le_refl _, fun _ _ _ => rfl⟩ : (World.alloc wh (.cells #[.int .i64 z] 3)).grownBy ((World.alloc wh (.cells #[.int .i64 z] 3)).drew) none)
                  have hnA : ∀ j u, [Value.int .i64 z][j]? = some u → ((World.alloc wh (.cells #[.int .i64 z] 3)).drew).cell? ((⟨wh.heap.size, 0, none⟩ : Addr).add j) = some u := cell_one_new wh _ _
                  obtain ⟨WA, hWA⟩ : ∃ WA, (World.alloc wh (.cells #[.int .i64 z] 3)).drew = WA := ⟨_, rfl⟩
                  rw [hWA] at haA hnA ⊢
                  clear hWA
                  have HBA := HLB2.out.grown haA
                  have hgA := World.grownBy.trans HST.out.2.2.2 haA
                  refine hK.out _ _ (HS.out _ hgA) (fun hHeld => ?_)
                  clear hK K
                  try simp only [Act.put, List.setIfInBounds_toArray, List.set_cons_zero, List.set_cons_succ]
                  refine wpAnyH_ready (rs := [8]) (by kernel_rfl) (by simp) ?_
                  refine (AllReadyH.cons (o := { dst := some 84, op := Op.call { callee := Callee.builtin Builtin.append, args := #[Operand.tmp 77, Operand.tmp 83], argTypes := #[28, 28] }, type := 28, pos := "law.go:57", after := #[{ on := 1, ground := Ground.data }, { on := 7, ground := Ground.data }], guard := none }) rfl (fun K hK => ?_) AllReadyH.nil)
                  refine ready_append_g 28 3 (.tmp 77) (.tmp 83) rfl rfl Try.underlying28 hi0 hz0 hz1 hz2 rfl (by decide) (by omega) (u + 2) _ _ (intCells _) rfl HBA.own ⟨wh.heap.size, 0, none⟩ [.int .i64 z] rfl rfl hnA (fun u hu => by simp at hu; subst hu; rfl) HL1.out (HBA.low.2) (fun v' w6 hown' hgrow6 hat6 => ?_)
                  have hg6 := grown_own hgA hgrow6 (fun j hj => by have h1 := (HBA.own.lt j hj).1; have h2 := HBA.low.1; have h3 := HB1'.out; omega)
                  obtain ⟨hs1, hs2⟩ := HLB2.out.at_ haA hgrow6
                  obtain ⟨rgA, rcA, rfl⟩ := own_shape hown'
                  refine hK.out _ _ (HS.out _ hg6) (fun hHeld => ?_)
                  clear hK K
                  try simp only [Act.put, List.setIfInBounds_toArray, List.set_cons_zero, List.set_cons_succ]
                  refine wpAnyH_take (i := 9) (oi := { dst := some 85, op := Op.fieldAddr 53 (Operand.tmp 10) 1, type := 0, pos := "law.go:57", after := #[{ on := 0, ground := Ground.phase }, { on := 1, ground := Ground.phase }, { on := 2, ground := Ground.phase }, { on := 3, ground := Ground.phase }, { on := 4, ground := Ground.phase }, { on := 5, ground := Ground.phase }, { on := 6, ground := Ground.phase }, { on := 7, ground := Ground.phase }, { on := 8, ground := Ground.phase }], guard := none }) (v := ?_) rfl (by kernel_rfl) (by kernel_rfl) (by kernel_rfl) (fun _ _ _ h => h) (Or.inl ⟨by rfl, ?_⟩) (by assumption) ?_
                  rotate_left 1
                  · (intro W hSW; (try dsimp only at hSW); first | (go_simp; done) | (go_simp; with_reducible rfl))
                  try simp only [Act.put, List.setIfInBounds_toArray, List.set_cons_zero, List.set_cons_succ]
                  refine wpAnyH_ready (rs := [10]) (by kernel_rfl) (by simp) ?_
                  refine (AllReadyH.cons (o := { dst := none, op := Op.store 28 (Operand.tmp 85) (Operand.tmp 84), type := 0, pos := "law.go:57", after := #[{ on := 9, ground := Ground.data }, { on := 8, ground := Ground.data }, { on := 8, ground := Ground.chain }, { on := 0, ground := Ground.phase }, { on := 1, ground := Ground.phase }, { on := 2, ground := Ground.phase }, { on := 3, ground := Ground.phase }, { on := 4, ground := Ground.phase }, { on := 5, ground := Ground.phase }, { on := 6, ground := Ground.phase }, { on := 7, ground := Ground.phase }, { on := 8, ground := Ground.phase }], guard := none }) rfl (fun K hK => ?_) AllReadyH.nil)
                  rw [if_pos (by rfl)]
                  go_simp
                  have hst := HLB2.out.step haA hgrow6 hown'
                  have hgs := HLB2.out.grows2 hst HST.out.2.2.2 HB1'.out haA hgrow6
                  refine hK.out _ _ (HS.out _ hgs) (fun hHeld => ?_)
                  clear hK K
                  try simp only [Act.put, List.setIfInBounds_toArray, List.set_cons_zero, List.set_cons_succ]
                  refine wpAnyH_done (by kernel_rfl) ?_ _
                  have hEND := hgs
                  clear hHeld
                  have hlo := HLB2.out.other (v' := .slice rgA ((madeTo rw' L 1 k).length + 1) rcA) HST.out.1 (show u ≠ u + 1 by omega) HST.out.2.2.1 haA hgrow6
                  have hap2 := HLB2.out.apart HST.out.1 HST.out.2.2.1 haA hat6
                  have HST2 := Lib.hid (And.intro hst (And.intro hlo (And.intro hap2 hgs)))
                  clear hst hlo hap2 hgs hs1 hs2 hgrow6 hown' hat6 haA hnA HBA hgA hg6 hEND HS
                  go_wp2_with fail
                  go_roundg (q - (k + 1))
                  case measure => rw [HAP.out.2]; omega
                  case rel => exact ⟨k + 1, _, _, rfl, rfl, by omega, by rw [HM1.out]; exact HST2.out.1, by rw [HM0.out]; exact HST2.out.2.1, HST2.out.2.2.1, HST2.out.2.2.2⟩
                · rw [if_pos (by rfl)]
                  go_simp
                  have haA : wh.grownBy ((World.alloc wh (.cells #[.int .i64 z] 3)).drew) none := World.grownBy.trans (World.grownBy_alloc wh _ none) (⟨rfl, rfl, rfl, Nat.le_refl _, fun _ _ _ => rfl⟩ : (World.alloc wh (.cells #[.int .i64 z] 3)).grownBy ((World.alloc wh (.cells #[.int .i64 z] 3)).drew) none)
                  have hnA : ∀ j u, [Value.int .i64 z][j]? = some u → ((World.alloc wh (.cells #[.int .i64 z] 3)).drew).cell? ((⟨wh.heap.size, 0, none⟩ : Addr).add j) = some u := cell_one_new wh _ _
                  obtain ⟨WA, hWA⟩ : ∃ WA, (World.alloc wh (.cells #[.int .i64 z] 3)).drew = WA := ⟨_, rfl⟩
                  rw [hWA] at haA hnA ⊢
                  clear hWA
                  have HBA := HLB2.out.grown haA
                  have hgA := World.grownBy.trans HST.out.2.2.2 haA
                  refine hK.out _ _ (HS.out _ hgA) (fun hHeld => ?_)
                  clear hK K
                  try simp only [Act.put, List.setIfInBounds_toArray, List.set_cons_zero, List.set_cons_succ]
                  refine wpAnyH_ready (rs := [1]) (by kernel_rfl) (by simp) ?_
                  refine (AllReadyH.cons (o := { dst := some 77, op := Op.load 28 (Operand.tmp 76), type := 28, pos := "law.go:57", after := #[{ on := 0, ground := Ground.data }], guard := none }) rfl (fun K hK => ?_) AllReadyH.nil)
                  rw [if_pos (by rfl)]
                  have hrow := (HBA).row
                  go_simp
                  clear hrow
                  refine hK.out _ _ (HS.out _ hgA) (fun hHeld => ?_)
                  clear hK K
                  try simp only [Act.put, List.setIfInBounds_toArray, List.set_cons_zero, List.set_cons_succ]
                  refine wpAnyH_ready (rs := [8]) (by kernel_rfl) (by simp) ?_
                  refine (AllReadyH.cons (o := { dst := some 84, op := Op.call { callee := Callee.builtin Builtin.append, args := #[Operand.tmp 77, Operand.tmp 83], argTypes := #[28, 28] }, type := 28, pos := "law.go:57", after := #[{ on := 1, ground := Ground.data }, { on := 7, ground := Ground.data }], guard := none }) rfl (fun K hK => ?_) AllReadyH.nil)
                  refine ready_append_g 28 3 (.tmp 77) (.tmp 83) rfl rfl Try.underlying28 hi0 hz0 hz1 hz2 rfl (by decide) (by omega) (u + 2) _ _ (intCells _) rfl HBA.own ⟨wh.heap.size, 0, none⟩ [.int .i64 z] rfl rfl hnA (fun u hu => by simp at hu; subst hu; rfl) HL1.out (HBA.low.2) (fun v' w6 hown' hgrow6 hat6 => ?_)
                  have hg6 := grown_own hgA hgrow6 (fun j hj => by have h1 := (HBA.own.lt j hj).1; have h2 := HBA.low.1; have h3 := HB1'.out; omega)
                  obtain ⟨hs1, hs2⟩ := HLB2.out.at_ haA hgrow6
                  obtain ⟨rgA, rcA, rfl⟩ := own_shape hown'
                  refine hK.out _ _ (HS.out _ hg6) (fun hHeld => ?_)
                  clear hK K
                  try simp only [Act.put, List.setIfInBounds_toArray, List.set_cons_zero, List.set_cons_succ]
                  refine wpAnyH_take (i := 9) (oi := { dst := some 85, op := Op.fieldAddr 53 (Operand.tmp 10) 1, type := 0, pos := "law.go:57", after := #[{ on := 0, ground := Ground.phase }, { on := 1, ground := Ground.phase }, { on := 2, ground := Ground.phase }, { on := 3, ground := Ground.phase }, { on := 4, ground := Ground.phase }, { on := 5, ground := Ground.phase }, { on := 6, ground := Ground.phase }, { on := 7, ground := Ground.phase }, { on := 8, ground := Ground.phase }], guard := none }) (v := ?_) rfl (by kernel_rfl) (by kernel_rfl) (by kernel_rfl) (fun _ _ _ h => h) (Or.inl ⟨by rfl, ?_⟩) (by assumption) ?_
                  rotate_left 1
                  · (intro W hSW; (try dsimp only at hSW); first | (go_simp; done) | (go_simp; with_reducible rfl))
                  try simp only [Act.put, List.setIfInBounds_toArray, List.set_cons_zero, List.set_cons_succ]
                  refine wpAnyH_ready (rs := [10]) (by kernel_rfl) (by simp) ?_
                  refine (AllReadyH.cons (o := { dst := none, op := Op.store 28 (Operand.tmp 85) (Operand.tmp 84), type := 0, pos := "law.go:57", after := #[{ on := 9, ground := Ground.data }, { on := 8, ground := Ground.data }, { on := 8, ground := Ground.chain }, { on := 0, ground := Ground.phase }, { on := 1, ground := Ground.phase }, { on := 2, ground := Ground.phase }, { on := 3, ground := Ground.phase }, { on := 4, ground := Ground.phase }, { on := 5, ground := Ground.phase }, { on := 6, ground := Ground.phase }, { on := 7, ground := Ground.phase }, { on := 8, ground := Ground.phase }], guard := none }) rfl (fun K hK => ?_) AllReadyH.nil)
                  rw [if_pos (by rfl)]
                  go_simp
                  have hst := HLB2.out.step haA hgrow6 hown'
                  have hgs := HLB2.out.grows2 hst HST.out.2.2.2 HB1'.out haA hgrow6
                  refine hK.out _ _ (HS.out _ hgs) (fun hHeld => ?_)
                  clear hK K
                  try simp only [Act.put, List.setIfInBounds_toArray, List.set_cons_zero, List.set_cons_succ]
                  refine wpAnyH_done (by kernel_rfl) ?_ _
                  have hEND := hgs
                  clear hHeld
                  have hlo := HLB2.out.other (v' := .slice rgA ((madeTo rw' L 1 k).length + 1) rcA) HST.out.1 (show u ≠ u + 1 by omega) HST.out.2.2.1 haA hgrow6
                  have hap2 := HLB2.out.apart HST.out.1 HST.out.2.2.1 haA hat6
                  have HST2 := Lib.hid (And.intro hst (And.intro hlo (And.intro hap2 hgs)))
                  clear hst hlo hap2 hgs hs1 hs2 hgrow6 hown' hat6 haA hnA HBA hgA hg6 hEND HS
                  go_wp2_with fail
                  go_roundg (q - (k + 1))
                  case measure => rw [HAP.out.2]; omega
                  case rel => exact ⟨k + 1, _, _, rfl, rfl, by omega, by rw [HM1.out]; exact HST2.out.1, by rw [HM0.out]; exact HST2.out.2.1, HST2.out.2.2.1, HST2.out.2.2.2⟩
            · have hkpB : decide (k < p) = false := decide_eq_false hkp
              have HP : Hid (pick rw' k = 1) := Lib.hid (by rw [pick, ← HRE.out, List.getElem?_eq_none (by rw [HRP.out]; omega)])
              clear hu8 hro
              have HM1 : Hid (madeTo rw' L 1 (k + 1) = madeTo rw' L 1 k) := Lib.hid (madeTo_no (by rw [HP.out]; omega))
              have HM0 : Hid (madeTo rw' L 0 (k + 1) = madeTo rw' L 0 k ++ [z]) := Lib.hid (madeTo_yes HZ.out (by rw [HP.out]; omega))
              go_wp2_with fail
              have HS := Lib.hid (fun (Wh : World) (hWh : U.grownBy Wh none) => (⟨hWh, hWh.cell huc.2.1 (by simp), hWh.cell huc.2.2.1 (by simp), hWh.cell hcell0 (by simp)⟩ : (fun Wh : World => U.grownBy Wh none ∧ Wh.cell? ⟨wo.heap.size, 0, none⟩ = some (.int .i64 K) ∧ Wh.cell? ⟨wo.heap.size, 1, none⟩ = some (.slice (some ⟨tb, to, none⟩) q yk2) ∧ Wh.cell? ⟨tb, to + k, none⟩ = some (.int .i64 z)) Wh))
              have hdr : U.grownBy wr.drew none := World.grownBy.trans HWR.out (⟨rfl, rfl, rfl, Nat.le_refl _, fun _ _ _ => rfl⟩ : wr.grownBy wr.drew none)
              refine wp_region_held_drew (S := (fun Wh : World => U.grownBy Wh none ∧ Wh.cell? ⟨wo.heap.size, 0, none⟩ = some (.int .i64 K) ∧ Wh.cell? ⟨wo.heap.size, 1, none⟩ = some (.slice (some ⟨tb, to, none⟩) q yk2) ∧ Wh.cell? ⟨tb, to + k, none⟩ = some (.int .i64 z))) (by kernel_rfl) (HS.out _ hdr) (fun hHeld => ?_)
              refine wpAnyH_take (i := 0) (oi := { dst := some 64, op := Op.fieldAddr 53 (Operand.tmp 11) 1, type := 0, pos := "law.go:54", after := #[], guard := none }) (v := ?_) rfl (by kernel_rfl) (by kernel_rfl) (by kernel_rfl) (fun _ _ _ h => h) (Or.inl ⟨by rfl, ?_⟩) (by assumption) ?_
              rotate_left 1
              · (intro W hSW; (try dsimp only at hSW); first | (go_simp; done) | (go_simp; with_reducible rfl))
              try simp only [Act.put, List.setIfInBounds_toArray, List.set_cons_zero, List.set_cons_succ]
              refine wpAnyH_take (i := 2) (oi := { dst := some 66, op := Op.fieldAddr 53 (Operand.tmp 9) 1, type := 0, pos := "law.go:54", after := #[], guard := none }) (v := ?_) rfl (by kernel_rfl) (by kernel_rfl) (by kernel_rfl) (fun _ _ _ h => h) (Or.inl ⟨by rfl, ?_⟩) (by assumption) ?_
              rotate_left 1
              · (intro W hSW; (try dsimp only at hSW); first | (go_simp; done) | (go_simp; with_reducible rfl))
              try simp only [Act.put, List.setIfInBounds_toArray, List.set_cons_zero, List.set_cons_succ]
              refine wpAnyH_take (i := 3) (oi := { dst := some 67, op := Op.load 28 (Operand.tmp 66), type := 28, pos := "law.go:54", after := #[{ on := 2, ground := Ground.data }], guard := none }) (v := ?_) rfl (by kernel_rfl) (by kernel_rfl) (by kernel_rfl) (fun _ _ _ h => h) (Or.inl ⟨by rfl, ?_⟩) (by assumption) ?_
              rotate_left 1
              · (intro W hSW; (try dsimp only at hSW); first | (go_simp; done) | (go_simp; with_reducible rfl))
              try simp only [Act.put, List.setIfInBounds_toArray, List.set_cons_zero, List.set_cons_succ]
              refine wpAnyH_take (i := 4) (oi := { dst := some 68, op := Op.move (Operand.tmp 12), type := 3, pos := "law.go:54", after := #[], guard := none }) (v := ?_) rfl (by kernel_rfl) (by kernel_rfl) (by kernel_rfl) (fun _ _ _ h => h) (Or.inl ⟨by rfl, ?_⟩) (by assumption) ?_
              rotate_left 1
              · (intro W hSW; (try dsimp only at hSW); first | (go_simp; done) | (go_simp; with_reducible rfl))
              try simp only [Act.put, List.setIfInBounds_toArray, List.set_cons_zero, List.set_cons_succ]
              refine wpAnyH_take (i := 5) (oi := { dst := some 69, op := Op.indexAddr 28 (Operand.tmp 67) (Operand.tmp 68), type := 0, pos := "law.go:54", after := #[{ on := 3, ground := Ground.data }, { on := 4, ground := Ground.data }], guard := none }) (v := ?_) rfl (by kernel_rfl) (by kernel_rfl) (by kernel_rfl) (fun _ _ _ h => h) (Or.inl ⟨by rfl, ?_⟩) (by assumption) ?_
              rotate_left 1
              · (intro W hSW; (try dsimp only at hSW); first | (go_simp; done) | (go_simp; with_reducible rfl))
              try simp only [Act.put, List.setIfInBounds_toArray, List.set_cons_zero, List.set_cons_succ]
              refine wpAnyH_take (i := 6) (oi := { dst := some 70, op := Op.load 3 (Operand.tmp 69), type := 3, pos := "law.go:54", after := #[{ on := 5, ground := Ground.data }], guard := none }) (v := ?_) rfl (by kernel_rfl) (by kernel_rfl) (by kernel_rfl) (fun _ _ _ h => h) (Or.inl ⟨by rfl, ?_⟩) (by assumption) ?_
              rotate_left 1
              · (intro W hSW; (try dsimp only at hSW); first | (go_simp; done) | (go_simp; with_reducible rfl))
              try simp only [Act.put, List.setIfInBounds_toArray, List.set_cons_zero, List.set_cons_succ]
              refine wpAnyH_ready (rs := [1, 7]) (by kernel_rfl) (by simp) ?_
              refine (AllReadyH.cons (o := { dst := some 65, op := Op.load 28 (Operand.tmp 64), type := 28, pos := "law.go:54", after := #[{ on := 0, ground := Ground.data }], guard := none }) rfl (fun K hK => ?_) (AllReadyH.cons (o := { dst := some 71, op := Op.buildSlice 28 1 #[(0, Operand.tmp 70)], type := 28, pos := "law.go:54", after := #[{ on := 6, ground := Ground.data }], guard := none }) rfl (fun K hK => ?_) AllReadyH.nil))
              · rw [if_pos (by rfl)]
                have hrow := (HHB.out).row
                go_simp
                clear hrow
                refine hK.out _ _ (HS.out _ hdr) (fun hHeld => ?_)
                clear hK K
                try simp only [Act.put, List.setIfInBounds_toArray, List.set_cons_zero, List.set_cons_succ]
                refine wpAnyH_ready (rs := [7]) (by kernel_rfl) (by simp) ?_
                refine (AllReadyH.cons (o := { dst := some 71, op := Op.buildSlice 28 1 #[(0, Operand.tmp 70)], type := 28, pos := "law.go:54", after := #[{ on := 6, ground := Ground.data }], guard := none }) rfl (fun K hK => ?_) AllReadyH.nil)
                rw [if_pos (by rfl)]
                go_simp
                have haA : wr.grownBy ((World.alloc wr (.cells #[.int .i64 z] 3)).drew) none := World.grownBy.trans (World.grownBy_alloc wr _ none) (⟨rfl, rfl, rfl, Nat.le_refl _, fun _ _ _ => rfl⟩ : (World.alloc wr (.cells #[.int .i64 z] 3)).grownBy ((World.alloc wr (.cells #[.int .i64 z] 3)).drew) none)
                have hnA : ∀ j u, [Value.int .i64 z][j]? = some u → ((World.alloc wr (.cells #[.int .i64 z] 3)).drew).cell? ((⟨wr.heap.size, 0, none⟩ : Addr).add j) = some u := cell_one_new wr _ _
                obtain ⟨WA, hWA⟩ : ∃ WA, (World.alloc wr (.cells #[.int .i64 z] 3)).drew = WA := ⟨_, rfl⟩
                rw [hWA] at haA hnA ⊢
                clear hWA
                have HBA := HHB.out.grown haA
                have hgA := World.grownBy.trans HWR.out haA
                refine hK.out _ _ (HS.out _ hgA) (fun hHeld => ?_)
                clear hK K
                try simp only [Act.put, List.setIfInBounds_toArray, List.set_cons_zero, List.set_cons_succ]
                refine wpAnyH_ready (rs := [8]) (by kernel_rfl) (by simp) ?_
                refine (AllReadyH.cons (o := { dst := some 72, op := Op.call { callee := Callee.builtin Builtin.append, args := #[Operand.tmp 65, Operand.tmp 71], argTypes := #[28, 28] }, type := 28, pos := "law.go:54", after := #[{ on := 1, ground := Ground.data }, { on := 7, ground := Ground.data }], guard := none }) rfl (fun K hK => ?_) AllReadyH.nil)
                refine ready_append_g 28 3 (.tmp 65) (.tmp 71) rfl rfl Try.underlying28 hi0 hz0 hz1 hz2 rfl (by decide) (by omega) (u + 2) _ _ (intCells _) rfl HBA.own ⟨wr.heap.size, 0, none⟩ [.int .i64 z] rfl rfl hnA (fun u hu => by simp at hu; subst hu; rfl) HL0.out (HBA.low.2) (fun v' w6 hown' hgrow6 hat6 => ?_)
                have hg6 := grown_own hgA hgrow6 (fun j hj => by have h1 := (HBA.own.lt j hj).1; have h2 := HBA.low.1; have h3 := HB0'.out; omega)
                obtain ⟨hs1, hs2⟩ := HHB.out.at_ haA hgrow6
                obtain ⟨rgA, rcA, rfl⟩ := own_shape hown'
                refine hK.out _ _ (HS.out _ hg6) (fun hHeld => ?_)
                clear hK K
                try simp only [Act.put, List.setIfInBounds_toArray, List.set_cons_zero, List.set_cons_succ]
                refine wpAnyH_take (i := 9) (oi := { dst := some 73, op := Op.fieldAddr 53 (Operand.tmp 11) 1, type := 0, pos := "law.go:54", after := #[{ on := 0, ground := Ground.phase }, { on := 1, ground := Ground.phase }, { on := 2, ground := Ground.phase }, { on := 3, ground := Ground.phase }, { on := 4, ground := Ground.phase }, { on := 5, ground := Ground.phase }, { on := 6, ground := Ground.phase }, { on := 7, ground := Ground.phase }, { on := 8, ground := Ground.phase }], guard := none }) (v := ?_) rfl (by kernel_rfl) (by kernel_rfl) (by kernel_rfl) (fun _ _ _ h => h) (Or.inl ⟨by rfl, ?_⟩) (by assumption) ?_
                rotate_left 1
                · (intro W hSW; (try dsimp only at hSW); first | (go_simp; done) | (go_simp; with_reducible rfl))
                try simp only [Act.put, List.setIfInBounds_toArray, List.set_cons_zero, List.set_cons_succ]
                refine wpAnyH_ready (rs := [10]) (by kernel_rfl) (by simp) ?_
                refine (AllReadyH.cons (o := { dst := none, op := Op.store 28 (Operand.tmp 73) (Operand.tmp 72), type := 0, pos := "law.go:54", after := #[{ on := 9, ground := Ground.data }, { on := 8, ground := Ground.data }, { on := 8, ground := Ground.chain }, { on := 0, ground := Ground.phase }, { on := 1, ground := Ground.phase }, { on := 2, ground := Ground.phase }, { on := 3, ground := Ground.phase }, { on := 4, ground := Ground.phase }, { on := 5, ground := Ground.phase }, { on := 6, ground := Ground.phase }, { on := 7, ground := Ground.phase }, { on := 8, ground := Ground.phase }], guard := none }) rfl (fun K hK => ?_) AllReadyH.nil)
                rw [if_pos (by rfl)]
                go_simp
                have hst := HHB.out.step haA hgrow6 hown'
                have hgs := HHB.out.grows2 hst HWR.out HB0'.out haA hgrow6
                refine hK.out _ _ (HS.out _ hgs) (fun hHeld => ?_)
                clear hK K
                try simp only [Act.put, List.setIfInBounds_toArray, List.set_cons_zero, List.set_cons_succ]
                refine wpAnyH_done (by kernel_rfl) ?_ _
                have hEND := hgs
                clear hHeld
                have hlo := HHB.out.other (v' := .slice rgA ((madeTo rw' L 0 k).length + 1) rcA) HLB.out (show u + 1 ≠ u by omega) (apart_symm HAP.out.1) haA hgrow6
                have hap2 := HHB.out.apart HLB.out (apart_symm HAP.out.1) haA hat6
                have HWH0 := hgs
                obtain ⟨wh, hwh⟩ : ∃ wh, World.setCell w6 ⟨u + 1, 1, none⟩ (.slice rgA ((madeTo rw' L 0 k).length + 1) rcA) = wh := ⟨_, rfl⟩
                rw [hwh] at hst hlo HWH0 ⊢
                clear hwh
                have HST := Lib.hid (And.intro hst (And.intro hlo (And.intro (apart_symm hap2) HWH0)))
                clear hst hlo hap2 HWH0 hgs hs1 hs2 hgrow6 hown' hat6 haA hnA HBA hgA hg6 hEND HS
                go_wp2_with fail
                go_roundg (q - (k + 1))
                case measure => rw [HAP.out.2]; omega
                case rel => exact ⟨k + 1, _, _, rfl, rfl, by omega, by rw [HM1.out]; exact HST.out.2.1, by rw [HM0.out]; exact HST.out.1, HST.out.2.2.1, HST.out.2.2.2⟩
              · rw [if_pos (by rfl)]
                go_simp
                have haA : wr.grownBy ((World.alloc wr (.cells #[.int .i64 z] 3)).drew) none := World.grownBy.trans (World.grownBy_alloc wr _ none) (⟨rfl, rfl, rfl, Nat.le_refl _, fun _ _ _ => rfl⟩ : (World.alloc wr (.cells #[.int .i64 z] 3)).grownBy ((World.alloc wr (.cells #[.int .i64 z] 3)).drew) none)
                have hnA : ∀ j u, [Value.int .i64 z][j]? = some u → ((World.alloc wr (.cells #[.int .i64 z] 3)).drew).cell? ((⟨wr.heap.size, 0, none⟩ : Addr).add j) = some u := cell_one_new wr _ _
                obtain ⟨WA, hWA⟩ : ∃ WA, (World.alloc wr (.cells #[.int .i64 z] 3)).drew = WA := ⟨_, rfl⟩
                rw [hWA] at haA hnA ⊢
                clear hWA
                have HBA := HHB.out.grown haA
                have hgA := World.grownBy.trans HWR.out haA
                refine hK.out _ _ (HS.out _ hgA) (fun hHeld => ?_)
                clear hK K
                try simp only [Act.put, List.setIfInBounds_toArray, List.set_cons_zero, List.set_cons_succ]
                refine wpAnyH_ready (rs := [1]) (by kernel_rfl) (by simp) ?_
                refine (AllReadyH.cons (o := { dst := some 65, op := Op.load 28 (Operand.tmp 64), type := 28, pos := "law.go:54", after := #[{ on := 0, ground := Ground.data }], guard := none }) rfl (fun K hK => ?_) AllReadyH.nil)
                rw [if_pos (by rfl)]
                have hrow := (HBA).row
                go_simp
                clear hrow
                refine hK.out _ _ (HS.out _ hgA) (fun hHeld => ?_)
                clear hK K
                try simp only [Act.put, List.setIfInBounds_toArray, List.set_cons_zero, List.set_cons_succ]
                refine wpAnyH_ready (rs := [8]) (by kernel_rfl) (by simp) ?_
                refine (AllReadyH.cons (o := { dst := some 72, op := Op.call { callee := Callee.builtin Builtin.append, args := #[Operand.tmp 65, Operand.tmp 71], argTypes := #[28, 28] }, type := 28, pos := "law.go:54", after := #[{ on := 1, ground := Ground.data }, { on := 7, ground := Ground.data }], guard := none }) rfl (fun K hK => ?_) AllReadyH.nil)
                refine ready_append_g 28 3 (.tmp 65) (.tmp 71) rfl rfl Try.underlying28 hi0 hz0 hz1 hz2 rfl (by decide) (by omega) (u + 2) _ _ (intCells _) rfl HBA.own ⟨wr.heap.size, 0, none⟩ [.int .i64 z] rfl rfl hnA (fun u hu => by simp at hu; subst hu; rfl) HL0.out (HBA.low.2) (fun v' w6 hown' hgrow6 hat6 => ?_)
                have hg6 := grown_own hgA hgrow6 (fun j hj => by have h1 := (HBA.own.lt j hj).1; have h2 := HBA.low.1; have h3 := HB0'.out; omega)
                obtain ⟨hs1, hs2⟩ := HHB.out.at_ haA hgrow6
                obtain ⟨rgA, rcA, rfl⟩ := own_shape hown'
                refine hK.out _ _ (HS.out _ hg6) (fun hHeld => ?_)
                clear hK K
                try simp only [Act.put, List.setIfInBounds_toArray, List.set_cons_zero, List.set_cons_succ]
                refine wpAnyH_take (i := 9) (oi := { dst := some 73, op := Op.fieldAddr 53 (Operand.tmp 11) 1, type := 0, pos := "law.go:54", after := #[{ on := 0, ground := Ground.phase }, { on := 1, ground := Ground.phase }, { on := 2, ground := Ground.phase }, { on := 3, ground := Ground.phase }, { on := 4, ground := Ground.phase }, { on := 5, ground := Ground.phase }, { on := 6, ground := Ground.phase }, { on := 7, ground := Ground.phase }, { on := 8, ground := Ground.phase }], guard := none }) (v := ?_) rfl (by kernel_rfl) (by kernel_rfl) (by kernel_rfl) (fun _ _ _ h => h) (Or.inl ⟨by rfl, ?_⟩) (by assumption) ?_
                rotate_left 1
                · (intro W hSW; (try dsimp only at hSW); first | (go_simp; done) | (go_simp; with_reducible rfl))
                try simp only [Act.put, List.setIfInBounds_toArray, List.set_cons_zero, List.set_cons_succ]
                refine wpAnyH_ready (rs := [10]) (by kernel_rfl) (by simp) ?_
                refine (AllReadyH.cons (o := { dst := none, op := Op.store 28 (Operand.tmp 73) (Operand.tmp 72), type := 0, pos := "law.go:54", after := #[{ on := 9, ground := Ground.data }, { on := 8, ground := Ground.data }, { on := 8, ground := Ground.chain }, { on := 0, ground := Ground.phase }, { on := 1, ground := Ground.phase }, { on := 2, ground := Ground.phase }, { on := 3, ground := Ground.phase }, { on := 4, ground := Ground.phase }, { on := 5, ground := Ground.phase }, { on := 6, ground := Ground.phase }, { on := 7, ground := Ground.phase }, { on := 8, ground := Ground.phase }], guard := none }) rfl (fun K hK => ?_) AllReadyH.nil)
                rw [if_pos (by rfl)]
                go_simp
                have hst := HHB.out.step haA hgrow6 hown'
                have hgs := HHB.out.grows2 hst HWR.out HB0'.out haA hgrow6
                refine hK.out _ _ (HS.out _ hgs) (fun hHeld => ?_)
                clear hK K
                try simp only [Act.put, List.setIfInBounds_toArray, List.set_cons_zero, List.set_cons_succ]
                refine wpAnyH_done (by kernel_rfl) ?_ _
                have hEND := hgs
                clear hHeld
                have hlo := HHB.out.other (v' := .slice rgA ((madeTo rw' L 0 k).length + 1) rcA) HLB.out (show u + 1 ≠ u by omega) (apart_symm HAP.out.1) haA hgrow6
                have hap2 := HHB.out.apart HLB.out (apart_symm HAP.out.1) haA hat6
                have HWH0 := hgs
                obtain ⟨wh, hwh⟩ : ∃ wh, World.setCell w6 ⟨u + 1, 1, none⟩ (.slice rgA ((madeTo rw' L 0 k).length + 1) rcA) = wh := ⟨_, rfl⟩
                rw [hwh] at hst hlo HWH0 ⊢
                clear hwh
                have HST := Lib.hid (And.intro hst (And.intro hlo (And.intro (apart_symm hap2) HWH0)))
                clear hst hlo hap2 HWH0 hgs hs1 hs2 hgrow6 hown' hat6 haA hnA HBA hgA hg6 hEND HS
                go_wp2_with fail
                go_roundg (q - (k + 1))
                case measure => rw [HAP.out.2]; omega
                case rel => exact ⟨k + 1, _, _, rfl, rfl, by omega, by rw [HM1.out]; exact HST.out.2.1, by rw [HM0.out]; exact HST.out.1, HST.out.2.2.1, HST.out.2.2.2⟩
          · have himB : decide (i < m) = false := decide_eq_false him
            have HP : Hid (pick rw' k = 1) := Lib.hid (by
              have : rw' = [] := by rw [← HRW.out, List.getD_eq_getElem?_getD, List.getElem?_eq_none (by rw [HH.out.2.2]; omega)]; rfl
              rw [pick, this]; rfl)
            have HM1 : Hid (madeTo rw' L 1 (k + 1) = madeTo rw' L 1 k) := Lib.hid (madeTo_no (by rw [HP.out]; omega))
            have HM0 : Hid (madeTo rw' L 0 (k + 1) = madeTo rw' L 0 k ++ [z]) := Lib.hid (madeTo_yes HZ.out (by rw [HP.out]; omega))
            go_wp2_with fail
            have HS := Lib.hid (fun (Wh : World) (hWh : U.grownBy Wh none) => (⟨hWh, hWh.cell huc.2.1 (by simp), hWh.cell huc.2.2.1 (by simp), hWh.cell hcell0 (by simp)⟩ : (fun Wh : World => U.grownBy Wh none ∧ Wh.cell? ⟨wo.heap.size, 0, none⟩ = some (.int .i64 K) ∧ Wh.cell? ⟨wo.heap.size, 1, none⟩ = some (.slice (some ⟨tb, to, none⟩) q yk2) ∧ Wh.cell? ⟨tb, to + k, none⟩ = some (.int .i64 z)) Wh))
            have hdr : U.grownBy wr.drew none := World.grownBy.trans HWR.out (⟨rfl, rfl, rfl, Nat.le_refl _, fun _ _ _ => rfl⟩ : wr.grownBy wr.drew none)
            refine wp_region_held_drew (S := (fun Wh : World => U.grownBy Wh none ∧ Wh.cell? ⟨wo.heap.size, 0, none⟩ = some (.int .i64 K) ∧ Wh.cell? ⟨wo.heap.size, 1, none⟩ = some (.slice (some ⟨tb, to, none⟩) q yk2) ∧ Wh.cell? ⟨tb, to + k, none⟩ = some (.int .i64 z))) (by kernel_rfl) (HS.out _ hdr) (fun hHeld => ?_)
            refine wpAnyH_take (i := 0) (oi := { dst := some 64, op := Op.fieldAddr 53 (Operand.tmp 11) 1, type := 0, pos := "law.go:54", after := #[], guard := none }) (v := ?_) rfl (by kernel_rfl) (by kernel_rfl) (by kernel_rfl) (fun _ _ _ h => h) (Or.inl ⟨by rfl, ?_⟩) (by assumption) ?_
            rotate_left 1
            · (intro W hSW; (try dsimp only at hSW); first | (go_simp; done) | (go_simp; with_reducible rfl))
            try simp only [Act.put, List.setIfInBounds_toArray, List.set_cons_zero, List.set_cons_succ]
            refine wpAnyH_take (i := 2) (oi := { dst := some 66, op := Op.fieldAddr 53 (Operand.tmp 9) 1, type := 0, pos := "law.go:54", after := #[], guard := none }) (v := ?_) rfl (by kernel_rfl) (by kernel_rfl) (by kernel_rfl) (fun _ _ _ h => h) (Or.inl ⟨by rfl, ?_⟩) (by assumption) ?_
            rotate_left 1
            · (intro W hSW; (try dsimp only at hSW); first | (go_simp; done) | (go_simp; with_reducible rfl))
            try simp only [Act.put, List.setIfInBounds_toArray, List.set_cons_zero, List.set_cons_succ]
            refine wpAnyH_take (i := 3) (oi := { dst := some 67, op := Op.load 28 (Operand.tmp 66), type := 28, pos := "law.go:54", after := #[{ on := 2, ground := Ground.data }], guard := none }) (v := ?_) rfl (by kernel_rfl) (by kernel_rfl) (by kernel_rfl) (fun _ _ _ h => h) (Or.inl ⟨by rfl, ?_⟩) (by assumption) ?_
            rotate_left 1
            · (intro W hSW; (try dsimp only at hSW); first | (go_simp; done) | (go_simp; with_reducible rfl))
            try simp only [Act.put, List.setIfInBounds_toArray, List.set_cons_zero, List.set_cons_succ]
            refine wpAnyH_take (i := 4) (oi := { dst := some 68, op := Op.move (Operand.tmp 12), type := 3, pos := "law.go:54", after := #[], guard := none }) (v := ?_) rfl (by kernel_rfl) (by kernel_rfl) (by kernel_rfl) (fun _ _ _ h => h) (Or.inl ⟨by rfl, ?_⟩) (by assumption) ?_
            rotate_left 1
            · (intro W hSW; (try dsimp only at hSW); first | (go_simp; done) | (go_simp; with_reducible rfl))
            try simp only [Act.put, List.setIfInBounds_toArray, List.set_cons_zero, List.set_cons_succ]
            refine wpAnyH_take (i := 5) (oi := { dst := some 69, op := Op.indexAddr 28 (Operand.tmp 67) (Operand.tmp 68), type := 0, pos := "law.go:54", after := #[{ on := 3, ground := Ground.data }, { on := 4, ground := Ground.data }], guard := none }) (v := ?_) rfl (by kernel_rfl) (by kernel_rfl) (by kernel_rfl) (fun _ _ _ h => h) (Or.inl ⟨by rfl, ?_⟩) (by assumption) ?_
            rotate_left 1
            · (intro W hSW; (try dsimp only at hSW); first | (go_simp; done) | (go_simp; with_reducible rfl))
            try simp only [Act.put, List.setIfInBounds_toArray, List.set_cons_zero, List.set_cons_succ]
            refine wpAnyH_take (i := 6) (oi := { dst := some 70, op := Op.load 3 (Operand.tmp 69), type := 3, pos := "law.go:54", after := #[{ on := 5, ground := Ground.data }], guard := none }) (v := ?_) rfl (by kernel_rfl) (by kernel_rfl) (by kernel_rfl) (fun _ _ _ h => h) (Or.inl ⟨by rfl, ?_⟩) (by assumption) ?_
            rotate_left 1
            · (intro W hSW; (try dsimp only at hSW); first | (go_simp; done) | (go_simp; with_reducible rfl))
            try simp only [Act.put, List.setIfInBounds_toArray, List.set_cons_zero, List.set_cons_succ]
            refine wpAnyH_ready (rs := [1, 7]) (by kernel_rfl) (by simp) ?_
            refine (AllReadyH.cons (o := { dst := some 65, op := Op.load 28 (Operand.tmp 64), type := 28, pos := "law.go:54", after := #[{ on := 0, ground := Ground.data }], guard := none }) rfl (fun K hK => ?_) (AllReadyH.cons (o := { dst := some 71, op := Op.buildSlice 28 1 #[(0, Operand.tmp 70)], type := 28, pos := "law.go:54", after := #[{ on := 6, ground := Ground.data }], guard := none }) rfl (fun K hK => ?_) AllReadyH.nil))
            · rw [if_pos (by rfl)]
              have hrow := (HHB.out).row
              go_simp
              clear hrow
              refine hK.out _ _ (HS.out _ hdr) (fun hHeld => ?_)
              clear hK K
              try simp only [Act.put, List.setIfInBounds_toArray, List.set_cons_zero, List.set_cons_succ]
              refine wpAnyH_ready (rs := [7]) (by kernel_rfl) (by simp) ?_
              refine (AllReadyH.cons (o := { dst := some 71, op := Op.buildSlice 28 1 #[(0, Operand.tmp 70)], type := 28, pos := "law.go:54", after := #[{ on := 6, ground := Ground.data }], guard := none }) rfl (fun K hK => ?_) AllReadyH.nil)
              rw [if_pos (by rfl)]
              go_simp
              have haA : wr.grownBy ((World.alloc wr (.cells #[.int .i64 z] 3)).drew) none := World.grownBy.trans (World.grownBy_alloc wr _ none) (⟨rfl, rfl, rfl, Nat.le_refl _, fun _ _ _ => rfl⟩ : (World.alloc wr (.cells #[.int .i64 z] 3)).grownBy ((World.alloc wr (.cells #[.int .i64 z] 3)).drew) none)
              have hnA : ∀ j u, [Value.int .i64 z][j]? = some u → ((World.alloc wr (.cells #[.int .i64 z] 3)).drew).cell? ((⟨wr.heap.size, 0, none⟩ : Addr).add j) = some u := cell_one_new wr _ _
              obtain ⟨WA, hWA⟩ : ∃ WA, (World.alloc wr (.cells #[.int .i64 z] 3)).drew = WA := ⟨_, rfl⟩
              rw [hWA] at haA hnA ⊢
              clear hWA
              have HBA := HHB.out.grown haA
              have hgA := World.grownBy.trans HWR.out haA
              refine hK.out _ _ (HS.out _ hgA) (fun hHeld => ?_)
              clear hK K
              try simp only [Act.put, List.setIfInBounds_toArray, List.set_cons_zero, List.set_cons_succ]
              refine wpAnyH_ready (rs := [8]) (by kernel_rfl) (by simp) ?_
              refine (AllReadyH.cons (o := { dst := some 72, op := Op.call { callee := Callee.builtin Builtin.append, args := #[Operand.tmp 65, Operand.tmp 71], argTypes := #[28, 28] }, type := 28, pos := "law.go:54", after := #[{ on := 1, ground := Ground.data }, { on := 7, ground := Ground.data }], guard := none }) rfl (fun K hK => ?_) AllReadyH.nil)
              refine ready_append_g 28 3 (.tmp 65) (.tmp 71) rfl rfl Try.underlying28 hi0 hz0 hz1 hz2 rfl (by decide) (by omega) (u + 2) _ _ (intCells _) rfl HBA.own ⟨wr.heap.size, 0, none⟩ [.int .i64 z] rfl rfl hnA (fun u hu => by simp at hu; subst hu; rfl) HL0.out (HBA.low.2) (fun v' w6 hown' hgrow6 hat6 => ?_)
              have hg6 := grown_own hgA hgrow6 (fun j hj => by have h1 := (HBA.own.lt j hj).1; have h2 := HBA.low.1; have h3 := HB0'.out; omega)
              obtain ⟨hs1, hs2⟩ := HHB.out.at_ haA hgrow6
              obtain ⟨rgA, rcA, rfl⟩ := own_shape hown'
              refine hK.out _ _ (HS.out _ hg6) (fun hHeld => ?_)
              clear hK K
              try simp only [Act.put, List.setIfInBounds_toArray, List.set_cons_zero, List.set_cons_succ]
              refine wpAnyH_take (i := 9) (oi := { dst := some 73, op := Op.fieldAddr 53 (Operand.tmp 11) 1, type := 0, pos := "law.go:54", after := #[{ on := 0, ground := Ground.phase }, { on := 1, ground := Ground.phase }, { on := 2, ground := Ground.phase }, { on := 3, ground := Ground.phase }, { on := 4, ground := Ground.phase }, { on := 5, ground := Ground.phase }, { on := 6, ground := Ground.phase }, { on := 7, ground := Ground.phase }, { on := 8, ground := Ground.phase }], guard := none }) (v := ?_) rfl (by kernel_rfl) (by kernel_rfl) (by kernel_rfl) (fun _ _ _ h => h) (Or.inl ⟨by rfl, ?_⟩) (by assumption) ?_
              rotate_left 1
              · (intro W hSW; (try dsimp only at hSW); first | (go_simp; done) | (go_simp; with_reducible rfl))
              try simp only [Act.put, List.setIfInBounds_toArray, List.set_cons_zero, List.set_cons_succ]
              refine wpAnyH_ready (rs := [10]) (by kernel_rfl) (by simp) ?_
              refine (AllReadyH.cons (o := { dst := none, op := Op.store 28 (Operand.tmp 73) (Operand.tmp 72), type := 0, pos := "law.go:54", after := #[{ on := 9, ground := Ground.data }, { on := 8, ground := Ground.data }, { on := 8, ground := Ground.chain }, { on := 0, ground := Ground.phase }, { on := 1, ground := Ground.phase }, { on := 2, ground := Ground.phase }, { on := 3, ground := Ground.phase }, { on := 4, ground := Ground.phase }, { on := 5, ground := Ground.phase }, { on := 6, ground := Ground.phase }, { on := 7, ground := Ground.phase }, { on := 8, ground := Ground.phase }], guard := none }) rfl (fun K hK => ?_) AllReadyH.nil)
              rw [if_pos (by rfl)]
              go_simp
              have hst := HHB.out.step haA hgrow6 hown'
              have hgs := HHB.out.grows2 hst HWR.out HB0'.out haA hgrow6
              refine hK.out _ _ (HS.out _ hgs) (fun hHeld => ?_)
              clear hK K
              try simp only [Act.put, List.setIfInBounds_toArray, List.set_cons_zero, List.set_cons_succ]
              refine wpAnyH_done (by kernel_rfl) ?_ _
              have hEND := hgs
              clear hHeld
              have hlo := HHB.out.other (v' := .slice rgA ((madeTo rw' L 0 k).length + 1) rcA) HLB.out (show u + 1 ≠ u by omega) (apart_symm HAP.out.1) haA hgrow6
              have hap2 := HHB.out.apart HLB.out (apart_symm HAP.out.1) haA hat6
              have HWH0 := hgs
              obtain ⟨wh, hwh⟩ : ∃ wh, World.setCell w6 ⟨u + 1, 1, none⟩ (.slice rgA ((madeTo rw' L 0 k).length + 1) rcA) = wh := ⟨_, rfl⟩
              rw [hwh] at hst hlo HWH0 ⊢
              clear hwh
              have HST := Lib.hid (And.intro hst (And.intro hlo (And.intro (apart_symm hap2) HWH0)))
              clear hst hlo hap2 HWH0 hgs hs1 hs2 hgrow6 hown' hat6 haA hnA HBA hgA hg6 hEND HS
              go_wp2_with fail
              go_roundg (q - (k + 1))
              case measure => rw [HAP.out.2]; omega
              case rel => exact ⟨k + 1, _, _, rfl, rfl, by omega, by rw [HM1.out]; exact HST.out.2.1, by rw [HM0.out]; exact HST.out.1, HST.out.2.2.1, HST.out.2.2.2⟩
            · rw [if_pos (by rfl)]
              go_simp
              have haA : wr.grownBy ((World.alloc wr (.cells #[.int .i64 z] 3)).drew) none := World.grownBy.trans (World.grownBy_alloc wr _ none) (⟨rfl, rfl, rfl, Nat.le_refl _, fun _ _ _ => rfl⟩ : (World.alloc wr (.cells #[.int .i64 z] 3)).grownBy ((World.alloc wr (.cells #[.int .i64 z] 3)).drew) none)
              have hnA : ∀ j u, [Value.int .i64 z][j]? = some u → ((World.alloc wr (.cells #[.int .i64 z] 3)).drew).cell? ((⟨wr.heap.size, 0, none⟩ : Addr).add j) = some u := cell_one_new wr _ _
              obtain ⟨WA, hWA⟩ : ∃ WA, (World.alloc wr (.cells #[.int .i64 z] 3)).drew = WA := ⟨_, rfl⟩
              rw [hWA] at haA hnA ⊢
              clear hWA
              have HBA := HHB.out.grown haA
              have hgA := World.grownBy.trans HWR.out haA
              refine hK.out _ _ (HS.out _ hgA) (fun hHeld => ?_)
              clear hK K
              try simp only [Act.put, List.setIfInBounds_toArray, List.set_cons_zero, List.set_cons_succ]
              refine wpAnyH_ready (rs := [1]) (by kernel_rfl) (by simp) ?_
              refine (AllReadyH.cons (o := { dst := some 65, op := Op.load 28 (Operand.tmp 64), type := 28, pos := "law.go:54", after := #[{ on := 0, ground := Ground.data }], guard := none }) rfl (fun K hK => ?_) AllReadyH.nil)
              rw [if_pos (by rfl)]
              have hrow := (HBA).row
              go_simp
              clear hrow
              refine hK.out _ _ (HS.out _ hgA) (fun hHeld => ?_)
              clear hK K
              try simp only [Act.put, List.setIfInBounds_toArray, List.set_cons_zero, List.set_cons_succ]
              refine wpAnyH_ready (rs := [8]) (by kernel_rfl) (by simp) ?_
              refine (AllReadyH.cons (o := { dst := some 72, op := Op.call { callee := Callee.builtin Builtin.append, args := #[Operand.tmp 65, Operand.tmp 71], argTypes := #[28, 28] }, type := 28, pos := "law.go:54", after := #[{ on := 1, ground := Ground.data }, { on := 7, ground := Ground.data }], guard := none }) rfl (fun K hK => ?_) AllReadyH.nil)
              refine ready_append_g 28 3 (.tmp 65) (.tmp 71) rfl rfl Try.underlying28 hi0 hz0 hz1 hz2 rfl (by decide) (by omega) (u + 2) _ _ (intCells _) rfl HBA.own ⟨wr.heap.size, 0, none⟩ [.int .i64 z] rfl rfl hnA (fun u hu => by simp at hu; subst hu; rfl) HL0.out (HBA.low.2) (fun v' w6 hown' hgrow6 hat6 => ?_)
              have hg6 := grown_own hgA hgrow6 (fun j hj => by have h1 := (HBA.own.lt j hj).1; have h2 := HBA.low.1; have h3 := HB0'.out; omega)
              obtain ⟨hs1, hs2⟩ := HHB.out.at_ haA hgrow6
              obtain ⟨rgA, rcA, rfl⟩ := own_shape hown'
              refine hK.out _ _ (HS.out _ hg6) (fun hHeld => ?_)
              clear hK K
              try simp only [Act.put, List.setIfInBounds_toArray, List.set_cons_zero, List.set_cons_succ]
              refine wpAnyH_take (i := 9) (oi := { dst := some 73, op := Op.fieldAddr 53 (Operand.tmp 11) 1, type := 0, pos := "law.go:54", after := #[{ on := 0, ground := Ground.phase }, { on := 1, ground := Ground.phase }, { on := 2, ground := Ground.phase }, { on := 3, ground := Ground.phase }, { on := 4, ground := Ground.phase }, { on := 5, ground := Ground.phase }, { on := 6, ground := Ground.phase }, { on := 7, ground := Ground.phase }, { on := 8, ground := Ground.phase }], guard := none }) (v := ?_) rfl (by kernel_rfl) (by kernel_rfl) (by kernel_rfl) (fun _ _ _ h => h) (Or.inl ⟨by rfl, ?_⟩) (by assumption) ?_
              rotate_left 1
              · (intro W hSW; (try dsimp only at hSW); first | (go_simp; done) | (go_simp; with_reducible rfl))
              try simp only [Act.put, List.setIfInBounds_toArray, List.set_cons_zero, List.set_cons_succ]
              refine wpAnyH_ready (rs := [10]) (by kernel_rfl) (by simp) ?_
              refine (AllReadyH.cons (o := { dst := none, op := Op.store 28 (Operand.tmp 73) (Operand.tmp 72), type := 0, pos := "law.go:54", after := #[{ on := 9, ground := Ground.data }, { on := 8, ground := Ground.data }, { on := 8, ground := Ground.chain }, { on := 0, ground := Ground.phase }, { on := 1, ground := Ground.phase }, { on := 2, ground := Ground.phase }, { on := 3, ground := Ground.phase }, { on := 4, ground := Ground.phase }, { on := 5, ground := Ground.phase }, { on := 6, ground := Ground.phase }, { on := 7, ground := Ground.phase }, { on := 8, ground := Ground.phase }], guard := none }) rfl (fun K hK => ?_) AllReadyH.nil)
              rw [if_pos (by rfl)]
              go_simp
              have hst := HHB.out.step haA hgrow6 hown'
              have hgs := HHB.out.grows2 hst HWR.out HB0'.out haA hgrow6
              refine hK.out _ _ (HS.out _ hgs) (fun hHeld => ?_)
              clear hK K
              try simp only [Act.put, List.setIfInBounds_toArray, List.set_cons_zero, List.set_cons_succ]
              refine wpAnyH_done (by kernel_rfl) ?_ _
              have hEND := hgs
              clear hHeld
              have hlo := HHB.out.other (v' := .slice rgA ((madeTo rw' L 0 k).length + 1) rcA) HLB.out (show u + 1 ≠ u by omega) (apart_symm HAP.out.1) haA hgrow6
              have hap2 := HHB.out.apart HLB.out (apart_symm HAP.out.1) haA hat6
              have HWH0 := hgs
              obtain ⟨wh, hwh⟩ : ∃ wh, World.setCell w6 ⟨u + 1, 1, none⟩ (.slice rgA ((madeTo rw' L 0 k).length + 1) rcA) = wh := ⟨_, rfl⟩
              rw [hwh] at hst hlo HWH0 ⊢
              clear hwh
              have HST := Lib.hid (And.intro hst (And.intro hlo (And.intro (apart_symm hap2) HWH0)))
              clear hst hlo hap2 HWH0 hgs hs1 hs2 hgrow6 hown' hat6 haA hnA HBA hgA hg6 hEND HS
              go_wp2_with fail
              go_roundg (q - (k + 1))
              case measure => rw [HAP.out.2]; omega
              case rel => exact ⟨k + 1, _, _, rfl, rfl, by omega, by rw [HM1.out]; exact HST.out.2.1, by rw [HM0.out]; exact HST.out.1, HST.out.2.2.1, HST.out.2.2.2⟩
        · have hke : k = q := by omega
          subst hke
          have hkB : decide (k < k) = false := by simp
          clear hgu
          obtain ⟨ln, hln⟩ : ∃ n, (madeTo rw' L 1 k).length = n := ⟨_, rfl⟩
          obtain ⟨hn', hhn⟩ : ∃ n, (madeTo rw' L 0 k).length = n := ⟨_, rfl⟩
          have r0 := HLB.out.c0
          have r1 := HLB.out.row
          have r2 := HHB.out.c0
          have r3 := HHB.out.row
          rw [hln] at r1
          rw [hhn] at r3
          have hgw := huc.1.trans HWR.out
          have HO2 := Lib.hid (Out.quiet HOO.out.1 hgw (fun x e => by cases e))
          have y0 := hgw.cell HY.out.1 (by simp)
          have y1 := hgw.cell HY.out.2.1 (by simp)
          have y2 := hgw.cell HY.out.2.2.1 (by simp)
          have y3 := hgw.cell HY.out.2.2.2.1 (by simp)
          have hown2 := HO2.out.own
          rw [HOO.out.2.2.2.1] at hown2
          have f0 := hown2.frozenAt (i * 4)
          have f1 := hown2.frozenAt (i * 4 + 1)
          have f2 := hown2.frozenAt (i * 4 + 2)
          have f3 := hown2.frozenAt (i * 4 + 3)
          obtain ⟨la', lc', he1, hsl⟩ := HLB.out.ints
          injection he1 with e1 e2 e3
          subst e1 e3
          clear e2
          obtain ⟨ha', hc', he2, hsh⟩ := HHB.out.ints
          injection he2 with e4 e5 e6
          subst e4 e6
          clear e5
          have hbo := span_both (hsl.map (Q := fun W => IntsW W la lc (madeTo rw' L 1 k)) fun W h => h.weak) (hsh.map (Q := fun W => IntsW W ha hc (madeTo rw' L 0 k)) fun W h => h.weak)
          have hgl := HGB.out
          have hset := OutB.set (i := i) (d' := (((K, madeTo rw' L 1 k), (K, madeTo rw' L 0 k)), (la, lc), (ha, hc))) HO2.out (by rw [HOO.out.2.2.2.1]; exact hin) hbo (by have := HUZ.out; omega) (.inl (by have := HUZ.out; omega))
          simp only [hln, hhn] at hset
          have HSET := Lib.hid (And.intro hset (HOO.out.2.2.1.trans hgw))
          have HLN := Lib.hid (And.intro hln hhn)
          clear hset hbo hsl hsh hown2 hgw hln hhn h0len h1len
          go_wp2_with fail
          clear b0 b1 y0 y1 y2 y3 f0 f1 f2 f3 r0 r1 r2 r3
          go_roundg (n - (i + 1))
          case measure => rw [HOO.out.2.2.2.2]; omega
          case rel =>
            refine ⟨i + 1, _, rfl, rfl, by omega, HSET.out.1.1, ?_, ?_⟩
            · rw [List.map_set, HOO.out.2.1, madeUp_succ HX.out.1, HRW.out, HX.out.2.1, HX.out.2.2.1, madeB, HX.out.2.2.2]
            · exact grown_own HSET.out.2 HSET.out.1.2 (fun j hj => by cases hj; exact HGB.out.1)
    · have hie : i = n := by omega
      subst hie
      have hinB : decide (i < i) = false := by simp
      obtain ⟨a2, c2, hv, hsp⟩ := OutB.bds hO
      rw [List.length_map, hDl] at hv
      injection hv with h1 h2 h3
      subst h1 h3
      clear h2
      rw [hD, madeUp_all raw DB (by rw [HDL.out]; exact Nat.le_refl _)] at hsp
      have HSP := Lib.hid (And.intro hsp hgr); clear hsp hgr hO hD hgi hDl
      go_wp2_with fail
      go_ret
      exact ⟨ga, gc, rfl, HSP.out.1, HSP.out.2⟩
end Go.Proofs.Ytbddpjofhddilaa

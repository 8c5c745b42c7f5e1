/- The law UniverseNumbering, walked, but for what it begins with (the examples: the parameter). -/
import Derived.Test.YtagfkapgjdaiaaaDoorG
import Derived.Deep.RegionHeld3
namespace Go.Proofs.YtagfkapgjdaiaaaDoor
open Go.RowKit

theorem held_next2 {wr W W' : World} {a b : Addr} {x y : Value} (g : W.grownBy W' none) (h1 : wr.grownBy W none) (h2 : W.cell? a = some x) (h3 : W.cell? b = some y) :
    wr.grownBy W' none ∧ W'.cell? a = some x ∧ W'.cell? b = some y :=
  ⟨h1.trans g, g.cell h2 (by simp), g.cell h3 (by simp)⟩
/-- What the examples answer. -/
def HeadSays : Prop := ∀ w : World, Calls Tryd.prog 9 #[] w fun e w' => e = .returned (.bool true) ∧ w.grownBy w' none

set_option maxRecDepth 100000 in
set_option maxHeartbeats 4000000 in
theorem numbering_calls (hh : HeadSays) (raw : List Nat) (ra : Option Addr) (rc : Nat) (w : World) (h : Bytes w ra rc raw) (hl : (raw.length : Int) ≤ 9223372036854775807) :
    Calls Tryd.prog 4 #[.slice ra raw.length rc] w fun e w' => e = .returned (.bool true) ∧ w.grownBy w' none := by
  have HR := Lib.hid (And.intro h hl); clear h
  go_enter Tryd.func4, Tryd.ntmps4
  go_wp2_with fail
  refine (hh w).mono ?_
  rintro e w1 ⟨rfl, g1⟩
  go_wp2_with fail
  refine (scope_calls raw ra rc 0 w1 (HR.out.1.grown g1) HR.out.2 (by omega)).mono ?_
  rintro e w2 ⟨a, c, rfl, hnums, g2⟩
  have hb := sizes_bound raw 4 12
  obtain ⟨l, hle⟩ : ∃ l, scopeL raw = l := ⟨_, rfl⟩
  rw [show sizes raw 4 12 = l from hle] at hb
  rw [hle] at hnums ⊢
  clear hle hl
  have HSC := Lib.hid (ScV.start (T := 1) hnums (g1.trans g2))
  have HL : Hid ((∀ z ∈ l, z ≤ 5) ∧ l.length ≤ 4 ∧ sum l ≤ 12 ∧ ∀ z ∈ l, 1 ≤ z) := Lib.hid ⟨fun z hz => (hb.2.2 z hz).2, hb.1, hb.2.1, fun z hz => (hb.2.2 z hz).1⟩
  clear hnums g1 g2 hb
  go_wp2_with fail
  obtain ⟨g, hg⟩ : ∃ g, w2.heap.size = g := ⟨_, rfl⟩
  rw [hg] at HSC ⊢
  have hw3 : Hid (ScV w (w2.alloc (.cells #[.slice a l.length c, .int .i64 1] 30)) g a c 1 l) := HSC
  obtain ⟨w3, hw⟩ : ∃ w3, w2.alloc (.cells #[.slice a l.length c, .int .i64 1] 30) = w3 := ⟨_, rfl⟩
  rw [hw] at hw3 ⊢
  clear hw hg HSC
  have HSC := hw3; clear hw3
  obtain ⟨N, hN⟩ : ∃ N, sum l = N := ⟨_, rfl⟩
  have hN12 : N ≤ 12 := by have := HL.out.2.2.1; omega
  have HN := Lib.hid hN; clear hN
  obtain ⟨n, hn⟩ : ∃ n, l.length = n := ⟨_, rfl⟩
  have hn4 : n ≤ 4 := by have := HL.out.2.1; omega
  have HLN := Lib.hid hn; clear hn
  refine (atoms_calls l a c 1 w3 HSC.out.nums HL.out.1 HL.out.2.1).mono ?_
  rintro e w4 ⟨rfl, g4⟩
  rw [HN.out]
  have HS4 := Lib.hid (HSC.out.go g4); clear g4 HSC
  obtain ⟨c0, c1, _, _⟩ := HS4.out
  rw [HLN.out] at c0
  have dN : decide (12 < N) = false := by simp; omega
  have dN' : decide ((12 : Int) < (N : Int)) = false := by simp; omega
  have dN0 : decide ((N : Int) < 0) = false := by simp
  go_wp2_with fail
  have e0 : ((sum (l.take 0) : Nat) : Int) = 0 := by simp [sum]
  have hf := first_calls l a c 1 w4 HS4.out.nums HL.out.1 HL.out.2.1 0 (Nat.zero_le _)
  rw [HLN.out] at hf
  refine hf.mono ?_
  clear hf
  rintro e w5 ⟨rfl, g5⟩
  rw [e0]
  have HS5 := Lib.hid (HS4.out.go g5); clear g5 HS4 c0 c1
  obtain ⟨c0, c1, _, _⟩ := HS5.out
  rw [HLN.out] at c0
  go_wp2_with fail
  have hf := first_calls l a c 1 w5 HS5.out.nums HL.out.1 HL.out.2.1 l.length (Nat.le_refl _)
  rw [List.take_length, HN.out, HLN.out] at hf
  refine hf.mono ?_
  clear hf
  rintro e w6 ⟨rfl, g6⟩
  have HS6 := Lib.hid (HS5.out.go g6); clear g6 HS5 c0 c1
  obtain ⟨c0, c1, _, _⟩ := HS6.out
  rw [HLN.out] at c0
  go_wp2_with fail
  have hf := sort_calls l a c 1 (-1) w6 HS6.out.nums HL.out.1 HL.out.2.1
  rw [HLN.out, sortI_out (.inl (by omega))] at hf
  refine hf.mono ?_
  clear hf
  rintro e w7 ⟨rfl, g7⟩
  have HS7 := Lib.hid (HS6.out.go g7); clear g7 HS6 c0 c1
  obtain ⟨c0, c1, _, _⟩ := HS7.out
  rw [HLN.out] at c0
  go_wp2_with fail
  have hf := sort_calls l a c 1 (N : Int) w7 HS7.out.nums HL.out.1 HL.out.2.1
  rw [HLN.out, sortI_out (.inr (by rw [HN.out]; omega))] at hf
  refine hf.mono ?_
  clear hf
  rintro e w8 ⟨rfl, g8⟩
  have HS8 := Lib.hid (HS7.out.go g8); clear g8 HS7 c0 c1 e0
  go_wp2_with fail
  go_loopg [6, 7, 8] n (fun gk s6 s7 s8 wr => ∃ i : Nat, s6 = .int .i64 (i : Int) ∧ gk = n - i ∧ i ≤ n ∧ ScV w wr g a c 1 l)
  case atStart => exact ⟨0, rfl, rfl, Nat.zero_le _, HS8.out⟩
  case round =>
    obtain ⟨i, rfl, hgi, hi, hsv⟩ := hrel
    clear HS8
    have HGI := Lib.hid hgi; clear hgi
    have HSV := Lib.hid hsv; clear hsv
    obtain ⟨c0, c1, _, _⟩ := HSV.out
    rw [HLN.out] at c0
    by_cases hin : i < n
    · have hinB : decide (i < n) = true := by simpa using hin
      have hinI : (i : Int) < (n : Int) := by omega
      have hln := HLN.out
      obtain ⟨z, hz⟩ : ∃ z, l[i]? = some z := ⟨_, List.getElem?_eq_getElem (by omega)⟩
      have hhi := sum_take_succ hz
      have hhN := sum_take_mono l (i := i + 1) (j := l.length) (by omega)
      rw [List.take_length, HN.out] at hhN
      obtain ⟨lo, hlo⟩ : ∃ lo, sum (l.take i) = lo := ⟨_, rfl⟩
      obtain ⟨hiS, hhS⟩ : ∃ hi, sum (l.take (i + 1)) = hi := ⟨_, rfl⟩
      rw [hlo, hhS] at hhi
      rw [hhS] at hhN
      have HLO := Lib.hid (And.intro hlo (And.intro hhS (And.intro hhi hz))); clear hlo hhS hhi hz hln
      go_wp2_with fail
      go_loopg [7, 8] N (fun gk s7 s8 wx => ∃ (x m : Nat), s8 = .int .i64 (x : Int) ∧ s7 = .int .i64 (m : Int) ∧ gk = N - x ∧ x ≤ N ∧ m = min x hiS - lo ∧ ScV w wx g a c 1 l)
      case atStart => exact ⟨0, 0, rfl, rfl, rfl, Nat.zero_le _, by omega, HSV.out⟩
      case round =>
        obtain ⟨x, m, rfl, rfl, hgx, hx, hm, hsx⟩ := hrel
        clear HSV c0 c1
        have hm12 : m ≤ 12 := by omega
        have HGX := Lib.hid (And.intro hgx hm); clear hgx hm
        have HSX := Lib.hid hsx; clear hsx
        obtain ⟨c0, c1, _, _⟩ := HSX.out
        rw [HLN.out] at c0
        by_cases hxN : x < N
        · have hxB : decide (x < N) = true := by simpa using hxN
          go_wp2_with fail
          have hf := sort_calls l a c 1 (x : Int) _ HSX.out.nums HL.out.1 HL.out.2.1
          rw [HLN.out] at hf
          refine hf.mono ?_
          clear hf
          rintro e y1 ⟨rfl, k1⟩
          have HY1 := Lib.hid (HSX.out.go k1); clear k1 HSX c0 c1
          obtain ⟨c0, c1, _, _⟩ := HY1.out
          rw [HLN.out] at c0
          have hiff := sortI_is (l := l) (x := (x : Int)) (i := i) (by omega) (by rw [HN.out]; omega)
          rw [HLO.out.1, HLO.out.2.1] at hiff
          by_cases hs : sortI l (x : Int) = (i : Int)
          · obtain ⟨h1, h2⟩ := hiff.1 hs
            rw [hs]
            clear hiff hs
            have d1 : decide ((x : Int) < (lo : Int)) = false := by simp; omega
            have d1' : decide (x < lo) = false := by simp; omega
            have d2 : decide ((hiS : Int) ≤ (x : Int)) = false := by simp; omega
            have d2' : decide (hiS ≤ x) = false := by simp; omega
            go_wp2_with fail
            have hf := first_calls l a c 1 y1 HY1.out.nums HL.out.1 HL.out.2.1 i (by rw [HLN.out]; omega)
            rw [HLN.out, HLO.out.1] at hf
            refine hf.mono ?_
            clear hf
            rintro e y2 ⟨rfl, k2⟩
            have HY2 := Lib.hid (HY1.out.go k2); clear k2 HY1 c0 c1
            obtain ⟨c0, c1, _, _⟩ := HY2.out
            rw [HLN.out] at c0
            go_wp2_with fail
            have hf := first_calls l a c 1 y2 HY2.out.nums HL.out.1 HL.out.2.1 (i + 1) (by rw [HLN.out]; omega)
            rw [HLN.out, HLO.out.2.1] at hf
            refine hf.mono ?_
            clear hf
            rintro e y3 ⟨rfl, k3⟩
            have HY3 := Lib.hid (HY2.out.go k3); clear k3 HY2 c0 c1
            go_wp2_with fail
            go_roundg (N - (x + 1))
            case measure => rw [HGX.out.1]; omega
            case rel => exact ⟨x + 1, m + 1, rfl, rfl, rfl, by omega, by have := HGX.out.2; omega, HY3.out⟩
          · have hno : ¬ ((lo : Int) ≤ (x : Int) ∧ (x : Int) < (hiS : Int)) := fun h => hs (hiff.2 h)
            have dq : (sortI l (x : Int) == (i : Int)) = false := by simpa using hs
            have dq' : decide (sortI l (x : Int) = (i : Int)) = false := by simpa using hs
            have HNO : Hid (min (x + 1) hiS - lo = min x hiS - lo) := Lib.hid (by omega)
            clear hno hiff
            go_wp2_with fail
            go_roundg (N - (x + 1))
            case measure => rw [HGX.out.1]; omega
            case rel => exact ⟨x + 1, m, rfl, rfl, rfl, by omega, by rw [HNO.out]; exact HGX.out.2, HY1.out⟩
        · have hxe : x = N := by omega
          subst hxe
          have hxB : decide (x < x) = false := by simp
          have hmz : m = z := by have h1 := HGX.out.2; have h2 := HLO.out.2.2.1; omega
          subst hmz
          obtain ⟨bb, oo, ha, hcell⟩ : ∃ b o, a = some ⟨b, o, none⟩ ∧ wr.cell? ⟨b, o + i, none⟩ = some (.int .i64 (m : Int)) := by
            have hz := HLO.out.2.2.2
            obtain ⟨_, ⟨h, _⟩ | ⟨b, o, ha, _, hc⟩⟩ := HSX.out.nums
            · rw [h] at hz; simp at hz
            · exact ⟨b, o, ha, hc i m hz⟩
          subst ha
          go_wp2_with fail
          go_roundg (n - (i + 1))
          case measure => rw [HGI.out]; omega
          case rel => exact ⟨i + 1, rfl, rfl, by omega, HSX.out⟩
    · have hie : i = n := by omega
      subst hie
      have hinB : decide (i < i) = false := by simp
      go_wp2_with fail
      go_loopg [9] N (fun gk s9 wy => ∃ x : Nat, s9 = .int .i64 (x : Int) ∧ gk = N + 1 - x ∧ 1 ≤ x ∧ (x ≤ N ∨ x = 1) ∧ ScV w wy g a c 1 l)
      case atStart => exact ⟨1, rfl, by omega, by omega, by omega, HSV.out⟩
      case round =>
        obtain ⟨x, rfl, hgx, hx1, hx2, hsx⟩ := hrel
        clear HSV c0 c1
        have HGX := Lib.hid (And.intro hgx hx2); clear hgx hx2
        have HSX := Lib.hid hsx; clear hsx
        obtain ⟨c0, c1, _, _⟩ := HSX.out
        rw [HLN.out] at c0
        by_cases hxN : x < N
        · have hxB : decide (x < N) = true := by simpa using hxN
          have HLE := Lib.hid (sortI_mono (l := l) (x := (x : Int) - 1) (y := (x : Int)) (by omega) (by omega) (by rw [HN.out]; omega))
          have HCON := Lib.hid (fun (W : World) (y : Int) (hW : wr.grownBy W none) => by
            have hf := sort_calls l a c 1 y W (HSX.out.nums.grown hW) HL.out.1 HL.out.2.1
            rw [HLN.out] at hf
            exact hf)
          have hwr : IntKind.i64.wrap ((x : Int) - 1) = (x : Int) - 1 := IntWalk.i64_in _ (by omega)
          go_wp2
          go_region_held3 (fun w' => wr.grownBy w' none ∧ w'.cell? ⟨g, 0, none⟩ = some (.slice a i c) ∧ w'.cell? ⟨g, 1, none⟩ = some (.int .i64 1))
            (first | exact ⟨⟨rfl, rfl, rfl, Nat.le_refl _, fun _ _ _ => rfl⟩, c0, c1⟩ | (go_split_ands; exact held_next2 g3 (by assumption) (by assumption) (by assumption)))
            (first | (go_at_call 20; refine (HCON.out _ _ ?_).mono ?_; (go_split_ands; assumption); rintro e w3 ⟨rfl, g3⟩))
          go_wp2
          all_goals try (exfalso; have := HLE.out; omega)
          all_goals
            have h3 : wr.grownBy w3 none := by go_split_ands; assumption
            go_roundg (N + 1 - (x + 1))
            case measure => rw [HGX.out.1]; omega
            case rel => exact ⟨x + 1, rfl, rfl, by omega, by omega, HSX.out.go h3⟩
        · have hxB : decide (x < N) = false := by simpa using hxN
          go_wp2
          go_ret
          exact ⟨rfl, HSX.out.grown⟩
end Go.Proofs.YtagfkapgjdaiaaaDoor

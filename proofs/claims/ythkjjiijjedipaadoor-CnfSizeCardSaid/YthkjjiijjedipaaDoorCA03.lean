/- Texts of the proof: M3 M4 S0 S1. -/
import Derived.Test.YthkjjiijjedipaaDoorCA01
import Derived.Test.YthkjjiijjedipaaDoorCA02
import Derived.Laws.EntriesVeiled
import Derived.RangeFuncNested
import Derived.RangeFuncLeaves
import Derived.RangeFuncBound
import Derived.Shelf.Abstract
import Derived.Shelf.RegionOpen
import Derived.Sort.LoopGhostIn
import Derived.TacticsInMore
import Derived.LoopNIn
import Derived.LoopIn
import Derived.OwnWalkIn
import Derived.RegionIn
import Derived.Shelf.SlIterI.Nil
import Derived.Shelf.SlIterI.Sorted
import Derived.Shelf.SortM.Plain
import Derived.Shelf.SortM.SortNone
import Derived.Maps.OwnIn
namespace Go.Proofs.YthkjjiijjedipaaDoor
open Go.RowKit

set_option maxHeartbeats 1000000 in
theorem holds_calls (vals : List Bool) (x : Int) (bk : Nat) (a : Option Addr) (c : Nat) (w : World) (h : BoolsW w a c vals) (hc : w.cell? ⟨bk, 0, none⟩ = some (.slice a vals.length c)) (_hl : vals.length ≤ 100000) (hx : -9223372036854775807 ≤ x ∧ x ≤ 9223372036854775807) :
    Calls Tryd.prog 34 #[.int .i64 x, .pointer (some ⟨bk, 0, none⟩)] w fun e w' => e = .returned (.bool (holdsP vals x)) ∧ w = w' := by
  obtain ⟨n, hn⟩ : ∃ n, vals.length = n := ⟨_, rfl⟩
  rw [hn] at hc
  obtain ⟨hx1, hx2⟩ := hx
  by_cases h0 : x < 0
  · have k0 : decide (x < 0) = true := decide_eq_true h0
    have k1 : IntKind.i64.wrap (-x) = -x := IntWalk.i64_in _ (by omega)
    by_cases hg : (n : Int) < -x
    · have k2 : decide ((n : Int) < -x) = true := decide_eq_true hg
      have HR : Hid (holdsP vals x = true) := Lib.hid (by unfold holdsP; rw [if_pos h0, List.getElem?_eq_none (by omega)]; rfl)
      clear hn h
      go_enter Tryd.func34, Tryd.ntmps34
      go_wp2_with fail
      go_ret
      exact ⟨by rw [HR.out]; rfl, rfl⟩
    · have k2 : decide ((n : Int) < -x) = false := decide_eq_false hg
      obtain ⟨p, hp⟩ : ∃ p : Nat, -x - 1 = (p : Int) := ⟨(-x - 1).toNat, by omega⟩
      have k3 : IntKind.i64.wrap (-x - 1) = (p : Int) := by rw [hp]; exact IntWalk.i64_in _ (by omega)
      have hpn : (p : Int) < (n : Int) := by omega
      have hp0 : (0 : Int) ≤ (p : Int) := by omega
      obtain ⟨z, hz⟩ : ∃ z, vals[p]? = some z := ⟨_, List.getElem?_eq_getElem (by rw [hn]; omega)⟩
      obtain ⟨b, o, rfl, c0⟩ := h.at hz
      have HR : Hid (holdsP vals x = !z) := Lib.hid (by unfold holdsP; rw [if_pos h0, hp, Int.toNat_natCast, hz]; rfl)
      clear hn h hz hp
      go_enter Tryd.func34, Tryd.ntmps34
      go_wp2_with fail
      go_ret
      exact ⟨by rw [HR.out]; rfl, rfl⟩
  · have k0 : decide (x < 0) = false := decide_eq_false h0
    by_cases h1 : 0 < x
    · have k1 : decide (0 < x) = true := decide_eq_true h1
      by_cases hg : x ≤ (n : Int)
      · have k2 : decide (x ≤ (n : Int)) = true := decide_eq_true hg
        obtain ⟨p, hp⟩ : ∃ p : Nat, x - 1 = (p : Int) := ⟨(x - 1).toNat, by omega⟩
        have k3 : IntKind.i64.wrap (x - 1) = (p : Int) := by rw [hp]; exact IntWalk.i64_in _ (by omega)
        have hpn : (p : Int) < (n : Int) := by omega
        have hp0 : (0 : Int) ≤ (p : Int) := by omega
        obtain ⟨z, hz⟩ : ∃ z, vals[p]? = some z := ⟨_, List.getElem?_eq_getElem (by rw [hn]; omega)⟩
        obtain ⟨b, o, rfl, c0⟩ := h.at hz
        have HR : Hid (holdsP vals x = z) := Lib.hid (by unfold holdsP; rw [if_neg h0, decide_eq_true h1, hp, Int.toNat_natCast, hz]; rfl)
        clear hn h hz hp
        go_enter Tryd.func34, Tryd.ntmps34
        go_wp2_with fail
        go_ret
        exact ⟨by rw [HR.out]; rfl, rfl⟩
      · have k2 : decide (x ≤ (n : Int)) = false := decide_eq_false hg
        have HR : Hid (holdsP vals x = false) := Lib.hid (by unfold holdsP; rw [if_neg h0, List.getElem?_eq_none (by omega), Bool.and_eq_false_iff]; exact .inr rfl)
        clear hn h
        go_enter Tryd.func34, Tryd.ntmps34
        go_wp2_with fail
        go_ret
        exact ⟨by rw [HR.out]; rfl, rfl⟩
    · have k1 : decide (0 < x) = false := decide_eq_false h1
      have HR : Hid (holdsP vals x = false) := Lib.hid (by unfold holdsP; rw [if_neg h0, decide_eq_false h1]; rfl)
      clear hn h
      go_enter Tryd.func34, Tryd.ntmps34
      go_wp2_with fail
      go_ret
      exact ⟨by rw [HR.out]; rfl, rfl⟩

/-- What the assignment's closure needs. -/
structure HBox (vals : List Bool) (bk : Nat) (w : World) : Prop where
  ex : ∃ a c, w.cell? ⟨bk, 0, none⟩ = some (.slice a vals.length c) ∧ BoolsW w a c vals
  len : vals.length ≤ 100000

set_option maxHeartbeats 1000000 in
theorem index_calls (vals : List Bool) (bk : Nat) (l : List Int) (a : Option Addr) (c : Nat) (w : World) (h : IntsW w a c l) (hv : HBox vals bk w) (hl : l.length ≤ 100000) (hb : ∀ x ∈ l, -9223372036854775807 ≤ x ∧ x ≤ 9223372036854775807) :
    Calls Tryd.prog 44 #[.slice a l.length c, .func (.func 34) #[] #[.pointer (some ⟨bk, 0, none⟩)]] w fun e w' => (∃ r : Int, e = .returned (.int .i64 r) ∧ decide (0 ≤ r) = l.any (holdsP vals)) ∧ w = w' := by
  obtain ⟨n, hn⟩ : ∃ n, l.length = n := ⟨_, rfl⟩
  rw [hn] at hl ⊢
  have HN := Lib.hid (And.intro hn (And.intro h (And.intro hv hb))); clear hn h hv hb
  go_enter Tryd.func44, Tryd.ntmps44
  go_wp2_with fail
  go_loopg [8] n (fun g s8 wr => ∃ i : Nat, s8 = .int .i64 (i : Int) ∧ g = n - i ∧ i ≤ n ∧ (∀ x ∈ l.take i, holdsP vals x = false) ∧ w = wr)
  case atStart => exact ⟨0, rfl, rfl, Nat.zero_le _, fun x hx => (by simp at hx), rfl⟩
  case round =>
    obtain ⟨i, rfl, hgi, hi, hok, rfl⟩ := hrel
    have HGI := Lib.hid (And.intro hgi hok); clear hgi hok
    by_cases hin : i < n
    · have hinB : decide (i < n) = true := by simpa using hin
      have hinI : (i : Int) < (n : Int) := by omega
      obtain ⟨x, hx⟩ : ∃ x, l[i]? = some x := ⟨_, List.getElem?_eq_getElem (by rw [HN.out.1]; exact hin)⟩
      obtain ⟨b, o, rfl, c0⟩ := HN.out.2.1.at hx
      have HX := Lib.hid hx; clear hx
      obtain ⟨va, vc, hv1, hv2⟩ := HN.out.2.2.1.ex
      have HC := Lib.hid (holds_calls vals x bk va vc w hv2 hv1 HN.out.2.2.1.len (HN.out.2.2.2 x (List.mem_of_getElem? HX.out)))
      clear hv1 hv2
      go_wp2_with fail
      refine HC.out.mono ?_
      rintro e w' ⟨rfl, rfl⟩
      obtain ⟨B, hB⟩ : ∃ B, holdsP vals x = B := ⟨_, rfl⟩
      rw [hB]
      have HB := Lib.hid hB; clear hB
      cases B with
      | true =>
        go_wp2_with fail
        go_ret
        exact ⟨⟨_, rfl, by rw [List.any_eq_true.2 ⟨x, List.mem_of_getElem? HX.out, HB.out⟩]; simp⟩, rfl⟩
      | false =>
        go_wp2_with fail
        go_roundg (n - (i + 1))
        case measure => rw [HGI.out.1]; omega
        case rel => exact ⟨i + 1, rfl, rfl, by omega, fun y hy => by
          rw [List.take_add_one, HX.out, Option.toList_some, List.mem_append] at hy
          rcases hy with hy | hy
          · exact HGI.out.2 y hy
          · rw [List.mem_singleton] at hy; subst hy; exact HB.out, rfl⟩
    · have hie : i = n := by omega
      subst hie
      have hinB : decide (i < i) = false := by simp
      go_wp2
      go_ret
      refine ⟨⟨-1, rfl, ?_⟩, rfl⟩
      have h1 := HGI.out.2
      rw [List.take_of_length_le (by rw [HN.out.1]; exact Nat.le_refl _)] at h1
      rw [show l.any (holdsP vals) = false from List.any_eq_false.2 (fun x hx => by rw [h1 x hx]; simp)]
      rfl

theorem contains_calls (vals : List Bool) (bk : Nat) (l : List Int) (n : Nat) (hn : l.length = n) (a : Option Addr) (c : Nat) (w : World) (h : IntsW w a c l) (hv : HBox vals bk w) (hl : l.length ≤ 100000) (hb : ∀ x ∈ l, -9223372036854775807 ≤ x ∧ x ≤ 9223372036854775807) :
    Calls Tryd.prog 35 #[.slice a n c, .func (.func 34) #[] #[.pointer (some ⟨bk, 0, none⟩)]] w fun e w' => e = .returned (.bool (l.any (holdsP vals))) ∧ w = w' := by
  have H := index_calls vals bk l a c w h hv hl hb
  rw [hn] at H
  have HH := Lib.hid H; clear H h hv hl hn hb
  go_enter Tryd.func35, Tryd.ntmps35
  go_wp2_with fail
  refine HH.out.mono ?_
  rintro e w' ⟨⟨r, rfl, hr⟩, rfl⟩
  have HR := Lib.hid hr; clear hr
  go_wp2
  go_ret
  exact ⟨by rw [← HR.out]; rfl, rfl⟩

theorem cell_two_one (w : World) (u0 u1 v : Value) (s t : TypeId) :
    (w.alloc (.cells #[u0, u1] s)).heap.size = w.heap.size + 1 ∧ ((w.alloc (.cells #[u0, u1] s)).alloc (.cells #[v] t)).cell? ⟨w.heap.size, 0, none⟩ = some u0 ∧ ((w.alloc (.cells #[u0, u1] s)).alloc (.cells #[v] t)).cell? ⟨w.heap.size, 1, none⟩ = some u1 ∧
    ((w.alloc (.cells #[u0, u1] s)).alloc (.cells #[v] t)).cell? ⟨w.heap.size + 1, 0, none⟩ = some v := by
  refine ⟨by simp, by go_simp, by go_simp, by go_simp⟩

set_option maxHeartbeats 2000000 in
theorem satisfies_calls (v : Int) (l : List (List Int)) (vals : List Bool) (a va : Option Addr) (c vc : Nat) (w : World) (h : ClsW w a c l) (hv : BoolsW w va vc vals) (hl : l.length ≤ 60000) (hl2 : ∀ z ∈ l, z.length ≤ 100000) (hl3 : vals.length ≤ 100000)
    (hb : ∀ z ∈ l, ∀ x ∈ z, -9223372036854775807 ≤ x ∧ x ≤ 9223372036854775807) :
    Calls Tryd.prog 15 #[cnfV v a l.length c, .slice va vals.length vc] w fun e w' => e = .returned (.bool (satP vals l)) ∧ w.grownBy w' none := by
  obtain ⟨n, hn⟩ : ∃ n, l.length = n := ⟨_, rfl⟩
  obtain ⟨nv, hnv⟩ : ∃ n, vals.length = n := ⟨_, rfl⟩
  have hg1 := (World.grownBy_alloc w (.cells #[.int .i64 v, .slice a n c] 35) none).trans (World.grownBy_alloc _ (.cells #[.slice va nv vc] 23) none)
  have e1 := cell_two_one w (.int .i64 v) (.slice a n c) (.slice va nv vc) 35 23
  obtain ⟨W0, hW0⟩ : ∃ W, w.alloc (.cells #[.int .i64 v, .slice a n c] 35) = W := ⟨_, rfl⟩
  rw [hW0] at hg1 e1
  obtain ⟨W1, hW1⟩ : ∃ W, W0.alloc (.cells #[.slice va nv vc] 23) = W := ⟨_, rfl⟩
  rw [hW1] at hg1 e1
  have q1 := e1.2.2.1
  have HZ := Lib.hid e1.1
  have HH := Lib.hid (And.intro (h.grown hg1) (And.intro hb hl2))
  have HV : Hid (HBox vals (w.heap.size + 1) W1) := Lib.hid ⟨⟨va, vc, by rw [hnv]; exact e1.2.2.2, hv.grown hg1⟩, hl3⟩
  have HG := Lib.hid hg1
  have HN := Lib.hid hn
  have e0 := e1.1
  rw [hn] at hl ⊢
  rw [hnv] at hl3 ⊢
  clear h hg1 e1 hl2 hn hv hnv hb
  go_enter Tryd.func15, Tryd.ntmps15
  go_wp2_with fail
  clear hW0 hW1 e0
  go_loopg [12] n (fun g s wr => ∃ i : Nat, s = .int .i64 (i : Int) ∧ g = n - i ∧ i ≤ n ∧ (∀ z ∈ l.take i, z.any (holdsP vals) = true) ∧ W1 = wr)
  case atStart => exact ⟨0, rfl, rfl, Nat.zero_le _, fun z hz => (by simp at hz), rfl⟩
  case round =>
    obtain ⟨i, rfl, hgi, hi, hok, rfl⟩ := hrel
    have HGI := Lib.hid (And.intro hgi hok); clear hgi hok
    by_cases hin : i < n
    · have hinB : decide (i < n) = true := by simpa using hin
      have hinI : (i : Int) < (n : Int) := by omega
      obtain ⟨z, hz⟩ : ∃ z, l[i]? = some z := ⟨_, List.getElem?_eq_getElem (by rw [HN.out]; exact hin)⟩
      obtain ⟨b, o, a', c', rfl, c0, c1⟩ := HH.out.1.at hz
      obtain ⟨p, hp⟩ : ∃ p, z.length = p := ⟨_, rfl⟩
      have HX := Lib.hid hz
      have HC := Lib.hid (contains_calls vals (w.heap.size + 1) z p hp a' c' W1 c1 HV.out (HH.out.2.2 z (List.mem_of_getElem? hz)) (HH.out.2.1 z (List.mem_of_getElem? hz)))
      rw [hp] at c0
      clear hz hp c1
      go_wp2_with fail
      refine HC.out.mono ?_
      rintro e w' ⟨rfl, rfl⟩
      obtain ⟨B, hB⟩ : ∃ B, z.any (holdsP vals) = B := ⟨_, rfl⟩
      rw [hB]
      have HB := Lib.hid hB; clear hB
      cases B with
      | false =>
        have HR : Hid (satP vals l = false) := Lib.hid (all_not HX.out HB.out)
        go_wp2_with fail
        go_ret
        exact ⟨by rw [HR.out]; rfl, HG.out⟩
      | true =>
        go_wp2_with fail
        go_roundg (n - (i + 1))
        case measure => rw [HGI.out.1]; omega
        case rel => exact ⟨i + 1, rfl, rfl, by omega, all_step HGI.out.2 HX.out HB.out, rfl⟩
    · have hie : i = n := by omega
      subst hie
      have hinB : decide (i < i) = false := by simp
      have HR : Hid (satP vals l = true) := Lib.hid (all_end HN.out HGI.out.2)
      go_wp2_with fail
      go_ret
      exact ⟨by rw [HR.out]; rfl, HG.out⟩
end Go.Proofs.YthkjjiijjedipaaDoor

namespace Go.Proofs.YthkjjiijjedipaaDoor
open Go.RowKit

theorem drewN_more (W : World) (q n k : Nat) : (W.drewN (q + n)).drewN k = W.drewN (q + (n + k)) := by rw [World.drewN_drewN, Nat.add_assoc]
set_option maxHeartbeats 2000000 in
theorem same_calls (v v' : Int) (l m : List (List Int)) (a a' : Option Addr) (c c' : Nat) (w : World) (h : ClsW w a c l) (h' : ClsW w a' c' m) (hl : l.length ≤ 60000) (hl2 : ∀ z ∈ l, z.length ≤ 100000) :
    Calls Tryd.prog 23 #[cnfV v a l.length c, cnfV v' a' m.length c'] w fun e w' => e = .returned (.bool (decide (v = v' ∧ l = m))) ∧ w.grownBy w' none := by
  obtain ⟨n, hn⟩ : ∃ n, l.length = n := ⟨_, rfl⟩
  obtain ⟨n', hn'⟩ : ∃ n, m.length = n := ⟨_, rfl⟩
  have hg1 := (World.grownBy_alloc w (.cells #[.int .i64 v, .slice a n c] 35) none).trans (World.grownBy_alloc _ (.cells #[.int .i64 v', .slice a' n' c'] 35) none)
  have e1 := two_cells w (.int .i64 v) (.slice a n c) (.int .i64 v') (.slice a' n' c') 35 35
  have e0 : (w.alloc (.cells #[.int .i64 v, .slice a n c] 35)).heap.size = w.heap.size + 1 := by simp
  obtain ⟨W0, hW0⟩ : ∃ W, w.alloc (.cells #[.int .i64 v, .slice a n c] 35) = W := ⟨_, rfl⟩
  rw [hW0] at hg1 e1 e0
  obtain ⟨W1, hW1⟩ : ∃ W, W0.alloc (.cells #[.int .i64 v', .slice a' n' c'] 35) = W := ⟨_, rfl⟩
  rw [hW1] at hg1 e1
  obtain ⟨_, q0, q1, r0, r1, _, _⟩ := e1
  have HH := Lib.hid (And.intro (h.grown hg1) (h'.grown hg1))
  have HG := Lib.hid hg1
  have HN := Lib.hid (And.intro hn (And.intro hn' hl2))
  rw [hn] at hl ⊢
  rw [hn']
  clear h h' hg1 hn hn' hl2
  by_cases hv : v = v'
  · have k0 : (v != v') = false := by simpa using hv
    subst hv
    have HD : Hid (decide (v = v ∧ l = m) = decide (l = m)) := Lib.hid (by congr 1; simp)
    rw [HD.out]
    by_cases hnn : n = n'
    · have k1 : ((n : Int) != (n' : Int)) = false := by simp; omega
      subst hnn
      go_enter Tryd.func23, Tryd.ntmps23
      go_wp2_with fail
      clear hW0 hW1 e0
      go_loopg [5] n (fun g s wr => ∃ i : Nat, s = .int .i64 (i : Int) ∧ g = n - i ∧ i ≤ n ∧ (∀ j, j < i → l[j]? = m[j]?) ∧ ∃ q, wr = W1.drewN q)
      case atStart => exact ⟨0, rfl, rfl, Nat.zero_le _, fun j hj => absurd hj (Nat.not_lt_zero _), 0, rfl⟩
      case round =>
        obtain ⟨i, rfl, hgi, hi, hok, q, rfl⟩ := hrel
        have HGI := Lib.hid (And.intro hgi hok); clear hgi hok
        by_cases hin : i < n
        · have hinB : decide (i < n) = true := by simpa using hin
          have hinI : (i : Int) < (n : Int) := by omega
          obtain ⟨x, hx⟩ : ∃ x, l[i]? = some x := ⟨_, List.getElem?_eq_getElem (by rw [HN.out.1]; exact hin)⟩
          obtain ⟨y, hy⟩ : ∃ y, m[i]? = some y := ⟨_, List.getElem?_eq_getElem (by rw [HN.out.2.1]; exact hin)⟩
          obtain ⟨b, o, a1, c1, rfl, c0, hi1⟩ := HH.out.1.at hx
          obtain ⟨b2, o2, a2, c2, rfl, d0, hi2⟩ := HH.out.2.at hy
          have hxl := HN.out.2.2 x (List.mem_of_getElem? hx)
          have HX := Lib.hid (And.intro hx hy); clear hx hy
          have HC : Hid (∀ W : World, W1.grownBy W none → Calls Tryd.prog 19 #[.slice a1 x.length c1, .slice a2 y.length c2] W fun e w' => e = .returned (.bool (decide (x = y))) ∧ ∃ q, w' = W.drewN q) := Lib.hid (fun W hW => sameInts_calls x y a1 a2 c1 c2 W (hi1.grown hW) (hi2.grown hW) hxl)
          clear hi1 hi2
          obtain ⟨p, hp⟩ : ∃ p, x.length = p := ⟨_, rfl⟩
          obtain ⟨p', hp'⟩ : ∃ p, y.length = p := ⟨_, rfl⟩
          rw [hp, hp'] at HC
          rw [hp] at c0
          rw [hp'] at d0
          clear hp hp' hxl
          by_cases hk : x = y
          · have HK : Hid (decide (x = y) = true) := Lib.hid (decide_eq_true hk)
            rw [HK.out] at HC
            clear hk
            go_wp2_with fail
            go_quiet (exact (HC.out _ (grown_drewN _ _ _)).mono (fun _ _ h => ⟨h.1, h.2.elim (fun _ hk => ⟨_, hk.trans (drewN_more _ _ _ _)⟩)⟩))
            go_wp2_with fail
            go_roundg (n - (i + 1))
            case measure => rw [HGI.out.1]; omega
            case rel => exact ⟨i + 1, rfl, rfl, by omega, agree_step HGI.out.2 (by rw [HX.out.1, HX.out.2, of_decide_eq_true HK.out]), _, rfl⟩
          · have HK : Hid (decide (x = y) = false) := Lib.hid (decide_eq_false hk)
            rw [HK.out] at HC
            have HR : Hid (decide (l = m) = false) := Lib.hid (decide_eq_false (list_ne HX.out.1 HX.out.2 hk))
            clear hk
            go_wp2_with fail
            go_quiet (exact (HC.out _ (grown_drewN _ _ _)).mono (fun _ _ h => ⟨h.1, h.2.elim (fun _ hk => ⟨_, hk.trans (drewN_more _ _ _ _)⟩)⟩))
            go_wp2_with fail
            go_ret
            exact ⟨by rw [HR.out]; rfl, HG.out.trans ((grown_drewN _ _ _).trans (grown_drewN _ _ _))⟩
        · have hie : i = n := by omega
          subst hie
          have hinB : decide (i < i) = false := by simp
          have HR : Hid (decide (l = m) = true) := Lib.hid (decide_eq_true (list_eq HN.out.1 HN.out.2.1 HGI.out.2))
          go_wp2_with fail
          go_ret
          exact ⟨by rw [HR.out]; rfl, HG.out.trans (grown_drewN _ _ _)⟩
    · have k1 : ((n : Int) != (n' : Int)) = true := by simp; omega
      have HR : Hid (decide (l = m) = false) := Lib.hid (decide_eq_false (by rintro rfl; exact hnn (HN.out.1.symm.trans HN.out.2.1)))
      clear hnn
      go_enter Tryd.func23, Tryd.ntmps23
      go_wp2_with fail
      go_ret
      exact ⟨by rw [HR.out]; rfl, HG.out⟩
  · have k0 : (v != v') = true := by simpa using hv
    have HR : Hid (decide (v = v' ∧ l = m) = false) := Lib.hid (decide_eq_false (fun e => hv e.1))
    clear hv
    go_enter Tryd.func23, Tryd.ntmps23
    go_wp2_with fail
    go_ret
    exact ⟨by rw [HR.out]; rfl, HG.out⟩
end Go.Proofs.YthkjjiijjedipaaDoor

namespace Go.Proofs.YthkjjiijjedipaaDoor
open Go.RowKit Go.Shelf

/-- A step that lays blocks and turns at most one block that holds no cells, from B on. -/
def Quiet (B : Nat) (A A' : World) : Prop := ∃ row, A.grownBy A' row ∧ ∀ r, row = some r → B ≤ r ∧ ∃ o : Obj, A.heap[r]? = some o ∧ o.isCells = false
theorem Quiet.less {B B' : Nat} {A A' : World} (h : Quiet B A A') (hB : B' ≤ B) : Quiet B' A A' := by
  obtain ⟨row, hg, hr⟩ := h
  exact ⟨row, hg, fun r e => ⟨Nat.le_trans hB (hr r e).1, (hr r e).2⟩⟩
theorem Quiet.of_none {B : Nat} {A A' : World} (h : A.grownBy A' none) : Quiet B A A' := ⟨none, h, fun _ e => by cases e⟩
theorem Quiet.put {B : Nat} {A : World} {r : Nat} {o : Obj} (o' : Obj) (hB : B ≤ r) (h : A.heap[r]? = some o) (ho : o.isCells = false) : Quiet B A (A.putObj r o') :=
  ⟨some r, grownBy_putObj' A r o', fun k e => by cases e; exact ⟨hB, o, h, ho⟩⟩
/-- The blocks that a round leaves alone lie as they lay, and are left alone on. -/
def Saved (Safe : World → Nat → Prop) (W W' : World) : Prop := ∀ b, Safe W b → W'.heap[b]? = W.heap[b]? ∧ Safe W' b

theorem Quiet.cell {B : Nat} {W W' : World} (h : Quiet B W W') {a : Addr} {v : Value} (hc : W.cell? a = some v) : W'.cell? a = some v := by
  obtain ⟨row, hg, hr⟩ := h
  exact cell_kept hc hg (fun r e => (hr r e).2)
theorem Quiet.size {B : Nat} {W W' : World} (h : Quiet B W W') : W.heap.size ≤ W'.heap.size := by
  obtain ⟨row, hg, _⟩ := h
  exact hg.size

/-- What a loop says of the world between two rounds, and the blocks that its rounds leave alone. -/
structure AbideG {α : Type} (B : Nat) (J : List α → World → Prop) (Safe : World → Nat → Prop) : Prop where
  keep : ∀ s A A', J s A → Quiet B A A' → J s A'
  safe : ∀ s A A' b, J s A → Quiet B A A' → Safe A b → Safe A' b
  fresh : ∀ s A A' b, J s A → Quiet B A A' → A.heap.size ≤ b → b < A'.heap.size → Safe A' b
theorem AbideG.less {α : Type} {B B' : Nat} {J : List α → World → Prop} {Safe : World → Nat → Prop} (h : AbideG B J Safe) (hB : B ≤ B') : AbideG B' J Safe :=
  ⟨fun s A A' hs hq => h.keep s A A' hs (hq.less hB), fun s A A' b hs hq => h.safe s A A' b hs (hq.less hB), fun s A A' b hs hq => h.fresh s A A' b hs (hq.less hB)⟩
/-- Every round says yes. -/
def YesG {α : Type} (vals : α → Array Value) (F : Fence) (m : Nat) (P : Program) (l : Nat) (xs : List α) (J : List α → World → Prop) (Safe : World → Nat → Prop) : Prop :=
  ∀ pre x W, J pre W → pre ++ [x] <+: xs → YieldAt F m P l (vals x) W fun e W' => e = .returned (.bool true) ∧ J (pre ++ [x]) W' ∧ Saved Safe W W'
/-- An iterator that gives xs to a loop whose rounds all say yes, where the blocks caps are left alone. -/
def GivesG {α : Type} (vals : α → Array Value) (F : Fence) (P : Program) (gf : Nat) (lb : Array Value) (caps : Nat → Prop) (xs : List α) (w : World) : Prop :=
  ∀ (n l : Nat) (J : List α → World → Prop) (Safe : World → Nat → Prop), (∀ b, caps b → Safe w b) → AbideG w.heap.size J Safe → YesG vals F (n - 1) P l xs J Safe → J [] w →
    CallsIn F n P gf (#[.func (.yield l) #[] #[]] ++ lb) w fun e W' => (∃ v, e = .returned v) ∧ J xs W'
/-- How the body of a round is left: off its end. -/
def yesPostG {α : Type} (J : List α → World → Prop) (Safe : World → Nat → Prop) (s : List α) (W : World) : Exit → Act → World → Prop
  | .normal, _, W' => J s W' ∧ Saved Safe W W'
  | _, _, _ => False
variable {F : Fence} {n : Nat} {P : Program}
theorem rangeYesG {α : Type} {vals : α → Array Value} {g : Operand} {ps : Array Tmp} {assign body : Code} {Q : Exit → Act → World → Prop} {a : Act} {w : World} (hro : F.round = none) (hd : F.depth = none)
    {gf : Nat} {lb : Array Value} (hg : a.eval g = .func (.func gf) #[] lb) (hFg : F.fn gf) (eg : ∀ args w, (callFunc gf args).run P w = .ok (.enter gf args) w)
    (hps : ∀ x, (vals x).size = ps.size) {caps : Nat → Prop} {xs : List α} (hseq : ∀ W, w.grownBy W none → GivesG vals F P gf lb caps xs W)
    (I : List α → World → Prop) (Safe : World → Nat → Prop) (hI : AbideG w.heap.size I Safe) (hcap : ∀ b, caps b → Safe w b) (h0 : I [] w)
    (hround : ∀ (l : Nat) (pre : List α) (x : α) (W : World), I pre W → pre ++ [x] <+: xs → assign.wpIn (F.inRound l) (n - 1 - 1) P
      (Exit.then (fun a' W' => W' = W ∧ ∀ W2, I pre W2 → body.wpIn (F.inRound l) (n - 1 - 1) P (yesPostG I Safe (pre ++ [x]) W2) a' W2) (fun _ _ _ => False)) { tmps := (ps.zip (vals x)).foldl (fun t (p, v) => t.setIfInBounds p v) a.tmps, defers := [] } W)
    (hdone : ∀ (D : Nat) (W : World), w.heap.size ≤ D → I xs W → Safe W D → W.heap[D]? = some (.deferred (some [])) → Q .normal { a with defers := { target := .collected D, args := #[] } :: a.defers } W) :
    (Code.rangeFunc g ps assign body).wpIn F n P Q a w := by
  refine wpIn_rangeFunc fun fn hfn => ?_
  rw [hro]
  let R : LoopState → Loop := fun st => { state := st, pending := none, fn, tmps := a.tmps, params := ps, assign, body, defers := w.heap.size }
  obtain ⟨W1, hW1⟩ : ∃ W1, (w.alloc (.deferred (some []))).alloc (.loop (R .ready)) = W1 := ⟨_, rfl⟩
  have hz1 : W1.heap.size = w.heap.size + 2 := by rw [← hW1]; simp
  have hg1 : w.grownBy W1 none := by rw [← hW1]; exact (World.grownBy_alloc w _ none).trans (World.grownBy_alloc _ _ none)
  have hl1 : W1.heap[w.heap.size + 1]? = some (.loop (R .ready)) := by
    rw [← hW1]; have := World.alloc_heap_new (w.alloc (.deferred (some []))) (.loop (R .ready)); rwa [World.size_alloc] at this
  have hd1 : W1.heap[w.heap.size]? = some (.deferred (some [])) := by
    rw [← hW1]; exact (Below.heap_alloc _ _ _ (by simp)).trans (World.alloc_heap_new w _)
  refine ⟨w.heap.size + 1, [{ target := .collected w.heap.size, args := #[] }], W1, { target := .fn (.func gf) lb, args := #[.func (.yield (w.heap.size + 1)) #[] #[]] }, W1, gf,
    #[.func (.yield (w.heap.size + 1)) #[] #[]] ++ lb, W1, ?_, ?_, ?_, ?_, (fun h => by rw [hd] at h; cases h), ?_⟩
  · rw [← hW1]; exact run_enterLoop_outer _ _ _ _ _
  · simp only [resolve, hg]
    simp [go_sem]
  · intro f' hf'; simp [Target.leads] at hf'; subst hf'; exact hFg
  · simp [invoke, go_sem, eg]
  have hq1 : Quiet w.heap.size w W1 := .of_none hg1
  refine (hseq W1 hg1 (n - 1) (w.heap.size + 1) (fun pre W => I pre W ∧ W.heap[w.heap.size + 1]? = some (.loop (R .ready)) ∧ W.heap[w.heap.size]? = some (.deferred (some [])) ∧ Safe W (w.heap.size + 1) ∧ Safe W w.heap.size) Safe
    (fun b hb => hI.safe _ _ _ b h0 hq1 (hcap b hb)) ⟨?_, ?_, ?_⟩ ?_
    ⟨hI.keep _ _ _ h0 hq1, hl1, hd1, hI.fresh _ _ _ _ h0 hq1 (by omega) (by omega), hI.fresh _ _ _ _ h0 hq1 (by omega) (by omega)⟩).mono ?_
  · rintro s A A' ⟨hi, hl, hk, hsl, hsk⟩ hq
    have hq' := hq.less (B' := w.heap.size) (by omega)
    obtain ⟨row, hgr, hr⟩ := hq
    exact ⟨hI.keep _ _ _ hi hq', (hgr.block _ (Array.getElem?_eq_some_iff.1 hl).1 (fun e => by have := (hr _ e.symm).1; omega)).trans hl,
      (hgr.block _ (Array.getElem?_eq_some_iff.1 hk).1 (fun e => by have := (hr _ e.symm).1; omega)).trans hk, hI.safe _ _ _ _ hi hq' hsl, hI.safe _ _ _ _ hi hq' hsk⟩
  · rintro s A A' b ⟨hi, _⟩ hq hs
    exact hI.safe _ _ _ b hi (hq.less (by omega)) hs
  · rintro s A A' b ⟨hi, _⟩ hq h1 h2
    exact hI.fresh _ _ _ b hi (hq.less (by omega)) h1 h2
  · rintro pre x W ⟨hi, hl, hk, hsl, hsk⟩ hpre
    have hlt : w.heap.size + 1 < W.heap.size := (Array.getElem?_eq_some_iff.1 hl).1
    refine ⟨fn, _, assign, body, run_yield hl (hps x), roundIn_of_wpIn hfn ?_⟩
    refine wpIn_mono (hround _ pre x W hi hpre) ?_
    rintro e a1 W1' h1
    cases e with
    | normal => ?_
    | _ => exact h1.elim
    obtain ⟨rfl, hb⟩ := h1
    refine ⟨_, run_beginRound hl rfl, ?_⟩
    have hqb : Quiet w.heap.size W1' (W1'.putObj (w.heap.size + 1) (.loop (R .busy))) := .put _ (by omega) hl rfl
    refine wpIn_mono (hb _ (hI.keep _ _ _ hi hqb)) ?_
    rintro e a3 W3 hp
    cases e with
    | normal =>
      obtain ⟨hi3, hs3⟩ := hp
      have h3 := hs3 (w.heap.size + 1) (hI.safe _ _ _ _ hi hqb hsl)
      have k3 := hs3 w.heap.size (hI.safe _ _ _ _ hi hqb hsk)
      have hl3 : W3.heap[w.heap.size + 1]? = some (.loop (R .busy)) := h3.1.trans (World.putObj_heap_same hlt)
      have hk3 : W3.heap[w.heap.size]? = some (.deferred (some [])) := (k3.1.trans (World.putObj_heap_other (by omega))).trans hk
      have hq4 : Quiet w.heap.size W3 (W3.putObj (w.heap.size + 1) (.loop (R .ready))) := .put _ (by omega) hl3 rfl
      have hlt3 : w.heap.size + 1 < W3.heap.size := (Array.getElem?_eq_some_iff.1 hl3).1
      refine ⟨_, _, run_endRound (P := P) none hl3, rfl, ⟨hI.keep _ _ _ hi3 hq4, World.putObj_heap_same hlt3, (World.putObj_heap_other (by omega)).trans hk3, hI.safe _ _ _ _ hi3 hq4 h3.2, hI.safe _ _ _ _ hi3 hq4 k3.2⟩, ?_⟩
      intro b hb
      have hb2 := hI.safe _ _ _ b hi hqb hb
      have hb3 := hs3 b hb2
      refine ⟨?_, hI.safe _ _ _ b hi3 hq4 hb3.2⟩
      by_cases hbl : b = w.heap.size + 1
      · subst hbl
        exact (World.putObj_heap_same hlt3).trans hl.symm
      · exact ((World.putObj_heap_other hbl).trans hb3.1).trans (World.putObj_heap_other hbl)
    | _ => exact hp.elim
  · rintro e W2 ⟨⟨v, rfl⟩, hi, hl, hk, _, hsk⟩
    exact ⟨none, _, run_endLoop hl (by simp [R]), hdone _ _ (Nat.le_refl _) (hI.keep _ _ _ hi (.put _ (by omega) hl rfl)) (hI.safe _ _ _ _ hi (.put _ (by omega) hl rfl) hsk) ((World.putObj_heap_other (by omega)).trans hk)⟩

/-- What lies low stays. -/
def Low (B0 : Nat) (Safe : World → Nat → Prop) (w W : World) : Prop := ∀ b, b < B0 → W.heap[b]? = w.heap[b]? ∧ Safe W b
theorem Low.saved {B0 : Nat} {Safe : World → Nat → Prop} {w W W' : World} (h : Low B0 Safe w W) (hs : Saved Safe W W') : Low B0 Safe w W' := fun b hb => by
  obtain ⟨h1, h2⟩ := h b hb
  obtain ⟨h3, h4⟩ := hs b h2
  exact ⟨h3.trans h1, h4⟩
theorem Low.grown {α : Type} {B0 Bq : Nat} {J : List α → World → Prop} {Safe : World → Nat → Prop} {w W W' : World} {s : List α} (h : Low B0 Safe w W) (hJ : AbideG Bq J Safe) (hj : J s W) (hg : W.grownBy W' none) (hB : B0 ≤ W.heap.size) : Low B0 Safe w W' := fun b hb => by
  obtain ⟨h1, h2⟩ := h b hb
  exact ⟨(hg.block b (Nat.lt_of_lt_of_le hb hB) (by simp)).trans h1, hJ.safe s W W' b hj (.of_none hg) h2⟩
theorem Low.size {B0 : Nat} {Safe : World → Nat → Prop} {w W : World} (h : Low B0 Safe w W) (hB : B0 ≤ w.heap.size) : B0 ≤ W.heap.size := by
  rcases Nat.eq_zero_or_pos B0 with h0 | h0
  · omega
  · have h1 := (h (B0 - 1) (by omega)).1
    rw [Array.getElem?_eq_getElem (show B0 - 1 < w.heap.size by omega)] at h1
    have := (Array.getElem?_eq_some_iff.1 h1).1
    omega

end Go.Proofs.YthkjjiijjedipaaDoor

namespace Go.Proofs.YthkjjiijjedipaaDoor
open Go.RowKit Go.Maps Go.Sort Go.Shelf

def Tryd.sortA_ren : Go.Shelf.Ren := ⟨fun | 5 => 52 | 8 => 58 | 7 => 57 | 19 => 70 | 20 => 71 | 10 => 61 | 11 => 62 | 12 => 63 | 13 => 64 | 14 => 65 | 15 => 66 | 16 => 67 | 17 => 68 | 18 => 69 | 30 => 76 | 31 => 77 | 32 => 78 | 33 => 79 | 34 => 80 | 35 => 81 | 40 => 86 | n => n, fun | 23 => 28 | 25 => 3 | 3 => 3 | 32 => 92 | 22 => 28 | 0 => 0 | 44 => 105 | 46 => 107 | 4 => 4 | 36 => 98 | 35 => 97 | 41 => 66 | 5 => 5 | 9 => 9 | 53 => 112 | 57 => 116 | 63 => 121 | 64 => 122 | n => n, fun | n => n⟩
theorem Tryd.sortA : Go.Proofs.SlLaysM.n5 Tryd.prog Tryd.sortA_ren where
  mixed := by kernel_rfl
  f5 := ⟨Tryd.f52.name, of_decide_eq_true (by kernel_rfl), Tryd.func52.trans (congrArg some (by kernel_rfl))⟩
  f7 := ⟨Tryd.f57.name, of_decide_eq_true (by kernel_rfl), Tryd.func57.trans (congrArg some (by kernel_rfl))⟩
  f8 := Tryd.func58.trans (congrArg some (by kernel_rfl))
  f10 := ⟨Tryd.f61.name, of_decide_eq_true (by kernel_rfl), Tryd.func61.trans (congrArg some (by kernel_rfl))⟩
  f11 := ⟨Tryd.f62.name, of_decide_eq_true (by kernel_rfl), Tryd.func62.trans (congrArg some (by kernel_rfl))⟩
  f12 := ⟨Tryd.f63.name, of_decide_eq_true (by kernel_rfl), Tryd.func63.trans (congrArg some (by kernel_rfl))⟩
  f13 := ⟨Tryd.f64.name, of_decide_eq_true (by kernel_rfl), Tryd.func64.trans (congrArg some (by kernel_rfl))⟩
  f14 := ⟨Tryd.f65.name, of_decide_eq_true (by kernel_rfl), Tryd.func65.trans (congrArg some (by kernel_rfl))⟩
  f15 := ⟨Tryd.f66.name, of_decide_eq_true (by kernel_rfl), Tryd.func66.trans (congrArg some (by kernel_rfl))⟩
  f16 := ⟨Tryd.f67.name, of_decide_eq_true (by kernel_rfl), Tryd.func67.trans (congrArg some (by kernel_rfl))⟩
  f17 := ⟨Tryd.f68.name, of_decide_eq_true (by kernel_rfl), Tryd.func68.trans (congrArg some (by kernel_rfl))⟩
  f18 := ⟨Tryd.f69.name, of_decide_eq_true (by kernel_rfl), Tryd.func69.trans (congrArg some (by kernel_rfl))⟩
  f19 := Tryd.func70.trans (congrArg some (by kernel_rfl))
  f20 := Tryd.func71.trans (congrArg some (by kernel_rfl))
  f30 := ⟨Tryd.f76.name, of_decide_eq_true (by kernel_rfl), Tryd.func76.trans (congrArg some (by kernel_rfl))⟩
  f31 := Tryd.func77.trans (congrArg some (by kernel_rfl))
  f32 := Tryd.func78.trans (congrArg some (by kernel_rfl))
  f33 := ⟨Tryd.f79.name, of_decide_eq_true (by kernel_rfl), Tryd.func79.trans (congrArg some (by kernel_rfl))⟩
  f34 := ⟨Tryd.f80.name, of_decide_eq_true (by kernel_rfl), Tryd.func80.trans (congrArg some (by kernel_rfl))⟩
  f35 := ⟨Tryd.f81.name, of_decide_eq_true (by kernel_rfl), Tryd.func81.trans (congrArg some (by kernel_rfl))⟩
  f40 := ⟨Tryd.f86.name, of_decide_eq_true (by kernel_rfl), Tryd.func86.trans (congrArg some (by kernel_rfl))⟩
  t0 := Tryd.underlying0
  a0 := Tryd.isAgg0
  z0 := Tryd.sizeOf0
  v0 := Tryd.zeroValue0
  t3 := Tryd.underlying3
  a3 := Tryd.isAgg3
  z3 := Tryd.sizeOf3
  v3 := Tryd.zeroValue3
  t4 := Tryd.underlying4
  a4 := Tryd.isAgg4
  z4 := Tryd.sizeOf4
  v4 := Tryd.zeroValue4
  t5 := Tryd.underlying5
  a5 := Tryd.isAgg5
  z5 := Tryd.sizeOf5
  v5 := Tryd.zeroValue5
  t9 := Tryd.underlying9
  a9 := Tryd.isAgg9
  z9 := Tryd.sizeOf9
  v9 := Tryd.zeroValue9
  t22 := Tryd.underlying28
  a22 := Tryd.isAgg28
  z22 := Tryd.sizeOf28
  v22 := Tryd.zeroValue28
  t23 := Tryd.underlying28
  a23 := Tryd.isAgg28
  z23 := Tryd.sizeOf28
  v23 := Tryd.zeroValue28
  t25 := Tryd.underlying3
  a25 := Tryd.isAgg3
  z25 := Tryd.sizeOf3
  v25 := Tryd.zeroValue3
  t32 := Tryd.underlying92
  a32 := Tryd.isAgg92
  z32 := Tryd.sizeOf92
  v32 := Tryd.zeroValue92
  t35 := Tryd.underlying97
  a35 := Tryd.isAgg97
  z35 := Tryd.sizeOf97
  v35 := Tryd.zeroValue97
  t36 := Tryd.underlying98
  a36 := Tryd.isAgg98
  z36 := Tryd.sizeOf98
  v36 := Tryd.zeroValue98
  t41 := Tryd.underlying66
  a41 := Tryd.isAgg66
  z41 := Tryd.sizeOf66
  v41 := Tryd.zeroValue66
  t44 := Tryd.underlying105
  a44 := Tryd.isAgg105
  z44 := Tryd.sizeOf105
  v44 := Tryd.zeroValue105
  t46 := Tryd.underlying107
  a46 := Tryd.isAgg107
  z46 := Tryd.sizeOf107
  v46 := Tryd.zeroValue107
  t53 := Tryd.underlying112
  a53 := Tryd.isAgg112
  z53 := Tryd.sizeOf112
  v53 := Tryd.zeroValue112
  t57 := Tryd.underlying116
  a57 := Tryd.isAgg116
  z57 := Tryd.sizeOf116
  v57 := Tryd.zeroValue116
  t63 := Tryd.underlying121
  a63 := Tryd.isAgg121
  z63 := Tryd.sizeOf121
  v63 := Tryd.zeroValue121
  t64 := Tryd.underlying122
  a64 := Tryd.isAgg122
  z64 := Tryd.sizeOf122
  v64 := Tryd.zeroValue122

theorem values_calls (a : Option Addr) (n c : Nat) (w : World) : Calls Tryd.prog 46 #[.slice a n c] w fun e w' => e = .returned (.func (.func 53) #[] #[.pointer (some ⟨w.heap.size, 0, none⟩)]) ∧ w' = w.alloc (.cells #[.slice a n c] 28) := by
  go_enter Tryd.func46, Tryd.ntmps46
  go_wp2
  go_ret
  exact ⟨rfl, rfl⟩
abbrev oneV (x : Int) : Array Value := #[.int .i64 x]
theorem intsW_span {w : World} {a : Option Addr} {c : Nat} {l : List Int} (h : IntsW w a c l) : Span 0 w.heap.size w (fun W => IntsW W a c l) := ⟨Nat.le_refl _, fun W hW => by
  obtain ⟨hc, h | ⟨b, o, ha, hz⟩⟩ := h
  · exact ⟨hc, .inl h⟩
  · exact ⟨hc, .inr ⟨b, o, ha, fun j z hj => (World.cell?_of_block (hW b (Nat.zero_le _) (lies_lt (hz j z hj)))).trans (hz j z hj)⟩⟩⟩

set_option maxRecDepth 100000 in
set_option maxHeartbeats 4000000 in
/-- The iterator over a row. -/
theorem values_gives (zs : List Int) (a : Option Addr) (c Bm B0 : Nat) (w : World) (hm : w.cell? ⟨Bm, 0, none⟩ = some (.slice a zs.length c)) (hz : Span 0 B0 w (fun W => IntsW W a c zs)) (hl : zs.length ≤ 100000) :
    GivesG oneV Fence.wide Tryd.prog 53 #[.pointer (some ⟨Bm, 0, none⟩)] (fun b => b < B0) zs w := by
  intro nn l J Safe hcap hJ hY h0
  obtain ⟨lx, hlx⟩ : ∃ m, zs.length = m := ⟨_, rfl⟩
  rw [hlx] at hl hm
  have HXY := Lib.hid (And.intro hz hlx)
  have HH := Lib.hid (And.intro hJ hY)
  have hlow : Low B0 Safe w w := fun b hb => ⟨rfl, hcap b hb⟩
  have HL := Lib.hid (And.intro hlow h0)
  clear hz hlx hJ hY h0 hcap hlow
  refine callsIn_of_wp Tryd.func53 rfl trivial ?_ rfl
  simp only [Tryd.ntmps53, List.size_toArray, List.length_cons, List.length_nil, Nat.reduceAdd, Nat.reduceSub, Array.replicate_succ, Array.replicate_zero, List.push_toArray, List.append_toArray, List.nil_append, List.cons_append]
  gi_wp2_with fail
  clear hm
  gi_loopg [7] lx (fun g s7 wr => ∃ i : Nat, s7 = .int .i64 (i : Int) ∧ g = lx - i ∧ i ≤ lx ∧ J (zs.take i) wr ∧ Low B0 Safe w wr)
  case atStart => exact ⟨0, rfl, rfl, Nat.zero_le _, HL.out.2, HL.out.1⟩
  case round =>
    obtain ⟨i, rfl, hgi, hi, hj, hlow⟩ := hrel
    have HI := Lib.hid (And.intro hgi (And.intro hj hlow)); clear hgi hj hlow
    by_cases hin : i < lx
    · have hinB : decide (i < lx) = true := by simpa using hin
      have hinI : (i : Int) < (lx : Int) := by omega
      obtain ⟨z, hz⟩ : ∃ z, zs[i]? = some z := ⟨_, List.getElem?_eq_getElem (by rw [HXY.out.2]; exact hin)⟩
      have hxi : IntsW wr a c zs := HXY.out.1.2 wr (fun b _ hb => (HI.out.2.2 b hb).1)
      obtain ⟨b, o, rfl, hcell0⟩ := hxi.at hz
      have hTK : zs.take (i + 1) = zs.take i ++ [z] := by rw [List.take_add_one, hz]; rfl
      have HTK := Lib.hid hTK
      obtain ⟨fn, tmps, assign, body, hy, hRI⟩ := HH.out.2 _ z wr HI.out.2.1 (by rw [← hTK]; exact List.take_prefix _ _)
      simp only [oneV] at hy
      have HRI := Lib.hid hRI
      clear hxi hz hRI hTK
      gi_wp2_with fail
      refine ⟨fun h => (by cases h), HRI.out.mono ?_⟩
      rintro e W3 ⟨rfl, hJ3, hS3⟩
      have H3 := Lib.hid (And.intro hJ3 hS3)
      clear hJ3 hS3
      gi_wp2_with fail
      gi_roundg (lx - (i + 1))
      case measure => rw [HI.out.1]; omega
      case rel => exact ⟨i + 1, rfl, rfl, by omega, by rw [HTK.out]; exact H3.out.1, HI.out.2.2.saved H3.out.2⟩
    · have hie : i = lx := by omega
      subst hie
      have hinB : decide (i < i) = false := by simp
      have HE : Hid (zs.take i = zs) := Lib.hid (List.take_of_length_le (by rw [HXY.out.2]; exact Nat.le_refl _))
      gi_wp2_with fail
      go_end0
      exact ⟨⟨_, rfl⟩, by have := HI.out.2.1; rw [HE.out] at this; exact this⟩
end Go.Proofs.YthkjjiijjedipaaDoor

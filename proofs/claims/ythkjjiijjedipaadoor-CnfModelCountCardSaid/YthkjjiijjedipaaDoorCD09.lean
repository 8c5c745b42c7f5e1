/- Texts of the proof: M3. -/
import Derived.Test.YthkjjiijjedipaaDoorCD06
import Derived.Test.YthkjjiijjedipaaDoorCD08
import Derived.Laws.EntriesVeiled
namespace Go.Proofs.YthkjjiijjedipaaDoor
open Go.RowKit

set_option maxHeartbeats 1000000 in
theorem holds_calls (vals : List Bool) (x : Int) (bk : Nat) (a : Option Addr) (c : Nat) (w : World) (h : BoolsW w a c vals) (hc : w.cell? ⟨bk, 0, none⟩ = some (.slice a vals.length c)) (_hl : vals.length ≤ 100000) (hx : -9223372036854775807 ≤ x ∧ x ≤ 9223372036854775807) :
    Calls Tryd.prog 34 #[.int .i64 x, .pointer (some ⟨bk, 0, none⟩)] w fun e w' => e = .returned (.bool (holdsP vals x)) ∧ w = w' := by
  obtain ⟨n, hn⟩ : ∃ n, vals.length = n := ⟨_, rfl⟩
  rw [hn] at hc
  obtain ⟨hx1, hx2⟩ := hx
  by_cases h0 : x < 0
  · have k0 : decide (x < 0) = true := decide_eq_true h0
    have k1 : IntKind.i64.wrap (-x) = -x := IntWalk.i64_in _ (by omega)
    by_cases hg : (n : Int) < -x
    · have k2 : decide ((n : Int) < -x) = true := decide_eq_true hg
      have HR : Hid (holdsP vals x = true) := Lib.hid (by unfold holdsP; rw [if_pos h0, List.getElem?_eq_none (by omega)]; rfl)
      clear hn h
      go_enter Tryd.func34, Tryd.ntmps34
      go_wp2_with fail
      go_ret
      exact ⟨by rw [HR.out]; rfl, rfl⟩
    · have k2 : decide ((n : Int) < -x) = false := decide_eq_false hg
      obtain ⟨p, hp⟩ : ∃ p : Nat, -x - 1 = (p : Int) := ⟨(-x - 1).toNat, by omega⟩
      have k3 : IntKind.i64.wrap (-x - 1) = (p : Int) := by rw [hp]; exact IntWalk.i64_in _ (by omega)
      have hpn : (p : Int) < (n : Int) := by omega
      have hp0 : (0 : Int) ≤ (p : Int) := by omega
      obtain ⟨z, hz⟩ : ∃ z, vals[p]? = some z := ⟨_, List.getElem?_eq_getElem (by rw [hn]; omega)⟩
      obtain ⟨b, o, rfl, c0⟩ := h.at hz
      have HR : Hid (holdsP vals x = !z) := Lib.hid (by unfold holdsP; rw [if_pos h0, hp, Int.toNat_natCast, hz]; rfl)
      clear hn h hz hp
      go_enter Tryd.func34, Tryd.ntmps34
      go_wp2_with fail
      go_ret
      exact ⟨by rw [HR.out]; rfl, rfl⟩
  · have k0 : decide (x < 0) = false := decide_eq_false h0
    by_cases h1 : 0 < x
    · have k1 : decide (0 < x) = true := decide_eq_true h1
      by_cases hg : x ≤ (n : Int)
      · have k2 : decide (x ≤ (n : Int)) = true := decide_eq_true hg
        obtain ⟨p, hp⟩ : ∃ p : Nat, x - 1 = (p : Int) := ⟨(x - 1).toNat, by omega⟩
        have k3 : IntKind.i64.wrap (x - 1) = (p : Int) := by rw [hp]; exact IntWalk.i64_in _ (by omega)
        have hpn : (p : Int) < (n : Int) := by omega
        have hp0 : (0 : Int) ≤ (p : Int) := by omega
        obtain ⟨z, hz⟩ : ∃ z, vals[p]? = some z := ⟨_, List.getElem?_eq_getElem (by rw [hn]; omega)⟩
        obtain ⟨b, o, rfl, c0⟩ := h.at hz
        have HR : Hid (holdsP vals x = z) := Lib.hid (by unfold holdsP; rw [if_neg h0, decide_eq_true h1, hp, Int.toNat_natCast, hz]; rfl)
        clear hn h hz hp
        go_enter Tryd.func34, Tryd.ntmps34
        go_wp2_with fail
        go_ret
        exact ⟨by rw [HR.out]; rfl, rfl⟩
      · have k2 : decide (x ≤ (n : Int)) = false := decide_eq_false hg
        have HR : Hid (holdsP vals x = false) := Lib.hid (by unfold holdsP; rw [if_neg h0, List.getElem?_eq_none (by omega), Bool.and_eq_false_iff]; exact .inr rfl)
        clear hn h
        go_enter Tryd.func34, Tryd.ntmps34
        go_wp2_with fail
        go_ret
        exact ⟨by rw [HR.out]; rfl, rfl⟩
    · have k1 : decide (0 < x) = false := decide_eq_false h1
      have HR : Hid (holdsP vals x = false) := Lib.hid (by unfold holdsP; rw [if_neg h0, decide_eq_false h1]; rfl)
      clear hn h
      go_enter Tryd.func34, Tryd.ntmps34
      go_wp2_with fail
      go_ret
      exact ⟨by rw [HR.out]; rfl, rfl⟩

/-- What the assignment's closure needs. -/
structure HBox (vals : List Bool) (bk : Nat) (w : World) : Prop where
  ex : ∃ a c, w.cell? ⟨bk, 0, none⟩ = some (.slice a vals.length c) ∧ BoolsW w a c vals
  len : vals.length ≤ 100000

set_option maxHeartbeats 1000000 in
theorem index_calls (vals : List Bool) (bk : Nat) (l : List Int) (a : Option Addr) (c : Nat) (w : World) (h : IntsW w a c l) (hv : HBox vals bk w) (hl : l.length ≤ 100000) (hb : ∀ x ∈ l, -9223372036854775807 ≤ x ∧ x ≤ 9223372036854775807) :
    Calls Tryd.prog 44 #[.slice a l.length c, .func (.func 34) #[] #[.pointer (some ⟨bk, 0, none⟩)]] w fun e w' => (∃ r : Int, e = .returned (.int .i64 r) ∧ decide (0 ≤ r) = l.any (holdsP vals)) ∧ w = w' := by
  obtain ⟨n, hn⟩ : ∃ n, l.length = n := ⟨_, rfl⟩
  rw [hn] at hl ⊢
  have HN := Lib.hid (And.intro hn (And.intro h (And.intro hv hb))); clear hn h hv hb
  go_enter Tryd.func44, Tryd.ntmps44
  go_wp2_with fail
  go_loopg [8] n (fun g s8 wr => ∃ i : Nat, s8 = .int .i64 (i : Int) ∧ g = n - i ∧ i ≤ n ∧ (∀ x ∈ l.take i, holdsP vals x = false) ∧ w = wr)
  case atStart => exact ⟨0, rfl, rfl, Nat.zero_le _, fun x hx => (by simp at hx), rfl⟩
  case round =>
    obtain ⟨i, rfl, hgi, hi, hok, rfl⟩ := hrel
    have HGI := Lib.hid (And.intro hgi hok); clear hgi hok
    by_cases hin : i < n
    · have hinB : decide (i < n) = true := by simpa using hin
      have hinI : (i : Int) < (n : Int) := by omega
      obtain ⟨x, hx⟩ : ∃ x, l[i]? = some x := ⟨_, List.getElem?_eq_getElem (by rw [HN.out.1]; exact hin)⟩
      obtain ⟨b, o, rfl, c0⟩ := HN.out.2.1.at hx
      have HX := Lib.hid hx; clear hx
      obtain ⟨va, vc, hv1, hv2⟩ := HN.out.2.2.1.ex
      have HC := Lib.hid (holds_calls vals x bk va vc w hv2 hv1 HN.out.2.2.1.len (HN.out.2.2.2 x (List.mem_of_getElem? HX.out)))
      clear hv1 hv2
      go_wp2_with fail
      refine HC.out.mono ?_
      rintro e w' ⟨rfl, rfl⟩
      obtain ⟨B, hB⟩ : ∃ B, holdsP vals x = B := ⟨_, rfl⟩
      rw [hB]
      have HB := Lib.hid hB; clear hB
      cases B with
      | true =>
        go_wp2_with fail
        go_ret
        exact ⟨⟨_, rfl, by rw [List.any_eq_true.2 ⟨x, List.mem_of_getElem? HX.out, HB.out⟩]; simp⟩, rfl⟩
      | false =>
        go_wp2_with fail
        go_roundg (n - (i + 1))
        case measure => rw [HGI.out.1]; omega
        case rel => exact ⟨i + 1, rfl, rfl, by omega, fun y hy => by
          rw [List.take_add_one, HX.out, Option.toList_some, List.mem_append] at hy
          rcases hy with hy | hy
          · exact HGI.out.2 y hy
          · rw [List.mem_singleton] at hy; subst hy; exact HB.out, rfl⟩
    · have hie : i = n := by omega
      subst hie
      have hinB : decide (i < i) = false := by simp
      go_wp2
      go_ret
      refine ⟨⟨-1, rfl, ?_⟩, rfl⟩
      have h1 := HGI.out.2
      rw [List.take_of_length_le (by rw [HN.out.1]; exact Nat.le_refl _)] at h1
      rw [show l.any (holdsP vals) = false from List.any_eq_false.2 (fun x hx => by rw [h1 x hx]; simp)]
      rfl

theorem contains_calls (vals : List Bool) (bk : Nat) (l : List Int) (n : Nat) (hn : l.length = n) (a : Option Addr) (c : Nat) (w : World) (h : IntsW w a c l) (hv : HBox vals bk w) (hl : l.length ≤ 100000) (hb : ∀ x ∈ l, -9223372036854775807 ≤ x ∧ x ≤ 9223372036854775807) :
    Calls Tryd.prog 35 #[.slice a n c, .func (.func 34) #[] #[.pointer (some ⟨bk, 0, none⟩)]] w fun e w' => e = .returned (.bool (l.any (holdsP vals))) ∧ w = w' := by
  have H := index_calls vals bk l a c w h hv hl hb
  rw [hn] at H
  have HH := Lib.hid H; clear H h hv hl hn hb
  go_enter Tryd.func35, Tryd.ntmps35
  go_wp2_with fail
  refine HH.out.mono ?_
  rintro e w' ⟨⟨r, rfl, hr⟩, rfl⟩
  have HR := Lib.hid hr; clear hr
  go_wp2
  go_ret
  exact ⟨by rw [← HR.out]; rfl, rfl⟩

theorem cell_two_one (w : World) (u0 u1 v : Value) (s t : TypeId) :
    (w.alloc (.cells #[u0, u1] s)).heap.size = w.heap.size + 1 ∧ ((w.alloc (.cells #[u0, u1] s)).alloc (.cells #[v] t)).cell? ⟨w.heap.size, 0, none⟩ = some u0 ∧ ((w.alloc (.cells #[u0, u1] s)).alloc (.cells #[v] t)).cell? ⟨w.heap.size, 1, none⟩ = some u1 ∧
    ((w.alloc (.cells #[u0, u1] s)).alloc (.cells #[v] t)).cell? ⟨w.heap.size + 1, 0, none⟩ = some v := by
  refine ⟨by simp, by go_simp, by go_simp, by go_simp⟩

set_option maxHeartbeats 2000000 in
theorem satisfies_calls (v : Int) (l : List (List Int)) (vals : List Bool) (a va : Option Addr) (c vc : Nat) (w : World) (h : ClsW w a c l) (hv : BoolsW w va vc vals) (hl : l.length ≤ 60000) (hl2 : ∀ z ∈ l, z.length ≤ 100000) (hl3 : vals.length ≤ 100000)
    (hb : ∀ z ∈ l, ∀ x ∈ z, -9223372036854775807 ≤ x ∧ x ≤ 9223372036854775807) :
    Calls Tryd.prog 15 #[cnfV v a l.length c, .slice va vals.length vc] w fun e w' => e = .returned (.bool (satP vals l)) ∧ w.grownBy w' none := by
  obtain ⟨n, hn⟩ : ∃ n, l.length = n := ⟨_, rfl⟩
  obtain ⟨nv, hnv⟩ : ∃ n, vals.length = n := ⟨_, rfl⟩
  have hg1 := (World.grownBy_alloc w (.cells #[.int .i64 v, .slice a n c] 35) none).trans (World.grownBy_alloc _ (.cells #[.slice va nv vc] 23) none)
  have e1 := cell_two_one w (.int .i64 v) (.slice a n c) (.slice va nv vc) 35 23
  obtain ⟨W0, hW0⟩ : ∃ W, w.alloc (.cells #[.int .i64 v, .slice a n c] 35) = W := ⟨_, rfl⟩
  rw [hW0] at hg1 e1
  obtain ⟨W1, hW1⟩ : ∃ W, W0.alloc (.cells #[.slice va nv vc] 23) = W := ⟨_, rfl⟩
  rw [hW1] at hg1 e1
  have q1 := e1.2.2.1
  have HZ := Lib.hid e1.1
  have HH := Lib.hid (And.intro (h.grown hg1) (And.intro hb hl2))
  have HV : Hid (HBox vals (w.heap.size + 1) W1) := Lib.hid ⟨⟨va, vc, by rw [hnv]; exact e1.2.2.2, hv.grown hg1⟩, hl3⟩
  have HG := Lib.hid hg1
  have HN := Lib.hid hn
  have e0 := e1.1
  rw [hn] at hl ⊢
  rw [hnv] at hl3 ⊢
  clear h hg1 e1 hl2 hn hv hnv hb
  go_enter Tryd.func15, Tryd.ntmps15
  go_wp2_with fail
  clear hW0 hW1 e0
  go_loopg [12] n (fun g s wr => ∃ i : Nat, s = .int .i64 (i : Int) ∧ g = n - i ∧ i ≤ n ∧ (∀ z ∈ l.take i, z.any (holdsP vals) = true) ∧ W1 = wr)
  case atStart => exact ⟨0, rfl, rfl, Nat.zero_le _, fun z hz => (by simp at hz), rfl⟩
  case round =>
    obtain ⟨i, rfl, hgi, hi, hok, rfl⟩ := hrel
    have HGI := Lib.hid (And.intro hgi hok); clear hgi hok
    by_cases hin : i < n
    · have hinB : decide (i < n) = true := by simpa using hin
      have hinI : (i : Int) < (n : Int) := by omega
      obtain ⟨z, hz⟩ : ∃ z, l[i]? = some z := ⟨_, List.getElem?_eq_getElem (by rw [HN.out]; exact hin)⟩
      obtain ⟨b, o, a', c', rfl, c0, c1⟩ := HH.out.1.at hz
      obtain ⟨p, hp⟩ : ∃ p, z.length = p := ⟨_, rfl⟩
      have HX := Lib.hid hz
      have HC := Lib.hid (contains_calls vals (w.heap.size + 1) z p hp a' c' W1 c1 HV.out (HH.out.2.2 z (List.mem_of_getElem? hz)) (HH.out.2.1 z (List.mem_of_getElem? hz)))
      rw [hp] at c0
      clear hz hp c1
      go_wp2_with fail
      refine HC.out.mono ?_
      rintro e w' ⟨rfl, rfl⟩
      obtain ⟨B, hB⟩ : ∃ B, z.any (holdsP vals) = B := ⟨_, rfl⟩
      rw [hB]
      have HB := Lib.hid hB; clear hB
      cases B with
      | false =>
        have HR : Hid (satP vals l = false) := Lib.hid (all_not HX.out HB.out)
        go_wp2_with fail
        go_ret
        exact ⟨by rw [HR.out]; rfl, HG.out⟩
      | true =>
        go_wp2_with fail
        go_roundg (n - (i + 1))
        case measure => rw [HGI.out.1]; omega
        case rel => exact ⟨i + 1, rfl, rfl, by omega, all_step HGI.out.2 HX.out HB.out, rfl⟩
    · have hie : i = n := by omega
      subst hie
      have hinB : decide (i < i) = false := by simp
      have HR : Hid (satP vals l = true) := Lib.hid (all_end HN.out HGI.out.2)
      go_wp2_with fail
      go_ret
      exact ⟨by rw [HR.out]; rfl, HG.out⟩
end Go.Proofs.YthkjjiijjedipaaDoor

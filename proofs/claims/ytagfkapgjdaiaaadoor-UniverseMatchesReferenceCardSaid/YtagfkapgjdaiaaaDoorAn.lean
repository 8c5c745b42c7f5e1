/- The reference's Name. -/
import Derived.Test.YtagfkapgjdaiaaaDoorK
import Derived.Test.YtagfkapgjdaiaaaDoorAm
namespace Go.Proofs.YtagfkapgjdaiaaaDoor
open Go.RowKit

set_option maxHeartbeats 2000000 in
theorem rName_calls (ss : List ByteArray) (sa : Option Addr) (sc : Nat) (a2 a3 a4 : Option Addr) (n2 c2 n3 c3 n4 c4 : Nat) (l : List Nat) (a : Option Addr) (c : Nat) (st x : Int) (w : World) (hs : Named w sa ss) (_hsl : ss.length ≤ 1000000) (hss : ∀ s ∈ ss, s.size ≤ 1000)
    (h : Nums w a c l) (hz : ∀ z ∈ l, z ≤ 5) (hl : l.length ≤ 4) :
    Calls Tryd.prog 15 #[.agg #[.slice sa ss.length sc, .slice a2 n2 c2, .slice a3 n3 c3, .slice a4 n4 c4], .agg #[.slice a l.length c, .int .i64 st], .int .i64 x] w fun e w' =>
      (∃ s : ByteArray, e = .returned (.string s) ∧ ((sortI l x < 0 ∨ (ss.length : Int) ≤ sortI l x) → s = ByteArray.empty) ∧
        ∀ (i : Nat) (p : ByteArray), sortI l x = (i : Int) → ss[i]? = some p → s = (p ++ ⟨#[36]⟩) ++ ⟨(Lib.decDigits (x.toNat - sum (l.take i))).toArray⟩) ∧ w.grownBy w' none := by
  have hg1 := World.grownBy_alloc w (.cells #[.slice sa ss.length sc, .slice a2 n2 c2, .slice a3 n3 c3, .slice a4 n4 c4] 27) none
  have hg2 := World.grownBy_alloc (w.alloc (.cells #[.slice sa ss.length sc, .slice a2 n2 c2, .slice a3 n3 c3, .slice a4 n4 c4] 27)) (.cells #[.slice a l.length c, .int .i64 st] 30) none
  have HG := Lib.hid (hg1.trans hg2); clear hg1 hg2
  have HH := Lib.hid (And.intro (hs.grown HG.out) (And.intro (h.grown HG.out) (And.intro hz (And.intro hl hss)))); clear hs h hz hl hss
  go_enter Tryd.func15, Tryd.ntmps15
  go_wp2_with fail
  refine (rSort_calls l a c st x _ HH.out.2.1 HH.out.2.2.1 HH.out.2.2.2.1).mono ?_
  rintro e w1 ⟨rfl, g1⟩
  have hc : (((w.alloc (.cells #[.slice sa ss.length sc, .slice a2 n2 c2, .slice a3 n3 c3, .slice a4 n4 c4] 27)).alloc (.cells #[.slice a l.length c, .int .i64 st] 30)).cell? ⟨w.heap.size, 0, none⟩ = some (.slice sa ss.length sc)) ∧
      (((w.alloc (.cells #[.slice sa ss.length sc, .slice a2 n2 c2, .slice a3 n3 c3, .slice a4 n4 c4] 27)).alloc (.cells #[.slice a l.length c, .int .i64 st] 30)).cell? ⟨w.heap.size + 1, 0, none⟩ = some (.slice a l.length c)) ∧
      (((w.alloc (.cells #[.slice sa ss.length sc, .slice a2 n2 c2, .slice a3 n3 c3, .slice a4 n4 c4] 27)).alloc (.cells #[.slice a l.length c, .int .i64 st] 30)).cell? ⟨w.heap.size + 1, 1, none⟩ = some (.int .i64 st)) := ⟨by go_simp, by go_simp, by go_simp⟩
  obtain ⟨d0, d1, d2⟩ := hc
  have c0 := g1.cell d0 (by simp)
  have c1 := g1.cell d1 (by simp)
  have c2' := g1.cell d2 (by simp)
  have HG1 := Lib.hid (HG.out.trans g1)
  have HH1 := Lib.hid (And.intro (HH.out.1.grown g1) (HH.out.2.1.grown g1))
  clear d0 d1 d2 g1
  obtain ⟨b, hb⟩ : ∃ b, w.heap.size = b := ⟨_, rfl⟩
  rw [hb] at c0 c1 c2' ⊢
  clear hb
  obtain ⟨n, hn⟩ : ∃ n, ss.length = n := ⟨_, rfl⟩
  rw [hn] at c0 _hsl ⊢
  have HN := Lib.hid hn; clear hn
  obtain ⟨S, hS⟩ : ∃ S, sortI l x = S := ⟨_, rfl⟩
  rw [hS]
  have HS := Lib.hid hS; clear hS
  by_cases hneg : S < 0
  · have e1 : decide (S < 0) = true := by simpa using hneg
    go_wp2_with fail
    go_ret
    exact ⟨⟨_, rfl, fun _ => rfl, fun i p h => by rw [HS.out] at h; omega⟩, HG1.out⟩
  · have e1 : decide (S < 0) = false := by simpa using hneg
    obtain ⟨k, rfl⟩ : ∃ k : Nat, S = (k : Int) := ⟨S.toNat, by omega⟩
    by_cases hkn : n ≤ k
    · have e2 : decide (n ≤ k) = true := by simpa using hkn
      have HKN := Lib.hid hkn
      go_wp2_with fail
      go_ret
      exact ⟨⟨_, rfl, fun _ => rfl, fun i p h hp => by
        have h1 := (List.getElem?_eq_some_iff.1 hp).1
        rw [HS.out] at h
        rw [HN.out] at h1; have := HKN.out; omega⟩, HG1.out⟩
    · have e2 : decide (n ≤ k) = false := by simpa using hkn
      have hknI : (k : Int) < (n : Int) := by omega
      have hx0 : 0 ≤ x ∧ x < ((sum l : Nat) : Int) := by
        by_cases h : x < 0 ∨ ((sum l : Nat) : Int) ≤ x
        · have := sortI_out h; rw [HS.out] at this; omega
        · omega
      obtain ⟨lo, hlo⟩ : ∃ lo, sum (l.take k) = lo := ⟨_, rfl⟩
      have hlx := (sortI_is (i := k) hx0.1 hx0.2).1 HS.out
      have hsm := sum_le HH.out.2.2.1
      have hl4 := HH.out.2.2.2.1
      have hkl : k ≤ l.length := by obtain ⟨k', e, h, _⟩ := sortI_in hx0.1 hx0.2; rw [HS.out] at e; omega
      rw [hlo] at hlx
      obtain ⟨d, hd⟩ : ∃ d : Nat, x.toNat - lo = d := ⟨_, rfl⟩
      have hxd : x - (lo : Int) = (d : Int) := by omega
      have hd100 : d < 100 := by omega
      have hwr : IntKind.i64.wrap (d : Int) = (d : Int) := IntWalk.i64_in _ (by omega)
      obtain ⟨p, hp⟩ : ∃ p, ss[k]? = some p := ⟨_, List.getElem?_eq_getElem (by rw [HN.out]; omega)⟩
      have hp1000 := HH.out.2.2.2.2 p (List.mem_of_getElem? hp)
      obtain ⟨pb, po, rfl, hcell⟩ := HH1.out.1 k p hp
      have hit := (fun W : World => Tryd.strconv_Itoa_small d hd100 W)
      obtain ⟨u, hu⟩ : ∃ u : ByteArray, (⟨(Lib.decDigits d).toArray⟩ : ByteArray) = u := ⟨_, rfl⟩
      have hu100 : u.size ≤ 100 := by
        rw [← hu]
        show (Lib.decDigits d).toArray.size ≤ 100
        by_cases h10 : d < 10
        · rw [Lib.decDigits_one h10]; simp
        · rw [Lib.decDigits_two h10 hd100]; simp
      rw [hu] at hit
      have HIT := Lib.hid hit; clear hit
      have HCON := Lib.hid (fun (W : World) (hW : w1.grownBy W none) => by
        have hf := rFirst_calls l a c st W (HH1.out.2.grown hW) HH.out.2.2.1 hl4 k hkl
        rw [hlo] at hf
        exact hf)
      have hsa : ∀ W : World, (Op.stringOp .add p ⟨#[36]⟩).run Tryd.prog W = .ok (.string (p ++ ⟨#[36]⟩)) W := fun W => run_string_add_sum _ _ _ (by show p.size + 1 ≤ _; omega)
      have hsb : ∀ W : World, (Op.stringOp .add (p ++ ⟨#[36]⟩) u).run Tryd.prog W = .ok (.string ((p ++ ⟨#[36]⟩) ++ u)) W := fun W => run_string_add_sum _ _ _ (by rw [ByteArray.size_append]; show p.size + 1 + u.size ≤ _; omega)
      have HRES : Hid (∀ (i : Nat) (q : ByteArray), (k : Int) = (i : Int) → ss[i]? = some q → (p ++ ⟨#[36]⟩) ++ u = (q ++ ⟨#[36]⟩) ++ ⟨(Lib.decDigits (x.toNat - sum (l.take i))).toArray⟩) := Lib.hid (fun i q e hq => by
        have : k = i := by omega
        subst this
        rw [hp] at hq; cases hq
        rw [hlo, hd, hu])
      have HKX : Hid (¬ ((k : Int) < 0 ∨ ((n : Nat) : Int) ≤ (k : Int))) := Lib.hid (by omega)
      clear hlo hlx hsm hd hp hu hkl
      go_wp2
      go_region_held3 (fun w' => w1.grownBy w' none ∧ w'.cell? ⟨b, 0, none⟩ = some (.slice (some ⟨pb, po, none⟩) n sc) ∧ w'.cell? ⟨b + 1, 0, none⟩ = some (.slice a l.length c) ∧ w'.cell? ⟨b + 1, 1, none⟩ = some (.int .i64 st) ∧ w'.cell? ⟨pb, po + k * 2, none⟩ = some (.string p))
        (first | exact ⟨⟨rfl, rfl, rfl, Nat.le_refl _, fun _ _ _ => rfl⟩, c0, c1, c2', hcell⟩ | (go_split_ands; exact ⟨by assumption, by assumption, by assumption, by assumption, by assumption⟩) | (go_split_ands; exact held_next4 g3 (by assumption) (by assumption) (by assumption) (by assumption) (by assumption)))
        (first | (go_at_call 17; refine (HCON.out _ ?_).mono ?_; (go_split_ands; assumption); rintro e w3 ⟨rfl, g3⟩) | (go_at_call 31; refine (HIT.out _).mono ?_; rintro e w3 ⟨rfl, rfl⟩))
      go_wp2
      all_goals
        have h3 : w1.grownBy w3 none := by go_split_ands; assumption
        go_ret
        exact ⟨⟨_, rfl, fun h => by rw [HS.out, HN.out] at h; exact absurd h HKX.out, fun i q e hq => HRES.out i q (by rw [← HS.out]; exact e) hq⟩, HG1.out.trans h3⟩
end Go.Proofs.YtagfkapgjdaiaaaDoor

/- The reference's fits and Full. -/
import Derived.Test.YtagfkapgjdaiaaaDoorAp
import Derived.Test.YtagfkapgjdaiaaaDoorU
import Derived.Test.YtagfkapgjdaiaaaDoorAh
import Derived.Test.YtagfkapgjdaiaaaDoorK
import Derived.Deep.RegionHeld3
namespace Go.Proofs.YtagfkapgjdaiaaaDoor
open Go.RowKit Go.Shelf

/-- The atoms have the sorts. -/
def fitR (zs : List Nat) (ds ss : List Int) : Bool := (ds.zip ss).all fun p => decide (sortI zs p.1 = p.2)
theorem fitR_no {zs : List Nat} {ds ss : List Int} {i : Nat} {d s : Int} (hd : ds[i]? = some d) (hs : ss[i]? = some s) (h : sortI zs d ≠ s) : fitR zs ds ss = false := by
  cases hq : fitR zs ds ss with
  | false => rfl
  | true =>
    have h1 := List.all_eq_true.1 hq (d, s) (List.mem_of_getElem? (i := i) (by rw [List.getElem?_zip_eq_some]; exact ⟨hd, hs⟩))
    exact absurd (by simpa using h1) h
theorem fitR_yes {zs : List Nat} {ds ss : List Int} (h : ∀ (i : Nat) (d s : Int), ds[i]? = some d → ss[i]? = some s → sortI zs d = s) : fitR zs ds ss = true := by
  refine List.all_eq_true.2 fun p hp => ?_
  obtain ⟨i, hi⟩ := List.mem_iff_getElem?.1 hp
  rw [List.getElem?_zip_eq_some] at hi
  simpa using h i p.1 p.2 hi.1 hi.2
set_option maxRecDepth 100000 in
set_option maxHeartbeats 4000000 in
theorem rFits_calls (zs : List Nat) (a : Option Addr) (c : Nat) (st : Int) (ds ss : List Int) (da sa : Option Addr) (dc sc : Nat) (w : World) (h : Nums w a c zs) (hz : ∀ z ∈ zs, z ≤ 5) (hl : zs.length ≤ 4) (hd : Ints w da dc ds) (hs : Ints w sa sc ss) (hds : ds.length = ss.length) (hsl : ss.length ≤ 1000) :
    Calls Tryd.prog 35 #[.agg #[.slice a zs.length c, .int .i64 st], .slice da ds.length dc, .slice sa ss.length sc] w fun e w' => e = .returned (.bool (fitR zs ds ss)) ∧ w.grownBy w' none := by
  obtain ⟨k, hk⟩ : ∃ k, ss.length = k := ⟨_, rfl⟩
  obtain ⟨n, hn⟩ : ∃ n, zs.length = n := ⟨_, rfl⟩
  rw [hds, hk]
  rw [hk] at hsl hds
  have hg := World.grownBy_alloc w (.cells #[.slice a zs.length c, .int .i64 st] 30) none
  have HG := Lib.hid hg
  have HD := Lib.hid (And.intro hds (And.intro hk (And.intro (hd.grown hg) (hs.grown hg))))
  have HC := Lib.hid (fun (x : Int) (W : World) (hW : w.grownBy W none) => by
    have hf := rSort_calls zs a c st x W (h.grown hW) hz hl
    rw [hn] at hf
    exact hf)
  rw [hn] at HG HD ⊢
  clear h hz hl hd hs hds hk hn hg
  go_enter Tryd.func35, Tryd.ntmps35
  go_wp2_with fail
  obtain ⟨b, hb⟩ : ∃ b, w.heap.size = b := ⟨_, rfl⟩
  have c0 : (w.alloc (.cells #[.slice a n c, .int .i64 st] 30)).cell? ⟨b, 0, none⟩ = some (.slice a n c) := by rw [← hb]; clear hb; go_simp
  have c1 : (w.alloc (.cells #[.slice a n c, .int .i64 st] 30)).cell? ⟨b, 1, none⟩ = some (.int .i64 st) := by rw [← hb]; clear hb; go_simp
  obtain ⟨W, hW⟩ : ∃ W, w.alloc (.cells #[.slice a n c, .int .i64 st] 30) = W := ⟨_, rfl⟩
  rw [hW] at HG HD c0 c1 ⊢
  rw [hb]
  clear hW hb
  go_loopg [7] k (fun gk s7 wr => ∃ i : Nat, s7 = .int .i64 (i : Int) ∧ gk = k - i ∧ i ≤ k ∧ (∀ (j : Nat) (d s : Int), j < i → ds[j]? = some d → ss[j]? = some s → sortI zs d = s) ∧ W.grownBy wr none)
  case atStart => exact ⟨0, rfl, rfl, Nat.zero_le _, fun j d s hj => by omega, ⟨rfl, rfl, rfl, Nat.le_refl _, fun _ _ _ => rfl⟩⟩
  case round =>
    obtain ⟨i, rfl, hgk, hik, hok, hgr⟩ := hrel
    have d0 := hgr.cell c0 (by simp)
    have d1 := hgr.cell c1 (by simp)
    have HI := Lib.hid (And.intro hgk (And.intro hok hgr)); clear hgk hok hgr
    by_cases hi : i < k
    · have hiB : decide (i < k) = true := by simpa using hi
      have hiI : (i : Int) < (k : Int) := by omega
      obtain ⟨d, hd⟩ : ∃ d, ds[i]? = some d := ⟨_, List.getElem?_eq_getElem (by have := HD.out.1; omega)⟩
      obtain ⟨s, hs⟩ : ∃ s, ss[i]? = some s := ⟨_, List.getElem?_eq_getElem (by have := HD.out.2.1; omega)⟩
      obtain ⟨ub, uo, rfl, cu⟩ := (HD.out.2.2.1.grown HI.out.2.2).at hd
      obtain ⟨vb, vo, rfl, cv⟩ := (HD.out.2.2.2.grown HI.out.2.2).at hs
      have HCC := Lib.hid (fun (W' : World) (hW : wr.grownBy W' none) => HC.out d W' ((HG.out.trans HI.out.2.2).trans hW))
      have HDS := Lib.hid (And.intro hd hs); clear hd hs
      obtain ⟨S, hS⟩ : ∃ S, sortI zs d = S := ⟨_, rfl⟩
      rw [hS] at HCC
      have HS := Lib.hid hS; clear hS
      by_cases hSs : S = s
      · have e1 : (S != s) = false := by simpa using hSs
        go_wp2_with fail
        go_region_held3 (fun w' => wr.grownBy w' none ∧ w'.cell? ⟨b, 0, none⟩ = some (.slice a n c) ∧ w'.cell? ⟨b, 1, none⟩ = some (.int .i64 st) ∧ w'.cell? ⟨ub, uo + i, none⟩ = some (.int .i64 d) ∧ w'.cell? ⟨vb, vo + i, none⟩ = some (.int .i64 s))
          (first | exact ⟨⟨rfl, rfl, rfl, Nat.le_refl _, fun _ _ _ => rfl⟩, d0, d1, cu, cv⟩ | (go_split_ands; exact ⟨by assumption, by assumption, by assumption, by assumption, by assumption⟩) | (go_split_ands; exact held_next4 g3 (by assumption) (by assumption) (by assumption) (by assumption) (by assumption)))
          (first | (go_at_call 21; refine (HCC.out _ ?_).mono ?_; (go_split_ands; assumption); rintro e w3 ⟨rfl, g3⟩))
        go_wp2
        all_goals
          have h3 : wr.grownBy w3 none := by go_split_ands; assumption
          go_roundg (k - (i + 1))
          case measure => rw [HI.out.1]; omega
          case rel => exact ⟨i + 1, rfl, rfl, by omega, fun j d' s' hj hd' hs' => by
            by_cases hji : j < i
            · exact HI.out.2.1 j d' s' hji hd' hs'
            · obtain rfl : j = i := by omega
              rw [HDS.out.1] at hd'; rw [HDS.out.2] at hs'; cases hd'; cases hs'
              rw [HS.out]; exact hSs, HI.out.2.2.trans h3⟩
      · have e1 : (S != s) = true := by simpa using hSs
        go_wp2_with fail
        go_region_held3 (fun w' => wr.grownBy w' none ∧ w'.cell? ⟨b, 0, none⟩ = some (.slice a n c) ∧ w'.cell? ⟨b, 1, none⟩ = some (.int .i64 st) ∧ w'.cell? ⟨ub, uo + i, none⟩ = some (.int .i64 d) ∧ w'.cell? ⟨vb, vo + i, none⟩ = some (.int .i64 s))
          (first | exact ⟨⟨rfl, rfl, rfl, Nat.le_refl _, fun _ _ _ => rfl⟩, d0, d1, cu, cv⟩ | (go_split_ands; exact ⟨by assumption, by assumption, by assumption, by assumption, by assumption⟩) | (go_split_ands; exact held_next4 g3 (by assumption) (by assumption) (by assumption) (by assumption) (by assumption)))
          (first | (go_at_call 21; refine (HCC.out _ ?_).mono ?_; (go_split_ands; assumption); rintro e w3 ⟨rfl, g3⟩))
        go_wp2
        all_goals
          have h3 : wr.grownBy w3 none := by go_split_ands; assumption
          go_ret
          exact ⟨by rw [fitR_no HDS.out.1 HDS.out.2 (by rw [HS.out]; exact hSs)]; rfl, (HG.out.trans HI.out.2.2).trans h3⟩
    · have hie : i = k := by omega
      subst hie
      have hiB : decide (i < i) = false := by simp
      go_wp2_with fail
      go_ret
      exact ⟨by rw [fitR_yes (fun j d s hd hs => HI.out.2.1 j d s (by have h1 := (List.getElem?_eq_some_iff.1 hs).1; have h2 := HD.out.2.1; omega) hd hs)]; rfl, HG.out.trans HI.out.2.2⟩
end Go.Proofs.YtagfkapgjdaiaaaDoor

/- States inside bounds: what the laws share. -/
import Derived.Test.YtbddpjofhddilaaNWV
import Derived.Test.YtbddpjofhddilaaN13
namespace Go.Proofs.Ytbddpjofhddilaa
open Go.RowKit

/-- The relations that picks take inside bounds. -/
def insS (picks : List Bool) (A : List Bd) : List Rl := (insAll picks A A.length).1
theorem insS_len (picks : List Bool) (A : List Bd) : (insS picks A).length = A.length := insAll_len (Nat.le_refl _)
theorem insS_at {picks : List Bool} {A : List Bd} {j : Nat} {x : Bd} (hx : A[j]? = some x) : (insS picks A)[j]? = some (x.2.1, (insTo x.1.2 picks x.2.2 (insAll picks A j).2 x.2.2.length).1) :=
  insAll_at hx (List.getElem?_eq_some_iff.1 hx).1 (Nat.le_refl _)
theorem insS_rows {picks : List Bool} {A : List Bd} (h : ∀ x ∈ A, x.1.2.length ≤ 125 ∧ x.2.2.length ≤ 125) : ∀ r ∈ insS picks A, r.2.length ≤ 125 := fun r hr => by
  obtain ⟨j, hj⟩ := List.getElem?_of_mem hr
  have hjl := (List.getElem?_eq_some_iff.1 hj).1
  rw [insS_len] at hjl
  obtain ⟨x, hx⟩ : ∃ x, A[j]? = some x := ⟨_, List.getElem?_eq_getElem hjl⟩
  rw [insS_at hx] at hj
  cases hj
  have h1 := (insTo_len x.1.2 x.2.2 picks (insAll picks A j).2 x.2.2.length).1
  have h2 := (h x (List.mem_of_getElem? hx)).2
  exact Nat.le_trans h1 h2
theorem insS_in {A DB : List Bd} (hA : GoodL A DB) (picks : List Bool) : allB withinB A (insS picks A) = true := by
  refine allB_iff.2 ⟨(insS_len picks A).symm, fun j x r hx hr => ?_⟩
  rw [insS_at hx] at hr
  cases hr
  obtain ⟨d, hd⟩ := getL hA.1 hx
  have g := hA.2 j x d hx hd
  simp only [withinB, Bool.and_eq_true, decide_eq_true_eq]
  refine ⟨⟨⟨g.k1.trans g.k2.symm, trivial⟩, (inB_iff g.u1 (insTo_up g.u2)).2 fun z hz => ?_⟩, (inB_iff (insTo_up g.u2) g.u2).2 fun z hz => ?_⟩
  · obtain ⟨k, hk⟩ := List.getElem?_of_mem (g.s1 z hz)
    exact insTo_lo hz (List.getElem?_eq_some_iff.1 hk).1 hk
  · obtain ⟨k, _, hk⟩ := insTo_sub hz
    exact List.mem_of_getElem? hk
theorem good_up {A DB : List Bd} (hA : GoodL A DB) : ∀ x ∈ A, Up x.1.2 := fun x hx => by
  obtain ⟨j, hj⟩ := List.getElem?_of_mem hx
  obtain ⟨d, hd⟩ := getL hA.1 hj
  exact (hA.2 j x d hj hd).u1
theorem insideG {w : World} {a pa : Option Addr} {c pc n pn : Nat} {A DB : List Bd} {pk : List Bool} (hA : Bds w a c A) (hp : Bools w pa pc pk) (hn : A.length = n) (hl : n ≤ 6) (h1 : ∀ x ∈ A, x.1.2.length ≤ 125 ∧ x.2.2.length ≤ 125) (hg : GoodL A DB) (hpl : (pk.length : Int) ≤ 9223372036854775807) (hpn : pk.length = pn) :
    Calls Try.prog 57 #[.slice a n c, .slice pa pn pc] w fun e w' => ∃ ra rc, e = .returned (.slice ra n rc) ∧ Rels w' ra rc (insS pk A) ∧ w.grownBy w' none := by
  have h := inside_calls A a c pk pa pc w hA hp (by omega) (fun x hx => by have := h1 x hx; omega) (good_up hg) hpl
  rw [hpn] at h
  subst hn
  refine h.mono fun e w' ⟨r, q, he, hs, hg⟩ => ⟨r, q, ?_, hs.here, hg⟩
  rw [he]
  have : (insAll pk A A.length).1.length = A.length := insS_len pk A
  rw [this]
theorem containsG {w : World} {a ta sa : Option Addr} {c tc sc ns n m : Nat} {st lp : Int} {A : List Bd} {L : List (List Rl)} {Q : Bool} (hA : Bds w a c A) (hn : A.length = n) (hl : n ≤ 6) (h1 : ∀ x ∈ A, x.1.2.length ≤ 125 ∧ x.2.2.length ≤ 125) (hT : Sts w ta tc L) (hm : L.length = m) (hml : m ≤ 10) (hr : ∀ l ∈ L, ∀ r ∈ l, r.2.length ≤ 125) (hQ : containsB A L = Q) :
    Calls Try.prog 51 #[.slice a n c, .agg #[.slice sa ns sc, .int .i64 st, .slice ta m tc, .int .i64 lp]] w fun e w' => e = .returned (.bool Q) ∧ w.grownBy w' none := by
  have h := contains_calls A L a ta sa c tc sc ns st lp w hA hT ⟨by omega, fun x hx => by have := h1 x hx; omega⟩ (by omega) (fun l hl r hrr => by have := hr l hl r hrr; omega)
  rw [hn, hm, hQ] at h
  exact h
theorem sts_new1 {w : World} {x : List Rl} {xa : Option Addr} {xc f : Nat} (h : Rels w xa xc x) (hx : x.length = f) : Sts (w.alloc (.cells #[.slice xa f xc] 40)) (some ⟨w.heap.size, 0, none⟩) 1 [x] :=
  ⟨Nat.le_refl _, fun j l hj => by
    have ga := World.grownBy_alloc w (.cells #[.slice xa f xc] 40) none
    match j, hj with
    | 0, hj => simp at hj; subst hj; exact ⟨_, 0, rfl, xa, xc, by subst hx; go_simp, h.grown ga⟩⟩
theorem sts_new3 {w : World} {x y z : List Rl} {xa ya za : Option Addr} {xc yc zc f : Nat} (h : Rels w xa xc x) (h' : Rels w ya yc y) (h'' : Rels w za zc z) (hx : x.length = f) (hy : y.length = f) (hz : z.length = f) : Sts (w.alloc (.cells #[.slice xa f xc, .slice ya f yc, .slice za f zc] 40)) (some ⟨w.heap.size, 0, none⟩) 3 [x, y, z] :=
  ⟨Nat.le_refl _, fun j l hj => by
    have ga := World.grownBy_alloc w (.cells #[.slice xa f xc, .slice ya f yc, .slice za f zc] 40) none
    match j, hj with
    | 0, hj => simp at hj; subst hj; exact ⟨_, 0, rfl, xa, xc, by rw [hx]; go_simp, h.grown ga⟩
    | 1, hj => simp at hj; subst hj; exact ⟨_, 0, rfl, ya, yc, by rw [hy]; go_simp, h'.grown ga⟩
    | 2, hj => simp at hj; subst hj; exact ⟨_, 0, rfl, za, zc, by rw [hz]; go_simp, h''.grown ga⟩⟩
theorem contains1G {w : World} {a sa xa : Option Addr} {c xc sc ns n : Nat} {st lp : Int} {A : List Bd} {X : List Rl} {Q : Bool} (hA : Bds w a c A) (hn : A.length = n) (hl : n ≤ 6) (h1 : ∀ x ∈ A, x.1.2.length ≤ 125 ∧ x.2.2.length ≤ 125) (hX : Rels w xa xc X) (hf : X.length = n) (hr : ∀ r ∈ X, r.2.length ≤ 125) (hQ : allB withinB A X = Q) :
    Calls Try.prog 51 #[.slice a n c, .agg #[.slice sa ns sc, .int .i64 st, .slice (some ⟨w.heap.size, 0, none⟩) 1 1, .int .i64 lp]] (w.alloc (.cells #[.slice xa n xc] 40)) fun e w' => e = .returned (.bool Q) ∧ w.grownBy w' none := by
  have ga := World.grownBy_alloc w (.cells #[.slice xa n xc] 40) none
  exact (containsG (m := 1) (hA.grown ga) hn hl h1 (sts_new1 hX hf) rfl (by omega) (fun l hl r hrr => by rw [List.mem_singleton] at hl; subst hl; exact hr r hrr) (by rw [containsB, List.all_cons, List.all_nil, Bool.and_true, hQ])).mono fun e w' ⟨he, hg⟩ => ⟨he, ga.trans hg⟩
theorem contains3G {w : World} {a sa xa ya : Option Addr} {c xc yc sc ns n : Nat} {st lp : Int} {A : List Bd} {X Y : List Rl} {Q Q' : Bool} (hA : Bds w a c A) (hn : A.length = n) (hl : n ≤ 6) (h1 : ∀ x ∈ A, x.1.2.length ≤ 125 ∧ x.2.2.length ≤ 125) (hX : Rels w xa xc X) (hf : X.length = n) (hr : ∀ r ∈ X, r.2.length ≤ 125) (hY : Rels w ya yc Y) (hf' : Y.length = n) (hr' : ∀ r ∈ Y, r.2.length ≤ 125) (hQ : allB withinB A X = Q) (hQ' : allB withinB A Y = Q') :
    Calls Try.prog 51 #[.slice a n c, .agg #[.slice sa ns sc, .int .i64 st, .slice (some ⟨w.heap.size, 0, none⟩) 3 3, .int .i64 lp]] (w.alloc (.cells #[.slice xa n xc, .slice ya n yc, .slice xa n xc] 40)) fun e w' => e = .returned (.bool (Q && (Q' && Q))) ∧ w.grownBy w' none := by
  have ga := World.grownBy_alloc w (.cells #[.slice xa n xc, .slice ya n yc, .slice xa n xc] 40) none
  refine (containsG (hA.grown ga) hn hl h1 (sts_new3 hX hY hX hf hf' hf) (m := 3) rfl (by omega) (fun l hl r hrr => ?_) (by rw [containsB, List.all_cons, List.all_cons, List.all_cons, List.all_nil, Bool.and_true, hQ, hQ'])).mono fun e w' ⟨he, hg⟩ => ⟨he, ga.trans hg⟩
  simp only [List.mem_cons, List.not_mem_nil, or_false] at hl
  rcases hl with rfl | rfl | rfl
  · exact hr r hrr
  · exact hr' r hrr
  · exact hr r hrr
theorem contains2G {w : World} {a sa xa ya : Option Addr} {c xc yc sc ns n : Nat} {st lp : Int} {A : List Bd} {X Y : List Rl} {Q Q' : Bool} (hA : Bds w a c A) (hn : A.length = n) (hl : n ≤ 6) (h1 : ∀ x ∈ A, x.1.2.length ≤ 125 ∧ x.2.2.length ≤ 125) (hX : Rels w xa xc X) (hf : X.length = n) (hr : ∀ r ∈ X, r.2.length ≤ 125) (hY : Rels w ya yc Y) (hf' : Y.length = n) (hr' : ∀ r ∈ Y, r.2.length ≤ 125) (hQ : allB withinB A X = Q) (hQ' : allB withinB A Y = Q') :
    Calls Try.prog 51 #[.slice a n c, .agg #[.slice sa ns sc, .int .i64 st, .slice (some ⟨w.heap.size, 0, none⟩) 2 2, .int .i64 lp]] (w.alloc (.cells #[.slice xa n xc, .slice ya n yc] 40)) fun e w' => e = .returned (.bool (Q && Q')) ∧ w.grownBy w' none := by
  have ga := World.grownBy_alloc w (.cells #[.slice xa n xc, .slice ya n yc] 40) none
  have hs : Sts (w.alloc (.cells #[.slice xa n xc, .slice ya n yc] 40)) (some ⟨w.heap.size, 0, none⟩) 2 [X, Y] := ⟨Nat.le_refl _, fun j l hj => by
    match j, hj with
    | 0, hj => simp at hj; subst hj; exact ⟨_, 0, rfl, xa, xc, by rw [hf]; go_simp, hX.grown ga⟩
    | 1, hj => simp at hj; subst hj; exact ⟨_, 0, rfl, ya, yc, by rw [hf']; go_simp, hY.grown ga⟩⟩
  refine (containsG (hA.grown ga) hn hl h1 hs (m := 2) rfl (by omega) (fun l hl r hrr => ?_) (by rw [containsB, List.all_cons, List.all_cons, List.all_nil, Bool.and_true, hQ, hQ'])).mono fun e w' ⟨he, hg⟩ => ⟨he, ga.trans hg⟩
  simp only [List.mem_cons, List.not_mem_nil, or_false] at hl
  rcases hl with rfl | rfl
  · exact hr r hrr
  · exact hr' r hrr
end Go.Proofs.Ytbddpjofhddilaa

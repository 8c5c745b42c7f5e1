/- Common texts of the laws of stage 9, joined: WA WB WD. -/
import Derived.Test.YtbddpjofhddilaaN13
import Derived.Test.YtbddpjofhddilaaN11
import Derived.Test.YtbddpjofhddilaaN09
import Derived.Test.YtbddpjofhddilaaN10
import Derived.Test.YtbddpjofhddilaaN12
import Derived.Test.YtbddpjofhddilaaN03
import Derived.Test.YtbddpjofhddilaaN14
import Derived.Test.YtbddpjofhddilaaN20
import Derived.Test.YtbddpjofhddilaaRows
import Derived.ProofKit
import Derived.OpenShut
import Derived.Stop.Joined
import Derived.SevenTiedAt
import Derived.Deep.Slices
import Derived.Deep.Strs
import Derived.ChangeSame
import Derived.Lib.SmallJoins
/- What the laws of bounds say of lists. -/
namespace Go.Proofs.Ytbddpjofhddilaa
open Go.RowKit

/-- A bound that fits a default bound: its arity, increasing rows, the lower within the upper within the full one. -/
structure GoodB (x d : Bd) : Prop where
  k1 : x.1.1 = d.2.1
  k2 : x.2.1 = d.2.1
  u1 : Up x.1.2
  u2 : Up x.2.2
  s1 : ∀ z ∈ x.1.2, z ∈ x.2.2
  s2 : ∀ z ∈ x.2.2, z ∈ d.2.2
def GoodL (A DB : List Bd) : Prop := A.length = DB.length ∧ ∀ (j : Nat) (x d : Bd), A[j]? = some x → DB[j]? = some d → GoodB x d
/-- A default bound: no tuple below, an increasing row above. -/
def DefOk (DB : List Bd) : Prop := ∀ d ∈ DB, d.1 = (d.2.1, []) ∧ Up d.2.2 ∧ d.2.2.length ≤ 125
theorem getL {A DB : List Bd} (h : A.length = DB.length) {j : Nat} {x : Bd} (hx : A[j]? = some x) : ∃ d, DB[j]? = some d :=
  ⟨_, List.getElem?_eq_getElem (by have := (List.getElem?_eq_some_iff.1 hx).1; omega)⟩
theorem goodL_def {DB : List Bd} (h : DefOk DB) : GoodL DB DB := ⟨rfl, fun j x d hx hd => by
  rw [hx] at hd
  cases hd
  obtain ⟨h1, h2, _⟩ := h x (List.mem_of_getElem? hx)
  exact ⟨by rw [h1], rfl, by rw [h1]; exact List.Pairwise.nil, h2, (by rw [h1]; intro z hz; cases hz), fun z hz => hz⟩⟩
theorem goodL_made {raw : List (List Nat)} {DB : List Bd} (h : DefOk DB) : GoodL (madeL raw DB) DB := ⟨by rw [madeL, List.length_mapIdx], fun j x d hx hd => by
  rw [madeL, List.getElem?_mapIdx, hd] at hx
  cases hx
  obtain ⟨_, h2, _⟩ := h d (List.mem_of_getElem? hd)
  exact ⟨rfl, rfl, madeTo_up h2, madeTo_up h2, fun z hz => made_sub hz, fun z hz => made_full hz⟩⟩
theorem up_nodup {l : List Int} (h : Up l) : l.Nodup := h.imp fun hxy e => by omega
theorem up_sub_len : ∀ {l m : List Int}, Up l → Up m → (∀ z ∈ l, z ∈ m) → l.length ≤ m.length
  | [], _, _, _, _ => Nat.zero_le _
  | x :: l, [], _, _, h => by have := h x (by simp); cases this
  | x :: l, y :: m, hl, hm, h => by
    obtain ⟨hx, hl'⟩ := List.pairwise_cons.1 hl
    obtain ⟨hy, hm'⟩ := List.pairwise_cons.1 hm
    by_cases hxy : x = y
    · subst hxy
      have := up_sub_len hl' hm' (fun z hz => by
        rcases List.mem_cons.1 (h z (List.mem_cons_of_mem _ hz)) with e | e
        · subst e; have := hx z hz; omega
        · exact e)
      simp only [List.length_cons]; omega
    · have hxm : x ∈ m := by
        rcases List.mem_cons.1 (h x (by simp)) with e | e
        · exact absurd e hxy
        · exact e
      have hyx := hy x hxm
      have := up_sub_len hl hm' (fun z hz => by
        rcases List.mem_cons.1 (h z hz) with e | e
        · subst e
          rcases List.mem_cons.1 hz with e | e
          · omega
          · have := hx z e; omega
        · exact e)
      simp only [List.length_cons] at this ⊢; omega
theorem good_len {x d : Bd} (h : GoodB x d) (hd : Up d.2.2) (hl : d.2.2.length ≤ 125) : x.1.2.length ≤ 125 ∧ x.2.2.length ≤ 125 := by
  have h2 := up_sub_len h.u2 hd h.s2
  have h1 := up_sub_len h.u1 h.u2 h.s1
  omega
theorem goodL_len {A DB : List Bd} (h : GoodL A DB) (hd : DefOk DB) : ∀ x ∈ A, x.1.2.length ≤ 125 ∧ x.2.2.length ≤ 125 := fun x hx => by
  obtain ⟨j, hj⟩ := List.getElem?_of_mem hx
  obtain ⟨d, hd'⟩ := getL h.1 hj
  obtain ⟨_, h2, h3⟩ := hd d (List.mem_of_getElem? hd')
  exact good_len (h.2 j x d hj hd') h2 h3
theorem meetB_good {x y d : Bd} (hx : GoodB x d) (hy : GoodB y d) : meetB x y = true := by
  simp [meetB, arityB, hx.k1, hx.k2, hy.k1, hy.k2]
theorem allMeet_good {A B DB : List Bd} (hA : GoodL A DB) (hB : GoodL B DB) : allB meetB A B = true :=
  allB_iff.2 ⟨hA.1.trans hB.1.symm, fun j x y hx hy => by
    obtain ⟨d, hd⟩ := getL hA.1 hx
    exact meetB_good (hA.2 j x d hx hd) (hB.2 j y d hy hd)⟩
theorem bd_ext {x y : Bd} (h1 : x.1.1 = y.1.1) (h2 : x.1.2 = y.1.2) (h3 : x.2.1 = y.2.1) (h4 : x.2.2 = y.2.2) : x = y := by
  obtain ⟨⟨a, b⟩, c, d⟩ := x
  obtain ⟨⟨a', b'⟩, c', d'⟩ := y
  simp only at h1 h2 h3 h4
  subst h1 h2 h3 h4
  rfl
/-- The meet of bounds that fit, where it is a bound, fits. -/
theorem meetX_good {x y d : Bd} (hx : GoodB x d) (hy : GoodB y d) (hok : okX x y = true) : GoodB (meetX x y) d := by
  have u1 := merge_up (fun x y => x || y) x.1.2 y.1.2 hx.u1 hy.u1
  have u2 := merge_up (fun x y => x && y) x.2.2 y.2.2 hx.u2 hy.u2
  exact ⟨hx.k1, hx.k2, u1, u2, (inB_iff u1 u2).1 hok, fun z hz => hx.s2 z ((mem_inter hx.u2 hy.u2).1 hz).1⟩
/-- A bound's meet with a wider one is itself. -/
theorem meetX_wide {x y d : Bd} (hx : GoodB x d) (hy : GoodB y d) (h1 : ∀ z ∈ y.1.2, z ∈ x.1.2) (h2 : ∀ z ∈ x.2.2, z ∈ y.2.2) : meetX x y = x ∧ meetX y x = x := by
  constructor
  · refine bd_ext rfl (up_ext (merge_up _ _ _ hx.u1 hy.u1) hx.u1 fun z => ?_) rfl (up_ext (merge_up _ _ _ hx.u2 hy.u2) hx.u2 fun z => ?_)
    · exact (mem_union hx.u1 hy.u1).trans ⟨fun h => h.elim id (h1 z), .inl⟩
    · exact (mem_inter hx.u2 hy.u2).trans ⟨fun h => h.1, fun h => ⟨h, h2 z h⟩⟩
  · refine bd_ext (by show y.1.1 = x.1.1; rw [hx.k1, hy.k1]) (up_ext (merge_up _ _ _ hy.u1 hx.u1) hx.u1 fun z => ?_) (by show y.2.1 = x.2.1; rw [hx.k2, hy.k2]) (up_ext (merge_up _ _ _ hy.u2 hx.u2) hx.u2 fun z => ?_)
    · exact (mem_union hy.u1 hx.u1).trans ⟨fun h => h.elim (h1 z) id, .inr⟩
    · exact (mem_inter hy.u2 hx.u2).trans ⟨fun h => h.2, fun h => ⟨h2 z h, h⟩⟩
theorem okX_self {x y d : Bd} (hx : GoodB x d) (_he : meetX y x = x ∨ meetX x y = x) : (meetX y x = x → okX y x = true) ∧ (meetX x y = x → okX x y = true) := by
  have h := (inB_iff hx.u1 hx.u2).2 hx.s1
  exact ⟨fun e => by rw [okX, e]; exact h, fun e => by rw [okX, e]; exact h⟩
theorem zip_same {A B : List Bd} (hl : A.length = B.length) (h : ∀ (j : Nat) (x y : Bd), A[j]? = some x → B[j]? = some y → meetX x y = x) : List.zipWith meetX A B = A := by
  apply List.ext_getElem?
  intro j
  rw [List.getElem?_zipWith]
  cases hx : A[j]? with
  | none => simp
  | some x =>
    obtain ⟨y, hy⟩ := getL hl hx
    rw [hy]
    simp [h j x y hx hy]
theorem zip_same' {A B : List Bd} (hl : A.length = B.length) (h : ∀ (j : Nat) (x y : Bd), A[j]? = some x → B[j]? = some y → meetX y x = x) : List.zipWith meetX B A = A := by
  apply List.ext_getElem?
  intro j
  rw [List.getElem?_zipWith]
  cases hx : A[j]? with
  | none => cases B[j]? <;> simp
  | some x =>
    obtain ⟨y, hy⟩ := getL hl hx
    rw [hy]
    simp [h j x y hx hy]
/-- Bounds' meet with wider ones is themselves. -/
theorem meetR_wide {A B DB : List Bd} (hA : GoodL A DB) (hB : GoodL B DB) (h : ∀ (j : Nat) (x y : Bd), A[j]? = some x → B[j]? = some y → (∀ z ∈ y.1.2, z ∈ x.1.2) ∧ ∀ z ∈ x.2.2, z ∈ y.2.2) : meetR A B = (A, 0) ∧ meetR B A = (A, 0) := by
  have hw : ∀ (j : Nat) (x y : Bd), A[j]? = some x → B[j]? = some y → (meetX x y = x ∧ meetX y x = x) ∧ okX x y = true ∧ okX y x = true := fun j x y hx hy => by
    obtain ⟨d, hd⟩ := getL hA.1 hx
    have hg := hA.2 j x d hx hd
    have hm := meetX_wide hg (hB.2 j y d hy hd) (h j x y hx hy).1 (h j x y hx hy).2
    have hk := okX_self hg (.inl hm.2)
    exact ⟨hm, hk.2 hm.1, hk.1 hm.2⟩
  have hl : A.length = B.length := hA.1.trans hB.1.symm
  refine ⟨?_, ?_⟩
  · rw [meetR, allMeet_good hA hB, if_pos rfl, if_pos (allB_iff.2 ⟨hl, fun j x y hx hy => (hw j x y hx hy).2.1⟩), zip_same hl fun j x y hx hy => (hw j x y hx hy).1.1]
  · rw [meetR, allMeet_good hB hA, if_pos rfl, if_pos (allB_iff.2 ⟨hl.symm, fun j y x hy hx => (hw j x y hx hy).2.2⟩), zip_same' hl fun j x y hx hy => (hw j x y hx hy).1.2]
theorem meetR_self {A DB : List Bd} (hA : GoodL A DB) : meetR A A = (A, 0) :=
  (meetR_wide hA hA fun j x y hx hy => by rw [hx] at hy; cases hy; exact ⟨fun z h => h, fun z h => h⟩).1
theorem meetR_def {A DB : List Bd} (hA : GoodL A DB) (hd : DefOk DB) : meetR A DB = (A, 0) ∧ meetR DB A = (A, 0) :=
  meetR_wide hA (goodL_def hd) fun j x d hx hd' => ⟨(by rw [(hd d (List.mem_of_getElem? hd')).1]; intro z hz; cases hz), (hA.2 j x d hx hd').s2⟩
/-- What the meet of bounds that fit answers. -/
theorem meetR_good {A B DB : List Bd} (hA : GoodL A DB) (hB : GoodL B DB) : (allB okX A B = true ∧ meetR A B = (List.zipWith meetX A B, 0) ∧ GoodL (List.zipWith meetX A B) DB) ∨ (allB okX A B = false ∧ meetR A B = ([], 100)) := by
  cases hk : allB okX A B with
  | false => exact .inr ⟨rfl, by rw [meetR, allMeet_good hA hB, if_pos rfl, hk]; rfl⟩
  | true =>
    refine .inl ⟨rfl, by rw [meetR, allMeet_good hA hB, if_pos rfl, hk]; rfl, ?_, fun j m d hm hd => ?_⟩
    · rw [List.length_zipWith, hA.1, hB.1, Nat.min_self]
    · rw [List.getElem?_zipWith] at hm
      cases hx : A[j]? with
      | none => rw [hx] at hm; simp at hm
      | some x =>
        cases hy : B[j]? with
        | none => rw [hx, hy] at hm; simp at hm
        | some y =>
          rw [hx, hy] at hm
          cases hm
          exact meetX_good (hA.2 j x d hx hd) (hB.2 j y d hy hd) ((allB_iff.1 hk).2 j x y hx hy)
theorem zip_at {A B : List Bd} {j : Nat} {m : Bd} (h : (List.zipWith meetX A B)[j]? = some m) : ∃ x y, A[j]? = some x ∧ B[j]? = some y ∧ m = meetX x y := by
  rw [List.getElem?_zipWith] at h
  cases hx : A[j]? with
  | none => rw [hx] at h; simp at h
  | some x =>
    cases hy : B[j]? with
    | none => rw [hx, hy] at h; simp at h
    | some y =>
      rw [hx, hy] at h
      cases h
      exact ⟨x, y, rfl, rfl, rfl⟩
/-- A meet is narrower than each. -/
theorem meet_narrow {A B DB : List Bd} (hA : GoodL A DB) (hB : GoodL B DB) {j : Nat} {m x y : Bd} (hm : (List.zipWith meetX A B)[j]? = some m) (hx : A[j]? = some x) (hy : B[j]? = some y) :
    ((∀ z ∈ x.1.2, z ∈ m.1.2) ∧ ∀ z ∈ m.2.2, z ∈ x.2.2) ∧ (∀ z ∈ y.1.2, z ∈ m.1.2) ∧ ∀ z ∈ m.2.2, z ∈ y.2.2 := by
  obtain ⟨x', y', hx', hy', rfl⟩ := zip_at hm
  rw [hx] at hx'
  rw [hy] at hy'
  cases hx'
  cases hy'
  obtain ⟨d, hd⟩ := getL hA.1 hx
  have gx := hA.2 j x d hx hd
  have gy := hB.2 j y d hy hd
  exact ⟨⟨fun z hz => (mem_union gx.u1 gy.u1).2 (.inl hz), fun z hz => ((mem_inter gx.u2 gy.u2).1 hz).1⟩, fun z hz => (mem_union gx.u1 gy.u1).2 (.inr hz), fun z hz => ((mem_inter gx.u2 gy.u2).1 hz).2⟩
theorem freeTo_le {X A : List Bd} (hl : X.length = A.length) (h : ∀ (j : Nat) (x y : Bd), X[j]? = some x → A[j]? = some y → (diffL x.2.2 x.1.2).length ≤ (diffL y.2.2 y.1.2).length) : ∀ n, (freeTo X n).length ≤ (freeTo A n).length
  | 0 => Nat.le_refl _
  | n + 1 => by
    have ih := freeTo_le hl h n
    cases hx : X[n]? with
    | none =>
      have : A[n]? = none := by rw [List.getElem?_eq_none_iff] at hx ⊢; omega
      rw [freeTo, freeTo, hx, this]; simpa using ih
    | some x =>
      obtain ⟨y, hy⟩ := getL hl hx
      rw [freeTo_succ hx, freeTo_succ hy, List.length_append, List.length_append, freeX, freeX, List.length_map, List.length_map]
      have := h n x y hx hy
      omega
theorem free_narrow {x y d : Bd} (hx : GoodB x d) (hy : GoodB y d) (h1 : ∀ z ∈ y.1.2, z ∈ x.1.2) (h2 : ∀ z ∈ x.2.2, z ∈ y.2.2) : (diffL x.2.2 x.1.2).length ≤ (diffL y.2.2 y.1.2).length :=
  up_sub_len (merge_up _ _ _ hx.u2 hx.u1) (merge_up _ _ _ hy.u2 hy.u1) fun z hz => by
    obtain ⟨a, b⟩ := (mem_diff hx.u2 hx.u1).1 hz
    exact (mem_diff hy.u2 hy.u1).2 ⟨h2 z a, fun h => b (h1 z h)⟩
theorem freeTo_short {A : List Bd} (h : ∀ x ∈ A, x.2.2.length ≤ 125 ∧ x.1.2.length ≤ 125) : ∀ n, (freeTo A n).length ≤ n * 250
  | 0 => by simp [freeTo]
  | n + 1 => by
    have ih := freeTo_short h n
    rw [Nat.succ_mul]
    cases hx : A[n]? with
    | none => rw [freeTo, hx, List.append_nil]; exact Nat.le_trans ih (Nat.le_add_right _ _)
    | some x =>
      rw [freeTo_succ hx, List.length_append, freeX, List.length_map]
      have h1 := h x (List.mem_of_getElem? hx)
      exact Nat.add_le_add ih (Nat.le_trans (merge_len (fun x y => x && !y) x.2.2 x.1.2) (by omega))
end Go.Proofs.Ytbddpjofhddilaa
/- What the laws of bounds share. -/
namespace Go.Proofs.Ytbddpjofhddilaa
open Go.RowKit

theorem fits_setup {ns : Nat} {F : List Fd} {zs : List Int} {st : Int} (h : fitsS ns F zs st = true) :
    (∀ z ∈ zs, 0 ≤ z) ∧ (∀ z ∈ zs.map Int.toNat, z ≤ 5) ∧ (zs.map Int.toNat).length ≤ 4 ∧ F.length ≤ 6 ∧ (∀ f ∈ F, f.2.1 ≠ [] ∧ f.2.1.length ≤ 3) ∧ (∀ f ∈ F, fits (zs.map Int.toNat).length f.2.1 = true) ∧ sum (zs.map Int.toNat) ≤ 12 ∧ zs.length ≤ 4 := by
  obtain ⟨⟨_, _, h3, h4⟩, hf, hv⟩ := fitsS_iff.1 h
  rw [validI_sized, Bool.and_eq_true, decide_eq_true_eq] at hv
  obtain ⟨hk, hs⟩ := hv
  simp only [sizedR, Bool.and_eq_true, decide_eq_true_eq] at hs
  have hz : ∀ z ∈ zs, 1 ≤ z ∧ z ≤ 5 := fun z hz => sized_at hs.1.2 hz
  refine ⟨fun z h => by have := hz z h; omega, fun z h => ?_, by rw [List.length_map]; exact h4, h3, fun f h => ?_, fun f h => ?_, hs.2, h4⟩
  · obtain ⟨y, hy, rfl⟩ := List.mem_map.1 h
    have := hz y hy
    omega
  · have h1 := (fieldOk_iff.1 (hf f h)).1
    exact ⟨fun e => by rw [e] at h1; simp at h1, h1.2⟩
  · have h1 := fieldOk_iff.1 (hf f h)
    simp only [fits, decide_eq_true_eq, List.length_map]
    exact ⟨by omega, h1.1.2, fun s hs => by have := h1.2 s hs; omega⟩
theorem defOk {zs : List Nat} {F : List Fd} (hz : ∀ z ∈ zs, z ≤ 5) (hf : ∀ f ∈ F, f.2.1.length ≤ 3) : DefOk (F.map (defX zs)) := fun d hd => by
  obtain ⟨f, hff, rfl⟩ := List.mem_map.1 hd
  refine ⟨rfl, ?_, fullL_len hz (hf f hff)⟩
  show Up (fullL zs f.2.1)
  unfold fullL
  split
  · exact List.pairwise_map.2 ((digs_sorted _ _).imp fun h => by simpa using h)
  · exact List.Pairwise.nil
theorem meetG {w : World} {a a' : Option Addr} {c c' n : Nat} {A B M : List Bd} {E k : Nat} (hA : Bds w a c A) (hB : Bds w a' c' B) (hn : A.length = n) (hn' : B.length = n) (hl : n ≤ 6) (h1 : ∀ x ∈ A, x.1.2.length ≤ 125 ∧ x.2.2.length ≤ 125) (h2 : ∀ x ∈ B, x.1.2.length ≤ 125 ∧ x.2.2.length ≤ 125) (hM : meetR A B = (M, E)) (hk : M.length = k) :
    Calls Try.prog 48 #[.slice a n c, .slice a' n c'] w fun e w' => ∃ r q, e = .returned (.tuple #[.slice r k q, .int .i64 (E : Int)]) ∧ Bds w' r q M ∧ w.grownBy w' none := by
  have h := meet_calls A B a a' c c' w hA hB (by omega) (fun x hx => by have := h1 x hx; omega) (fun x hx => by have := h2 x hx; omega)
  rw [hn, hn'] at h
  refine h.mono fun e w' ⟨r, q, he, hs, hg⟩ => ?_
  rw [hM] at he hs
  rw [hk] at he
  exact ⟨r, q, he, hs.here, hg⟩
theorem equalG {w : World} {a a' : Option Addr} {c c' n : Nat} {A B : List Bd} {Q : Bool} (hA : Bds w a c A) (hB : Bds w a' c' B) (hn : A.length = n) (hn' : B.length = n) (hl : n ≤ 6) (h1 : ∀ x ∈ A, x.1.2.length ≤ 125 ∧ x.2.2.length ≤ 125) (h2 : ∀ x ∈ B, x.1.2.length ≤ 125 ∧ x.2.2.length ≤ 125) (hQ : decide (A = B) = Q) :
    Calls Try.prog 42 #[.slice a n c, .slice a' n c'] w fun e w' => e = .returned (.bool Q) ∧ w.grownBy w' none := by
  have h := bEqual_calls A B a a' c c' w hA hB ⟨by omega, fun x hx => by have := h1 x hx; omega⟩ ⟨by omega, fun x hx => by have := h2 x hx; omega⟩
  rw [hn, hn', hQ] at h
  exact h
theorem freeG {w : World} {a : Option Addr} {c n k : Nat} {A : List Bd} (hA : Bds w a c A) (hn : A.length = n) (hl : n ≤ 6) (h1 : ∀ x ∈ A, x.1.2.length ≤ 125 ∧ x.2.2.length ≤ 125) (hk : (freeTo A n).length = k) :
    Calls Try.prog 54 #[.slice a n c] w fun e w' => ∃ r q, e = .returned (.slice r k q) ∧ Prs w' r q (freeTo A n) ∧ w.grownBy w' none := by
  have hs := freeTo_short (A := A) (fun x hx => by have := h1 x hx; omega) n
  have h := free_calls A a c w hA (by omega) (fun x hx => by have := h1 x hx; omega) (by rw [hn]; have := Nat.mul_le_mul_right 250 hl; omega)
  rw [hn] at h
  refine h.mono fun e w' ⟨r, q, he, hs, hg⟩ => ?_
  rw [hn] at he hs
  rw [hk] at he
  exact ⟨r, q, he, hs.here, hg⟩
/-- The boxes of a law's specification and scope. -/
structure Bx9 (g : Nat) (p0 p1 p2 p3 q0 q1 : Value) (U : World) : Prop where
  c0 : U.cell? ⟨g, 0, none⟩ = some p0
  c1 : U.cell? ⟨g, 1, none⟩ = some p1
  c2 : U.cell? ⟨g, 2, none⟩ = some p2
  c3 : U.cell? ⟨g, 3, none⟩ = some p3
  d0 : U.cell? ⟨g + 1, 0, none⟩ = some q0
  d1 : U.cell? ⟨g + 1, 1, none⟩ = some q1
theorem Bx9.grown {g : Nat} {p0 p1 p2 p3 q0 q1 : Value} {U U' : World} (h : Bx9 g p0 p1 p2 p3 q0 q1 U) (hg : U.grownBy U' none) : Bx9 g p0 p1 p2 p3 q0 q1 U' :=
  ⟨hg.cell h.c0 (by simp), hg.cell h.c1 (by simp), hg.cell h.c2 (by simp), hg.cell h.c3 (by simp), hg.cell h.d0 (by simp), hg.cell h.d1 (by simp)⟩
theorem Bx9.new (w : World) (p0 p1 p2 p3 q0 q1 : Value) : Bx9 w.heap.size p0 p1 p2 p3 q0 q1 ((w.alloc (.cells #[p0, p1, p2, p3] 27)).alloc (.cells #[q0, q1] 30)) ∧ w.grownBy ((w.alloc (.cells #[p0, p1, p2, p3] 27)).alloc (.cells #[q0, q1] 30)) none :=
  ⟨⟨by go_simp, by go_simp, by go_simp, by go_simp, by go_simp, by go_simp⟩, (World.grownBy_alloc _ _ none).trans (World.grownBy_alloc _ _ none)⟩
end Go.Proofs.Ytbddpjofhddilaa
/- From a law's walk to its row, for the laws of bounds: what came in. -/
namespace Go.Proofs.Ytbddpjofhddilaa
open Go.ChangeShapes Go.WideShapes Go.ChangeAt Go.WideMaps Go.WideElems Go.RowKit Go.Deep Go.Joins

theorem own : ownKnob Try.prog.godebug = none := by kernel_rfl
theorem below_of {w w' : World} (h : w.grownBy w' none) : Below w.heap.size w w' := ⟨h.os, h.tape, h.output, h.size, fun k hk => h.block k hk (by simp)⟩
theorem laidOut : laidOutB Try.prog = true := by kernel_rfl
/-- Arguments of these types read on as they read, where nothing that lay has turned. -/
theorem trodAll_below' {H : Type} {enc : TypeId × Value → H} {P : Program} (hl : laidOutB P = true) {W W' : World} (hb : Below W.heap.size W W') : ∀ {ts : List TypeId} {vs : List Value} {ds : List (DataW H)} {ps : List MemPlace},
    (ts.all fun t => P.readableRec t && decide (t < P.types.size)) = true → DataW.TrodAll enc P W 0 (fun _ => true) true ts vs ds ps → (∀ x ∈ ps, x.block < W.heap.size) →
    DataW.TrodAll enc P W' 0 (fun b => decide (b < W.heap.size)) true ts vs ds ps
  | [], _, _, _, _, h, _ => by
    obtain ⟨rfl, rfl, rfl⟩ := trodAll_nil h
    exact trodAll_mk0
  | t :: ts, vs, ds, ps, ht, h, hlt => by
    obtain ⟨v, vs', d, ds', p, q, rfl, rfl, rfl, hd, hrest⟩ := trodAll_cons h
    simp only [List.all_cons, Bool.and_eq_true, decide_eq_true_eq] at ht
    exact ⟨p, q, Below.trod hl ht.1.1 ht.1.2 hd hb (fun x hx => hlt x (by simp [hx])), trodAll_below' hl hb (by simpa using ht.2) hrest (fun x hx => hlt x (by simp [hx])), rfl⟩
theorem trodAll_below {H : Type} {enc : TypeId × Value → H} {W W' : World} (hb : Below W.heap.size W W') {ts : List TypeId} {vs : List Value} {ds : List (DataW H)} {ps : List MemPlace}
    (ht : (ts.all fun t => Try.prog.readableRec t && decide (t < Try.prog.types.size)) = true) (h : DataW.TrodAll enc Try.prog W 0 (fun _ => true) true ts vs ds ps) (hlt : ∀ x ∈ ps, x.block < W.heap.size) :
    DataW.TrodAll enc Try.prog W' 0 (fun b => decide (b < W.heap.size)) true ts vs ds ps := trodAll_below' laidOut hb ht h hlt

set_option maxRecDepth 100000
section
variable {H : Type} {enc : TypeId × Value → H} {W : World}
theorem add_off (b o j : Nat) : (⟨b, o, none⟩ : Addr).add j = ⟨b, o + j, none⟩ := by unfold Addr.add; split <;> simp_all
/-- A cell that reads as a slice, whose elements are opened by each. -/
theorem slice_open {t e k : Nat} {α : Type} [Inhabited α] (P : α → Nat → Nat → Prop) (ht : Try.prog.underlying t = some (.slice e)) (hk : Try.prog.cellsOf e = k)
    (each : ∀ (n : Nat) (a : Addr) (cs : List Value) (x : DataW H × List MemPlace), W.cells? 0 a k = some cs → DataW.trod enc Try.prog W 0 (fun _ => true) true n e cs = some x → ∃ (y : α) (b o : Nat), a = ⟨b, o, none⟩ ∧ P y b o)
    {n : Nat} {v : Value} {x : DataW H × List MemPlace} (h : DataW.trod enc Try.prog W 0 (fun _ => true) true n t [v] = some x) :
    ∃ (l : List α) (a : Option Addr) (c : Nat), v = .slice a l.length c ∧ l.length ≤ c ∧ (l.length : Int) ≤ 9223372036854775807 ∧ ∀ (j : Nat) (y : α), l[j]? = some y → ∃ b o, a = some ⟨b, o, none⟩ ∧ P y b (o + j * k) := by
  rcases open_slice ht h with ⟨hcs, _⟩ | ⟨a, len, cap, m, n', D, Pl, hcs, _, hl, hm, hmm, _, hx⟩
  · injection hcs with hcs _
    subst hcs
    exact ⟨[], none, 0, rfl, Nat.le_refl _, by simp, fun j y hj => by simp at hj⟩
  · injection hcs with hcs _
    subst hcs
    simp only [if_true] at hmm
    subst hmm
    have h1 : ∀ i, i < len → ∃ y : α, ∃ b o, a.add (i * k) = ⟨b, o, none⟩ ∧ P y b o := by
      intro i hi
      obtain ⟨cs', hc, ht'⟩ := hx i (by omega)
      rw [hk] at hc
      exact each _ _ _ _ hc ht'
    obtain ⟨f, hf⟩ := choose_lt h1
    have hlen : ((List.range len).map f).length = len := by simp
    refine ⟨(List.range len).map f, some a, m, by rw [hlen], by rw [hlen]; exact hl, by rw [hlen]; unfold maxLen at hm; omega, fun j y hj => ?_⟩
    have hjl : j < len := by have := (List.getElem?_eq_some_iff.1 hj).1; rwa [hlen] at this
    rw [List.getElem?_map, List.getElem?_range hjl] at hj
    simp only [Option.map_some, Option.some.injEq] at hj
    subst hj
    obtain ⟨b0, o0, e0, _⟩ := hf 0 (by omega)
    rw [Nat.zero_mul, show a.add 0 = a from rfl] at e0
    subst e0
    obtain ⟨b, o, e, hp⟩ := hf j hjl
    rw [add_off] at e
    simp only [Addr.mk.injEq, and_true] at e
    obtain ⟨rfl, rfl⟩ := e
    exact ⟨b0, o0, rfl, hp⟩
theorem intsW_open {n : Nat} {v : Value} {x : DataW H × List MemPlace} (h : DataW.trod enc Try.prog W 0 (fun _ => true) true n 28 [v] = some x) :
    ∃ (zs : List Int) (ra : Option Addr) (rc : Nat), v = .slice ra zs.length rc ∧ IntsW W ra rc zs ∧ (zs.length : Int) ≤ 9223372036854775807 := by
  obtain ⟨l, a, c, e, hc, hm, hl⟩ := slice_open (α := Int) (k := 1) (fun z b o => W.cell? ⟨b, o, none⟩ = some (.int .i64 z)) Try.underlying28 (by kernel_rfl) (fun n a cs x hc h => by
    obtain ⟨_, hlen, hat⟩ := World.cells?_some hc
    match cs, hlen with
    | [c0], _ =>
      obtain ⟨z, e0, _, _⟩ := DataW.trod_int Try.underlying3 h
      injection e0 with e0 _
      subst e0
      have a0 := hat 0 (by omega)
      obtain ⟨b, o, spot⟩ := a
      have hspot : spot = none := by simpa [Addr.add] using World.cell?_spot a0
      subst hspot
      exact ⟨z, b, o, rfl, by simpa [Addr.add] using a0⟩) h
  refine ⟨l, a, c, e, ⟨hc, ?_⟩, hm⟩
  cases l with
  | nil => exact .inl rfl
  | cons z l =>
    obtain ⟨b, o, rfl, _⟩ := hl 0 z rfl
    refine .inr ⟨b, o, rfl, fun j y hj => ?_⟩
    obtain ⟨b', o', e', hc'⟩ := hl j y hj
    cases e'
    rw [Nat.mul_one] at hc'
    exact hc'
theorem block_in {a : Addr} {len cap : Nat} {base : Nat} (hok : Cell.okWide Try.prog W .any base 28 (.slice (some a) len cap)) : a.spot = none ∧ a.block < W.heap.size := by
  have h : len ≤ cap ∧ (cap : Int) ≤ IntKind.i64.max ∧ W.has Try.prog .any base a 3 cap := by
    simpa [Cell.okWide, Cell.ok, Try.underlying28] using hok
  obtain ⟨_, _, _, hs, row, cells, hsh, _⟩ := h
  refine ⟨hs, ?_⟩
  unfold World.shape? at hsh
  split at hsh
  · rename_i he; exact (Array.getElem?_eq_some_iff.1 he).1
  · cases hsh
theorem ints_open {n : Nat} {v : Value} {base : Nat} {x : DataW H × List MemPlace} (h : DataW.trod enc Try.prog W 0 (fun _ => true) true n 28 [v] = some x) (hok : Cell.okWide Try.prog W .any base 28 v) :
    ∃ (zs : List Int) (ra : Option Addr) (rc : Nat), v = .slice ra zs.length rc ∧ Ints W ra rc zs ∧ (zs.length : Int) ≤ 9223372036854775807 := by
  obtain ⟨zs, ra, rc, rfl, hi, hm⟩ := intsW_open h
  refine ⟨zs, ra, rc, rfl, ?_, hm⟩
  cases ra with
  | none =>
    rcases open_slice Try.underlying28 h with ⟨hcs, _⟩ | ⟨a, len, cap, m, n', D, Pl, hcs, _⟩
    · injection hcs with hcs _
      injection hcs with _ h1 h2
      have hz := List.eq_nil_of_length_eq_zero h1
      subst hz h2
      exact ⟨Nat.le_refl _, .inl ⟨rfl, rfl, rfl⟩⟩
    · injection hcs with hcs _
      injection hcs with h0 _ _
      cases h0
  | some a =>
    obtain ⟨hs, hb⟩ := block_in hok
    obtain ⟨b, o, spot⟩ := a
    obtain rfl : spot = none := hs
    refine ⟨hi.1, .inr ⟨b, o, rfl, hb, fun j z hj => ?_⟩⟩
    obtain ⟨b', o', e, hc⟩ := hi.at hj
    cases e
    exact hc
/-- Fields that came in. -/
theorem fields_open9 {n : Nat} {v : Value} {x : DataW H × List MemPlace} (h : DataW.trod enc Try.prog W 0 (fun _ => true) true n 23 [v] = some x) :
    ∃ (l : List Fd) (a : Option Addr) (c : Nat), v = .slice a l.length c ∧ Fields W a c l ∧ (l.length : Int) ≤ 9223372036854775807 := by
  obtain ⟨l, a, c, e, hc, hm, hl⟩ := slice_open (α := Fd) (k := 3) (fun f b o => FieldAt W b o f) Try.underlying23 (by kernel_rfl) (fun n a cs x hc h => by
    obtain ⟨_, hlen, hat⟩ := World.cells?_some hc
    obtain ⟨x0, x1, x2, m, _, _, f0, f1, f2⟩ := trod_struct3 Try.underlying51 h
    match cs, hlen with
    | [c0, c1, c2], _ =>
      have k9 : Try.prog.cellsOf 9 = 1 := by kernel_rfl
      have k28 : Try.prog.cellsOf 28 = 1 := by kernel_rfl
      have k4 : Try.prog.cellsOf 4 = 1 := by kernel_rfl
      have g0 : DataW.trod enc Try.prog W 0 (fun _ => true) true m 9 [c0] = some x0 := by
        have f : DataW.trod enc Try.prog W 0 (fun _ => true) true m 9 (([c0, c1, c2].drop 0).take (Try.prog.cellsOf 9)) = some x0 := f0
        rw [k9] at f; exact f
      have g1 : DataW.trod enc Try.prog W 0 (fun _ => true) true m 28 [c1] = some x1 := by
        have f : DataW.trod enc Try.prog W 0 (fun _ => true) true m 28 (([c0, c1, c2].drop 1).take (Try.prog.cellsOf 28)) = some x1 := f1
        rw [k28] at f; exact f
      have g2 : DataW.trod enc Try.prog W 0 (fun _ => true) true m 4 [c2] = some x2 := by
        have f : DataW.trod enc Try.prog W 0 (fun _ => true) true m 4 (([c0, c1, c2].drop 2).take (Try.prog.cellsOf 4)) = some x2 := f2
        rw [k4] at f; exact f
      obtain ⟨s, d0, _, _⟩ := DataW.trod_string Try.underlying9 g0
      injection d0 with d0 _
      obtain ⟨ss, ra, rc, rfl, hi, _⟩ := intsW_open g1
      obtain ⟨y, d2, _, _⟩ := DataW.trod_bool Try.underlying4 g2
      injection d2 with d2 _
      subst d0 d2
      have a0 := hat 0 (by omega)
      have a1 := hat 1 (by omega)
      have a2 := hat 2 (by omega)
      obtain ⟨b, o, spot⟩ := a
      have hspot : spot = none := by simpa [Addr.add] using World.cell?_spot a0
      subst hspot
      rw [add_off] at a0 a1 a2
      exact ⟨(s, ss, y), b, o, rfl, by simpa using a0, ⟨ra, rc, by simpa using a1, hi⟩, by simpa using a2⟩) h
  exact ⟨l, a, c, e, ⟨hc, hl⟩, hm⟩
theorem slice_shape {t e : TypeId} {n : Nat} {v : Value} {x : DataW H × List MemPlace} (ht : Try.prog.underlying t = some (.slice e)) (h : DataW.trod enc Try.prog W 0 (fun _ => true) true n t [v] = some x) : ∃ a len cap, v = .slice a len cap := by
  rcases DataW.trod_slice ht h with ⟨h1, _⟩ | ⟨a, len, cap, _, _, _, _, h1, _⟩
  · injection h1 with h1 _; exact ⟨_, _, _, h1⟩
  · injection h1 with h1 _; exact ⟨_, _, _, h1⟩
/-- A specification that came in. -/
theorem open_spec9 {v : Value} {d : DataW H} {ps : List MemPlace} {base : Nat} (hv : Value.okWide Try.prog W .any base 27 v) (h : DataW.Trod enc Try.prog W 0 (fun _ => true) true 27 v d ps) :
    ∃ (s1 : Option Addr) (ns c1 : Nat) (F : List Fd) (fa : Option Addr) (fc : Nat) (a3 : Option Addr) (n3 c3 : Nat) (a4 : Option Addr) (n4 c4 : Nat), v = .agg #[.slice s1 ns c1, .slice fa F.length fc, .slice a3 n3 c3, .slice a4 n4 c4] ∧ Fields W fa fc F ∧ (F.length : Int) ≤ 9223372036854775807 := by
  obtain ⟨v0, v1, v2, v3, y0, y1, y2, y3, n, rfl, _, _, h0, h1, h2, h3⟩ := open_agg4 Try.underlying27 (by kernel_rfl) (by kernel_rfl) hv h
  obtain ⟨s1, ns, c1, rfl⟩ := slice_shape Try.underlying22 h0
  obtain ⟨F, fa, fc, rfl, hF, hm⟩ := fields_open9 h1
  obtain ⟨a3, n3, c3, rfl⟩ := slice_shape Try.underlying24 h2
  obtain ⟨a4, n4, c4, rfl⟩ := slice_shape Try.underlying25 h3
  exact ⟨s1, ns, c1, F, fa, fc, a3, n3, c3, a4, n4, c4, rfl, hF, hm⟩
/-- A scope that came in. -/
theorem open_scope9 {v : Value} {d : DataW H} {ps : List MemPlace} {base : Nat} (hv : Value.okWide Try.prog W .any base 30 v) (h : DataW.Trod enc Try.prog W 0 (fun _ => true) true 30 v d ps) :
    ∃ (us : List Int) (sa : Option Addr) (sc : Nat) (st : Int), v = .agg #[.slice sa us.length sc, .int .i64 st] ∧ Ints W sa sc us ∧ (us.length : Int) ≤ 9223372036854775807 := by
  obtain ⟨cs, rfl, hsz⟩ := okWide_struct Try.underlying30 hv
  have k30 : Try.prog.cellsOf 30 = 2 := by kernel_rfl
  have k28 : Try.prog.cellsOf 28 = 1 := by kernel_rfl
  have k3 : Try.prog.cellsOf 3 = 1 := by kernel_rfl
  obtain ⟨c0, c1, rfl⟩ := array2 (hsz.trans k30)
  obtain ⟨fuel, hf0⟩ := h
  obtain ⟨y0, y1, m', _, _, q0, q1⟩ := trod_struct2 Try.underlying30 hf0
  have e0 : DataW.trod enc Try.prog W 0 (fun _ => true) true m' 28 [c0] = some y0 := by
    have f : DataW.trod enc Try.prog W 0 (fun _ => true) true m' 28 (([c0, c1].drop 0).take (Try.prog.cellsOf 28)) = some y0 := q0
    rw [k28] at f; exact f
  have e1 : DataW.trod enc Try.prog W 0 (fun _ => true) true m' 3 [c1] = some y1 := by
    have f : DataW.trod enc Try.prog W 0 (fun _ => true) true m' 3 (([c0, c1].drop 1).take (Try.prog.cellsOf 3)) = some y1 := q1
    rw [k3] at f; exact f
  unfold Value.okWide at hv
  rw [Try.underlying30] at hv
  obtain ⟨cs, hcs, _, ts, hts, _, hrow⟩ := hv
  injection hcs with hcs
  subst hcs
  have hc : Try.prog.cellTypes Try.prog.depth 30 = some [28, 3] := by kernel_rfl
  rw [hc] at hts
  injection hts with hts
  subst hts
  obtain ⟨u, hu, hok⟩ := hrow 0 c0 rfl
  have hu28 : u = 28 := by simpa using hu.symm
  subst hu28
  obtain ⟨us, sa, sc, rfl, hi, hm⟩ := ints_open e0 hok
  obtain ⟨st, d1, _, _⟩ := DataW.trod_int Try.underlying3 e1
  injection d1 with d1 _
  subst d1
  exact ⟨us, sa, sc, st, rfl, hi, hm⟩
theorem u8s_open {n : Nat} {v : Value} {x : DataW H × List MemPlace} (h : DataW.trod enc Try.prog W 0 (fun _ => true) true n 120 [v] = some x) :
    ∃ (zs : List Nat) (ra : Option Addr) (rc : Nat), v = .slice ra zs.length rc ∧ U8s W ra rc zs ∧ (zs.length : Int) ≤ 9223372036854775807 ∧ ∀ z ∈ zs, z < 256 := by
  obtain ⟨l, a, c, e, hc, hm, hl⟩ := slice_open (α := Nat) (k := 1) (fun z b o => W.cell? ⟨b, o, none⟩ = some (.int .u8 (z : Int)) ∧ z < 256) Try.underlying120 (by kernel_rfl) (fun n a cs x hc h => by
    obtain ⟨_, hlen, hat⟩ := World.cells?_some hc
    match cs, hlen with
    | [c0], _ =>
      obtain ⟨z, e0, _, wx⟩ := DataW.trod_int Try.underlying5 h
      injection e0 with e0 _
      subst e0
      have hw : 0 ≤ z ∧ z < 256 := by
        simp [Lit.wf, IntKind.min, IntKind.max, IntKind.bits, IntKind.signed] at wx
        omega
      have a0 := hat 0 (by omega)
      obtain ⟨b, o, spot⟩ := a
      have hspot : spot = none := by simpa [Addr.add] using World.cell?_spot a0
      subst hspot
      exact ⟨z.toNat, b, o, rfl, by rw [Int.toNat_of_nonneg hw.1]; simpa [Addr.add] using a0, by omega⟩) h
  refine ⟨l, a, c, e, ⟨hc, fun j z hj => ?_⟩, hm, fun z hz => ?_⟩
  · obtain ⟨b, o, e', hc', _⟩ := hl j z hj
    rw [Nat.mul_one] at hc'
    exact ⟨b, o, e', hc'⟩
  · obtain ⟨j, hj⟩ := List.getElem?_of_mem hz
    obtain ⟨_, _, _, _, h'⟩ := hl j z hj
    exact h'
theorem raws_open {n : Nat} {v : Value} {x : DataW H × List MemPlace} (h : DataW.trod enc Try.prog W 0 (fun _ => true) true n 71 [v] = some x) :
    ∃ (L : List (List Nat)) (ra : Option Addr) (rc : Nat), v = .slice ra L.length rc ∧ Raws W ra rc L ∧ RawOk L := by
  obtain ⟨l, a, c, e, hc, hm, hl⟩ := slice_open (α := List Nat) (k := 1) (fun l b o => (∃ a' c', W.cell? ⟨b, o, none⟩ = some (.slice a' l.length c') ∧ U8s W a' c' l) ∧ (l.length : Int) ≤ 9223372036854775807 ∧ ∀ z ∈ l, z < 256) Try.underlying71 (by kernel_rfl) (fun n a cs x hc h => by
    obtain ⟨_, hlen, hat⟩ := World.cells?_some hc
    match cs, hlen with
    | [c0], _ =>
      obtain ⟨l, ra, rc, rfl, hr, hb, hz⟩ := u8s_open h
      have a0 := hat 0 (by omega)
      obtain ⟨b, o, spot⟩ := a
      have hspot : spot = none := by simpa [Addr.add] using World.cell?_spot a0
      subst hspot
      exact ⟨l, b, o, rfl, ⟨ra, rc, by simpa [Addr.add] using a0, hr⟩, hb, hz⟩) h
  refine ⟨l, a, c, e, ⟨hc, fun j y hj => ?_⟩, hm, fun y hy => ?_⟩
  · obtain ⟨b, o, e', h', _⟩ := hl j y hj
    rw [Nat.mul_one] at h'
    exact ⟨b, o, e', h'⟩
  · obtain ⟨j, hj⟩ := List.getElem?_of_mem hy
    obtain ⟨_, _, _, _, h'⟩ := hl j y hj
    exact h'
theorem bools_open {n : Nat} {v : Value} {x : DataW H × List MemPlace} (h : DataW.trod enc Try.prog W 0 (fun _ => true) true n 76 [v] = some x) :
    ∃ (L : List Bool) (ra : Option Addr) (rc : Nat), v = .slice ra L.length rc ∧ Bools W ra rc L ∧ (L.length : Int) ≤ 9223372036854775807 := by
  obtain ⟨l, a, c, e, hc, hm, hl⟩ := slice_open (α := Bool) (k := 1) (fun y b o => W.cell? ⟨b, o, none⟩ = some (.bool y)) Try.underlying76 (by kernel_rfl) (fun n a cs x hc h => by
    obtain ⟨_, hlen, hat⟩ := World.cells?_some hc
    match cs, hlen with
    | [c0], _ =>
      obtain ⟨y, e0, _, _⟩ := DataW.trod_bool Try.underlying4 h
      injection e0 with e0 _
      subst e0
      have a0 := hat 0 (by omega)
      obtain ⟨b, o, spot⟩ := a
      have hspot : spot = none := by simpa [Addr.add] using World.cell?_spot a0
      subst hspot
      exact ⟨y, b, o, rfl, by simpa [Addr.add] using a0⟩) h
  refine ⟨l, a, c, e, ⟨hc, fun j y hj => ?_⟩, hm⟩
  obtain ⟨b, o, e', h'⟩ := hl j y hj
  rw [Nat.mul_one] at h'
  exact ⟨b, o, e', h'⟩
theorem open_slice1 {t e : TypeId} {v : Value} {d : DataW H} {ps : List MemPlace} {base : Nat} (ht : Try.prog.underlying t = some (.slice e)) (hv : Value.okWide Try.prog W .any base t v) (h : DataW.Trod enc Try.prog W 0 (fun _ => true) true t v d ps) : ∃ n x, DataW.trod enc Try.prog W 0 (fun _ => true) true n t [v] = some x := by
  obtain ⟨a, len, cap, rfl⟩ := okWide_slice ht hv
  obtain ⟨fuel, hf⟩ := h
  exact ⟨_, _, hf⟩
end
end Go.Proofs.Ytbddpjofhddilaa

/- What the law of meets says of lists, and the box of its model. -/
import Derived.Test.YtbddpjofhddilaaNWN
import Derived.Deep.RegionHeld3
namespace Go.Proofs.Ytbddpjofhddilaa
open Go.RowKit

theorem meetX_comm {x y d : Bd} (hx : GoodB x d) (hy : GoodB y d) : meetX y x = meetX x y :=
  bd_ext (hy.k1.trans hx.k1.symm) (up_ext (merge_up _ _ _ hy.u1 hx.u1) (merge_up _ _ _ hx.u1 hy.u1) fun _z => ((mem_union hy.u1 hx.u1).trans or_comm).trans (mem_union hx.u1 hy.u1).symm)
    (hy.k2.trans hx.k2.symm) (up_ext (merge_up _ _ _ hy.u2 hx.u2) (merge_up _ _ _ hx.u2 hy.u2) fun _z => ((mem_inter hy.u2 hx.u2).trans and_comm).trans (mem_inter hx.u2 hy.u2).symm)
theorem zip_comm {A B DB : List Bd} (hA : GoodL A DB) (hB : GoodL B DB) : List.zipWith meetX B A = List.zipWith meetX A B := by
  apply List.ext_getElem?
  intro j
  rw [List.getElem?_zipWith, List.getElem?_zipWith]
  cases hx : A[j]? with
  | none => cases hy : B[j]? <;> rfl
  | some x =>
    cases hy : B[j]? with
    | none => rfl
    | some y =>
      obtain ⟨d, hd⟩ := getL hA.1 hx
      exact congrArg some (meetX_comm (hA.2 j x d hx hd) (hB.2 j y d hy hd))
theorem ok_comm {A B DB : List Bd} (hA : GoodL A DB) (hB : GoodL B DB) (h : allB okX A B = true) : allB okX B A = true :=
  allB_iff.2 ⟨hB.1.trans hA.1.symm, fun j y x hy hx => by
    obtain ⟨d, hd⟩ := getL hA.1 hx
    rw [okX, meetX_comm (hA.2 j x d hx hd) (hB.2 j y d hy hd)]
    exact (allB_iff.1 h).2 j x y hx hy⟩
theorem meetR_comm {A B DB : List Bd} (hA : GoodL A DB) (hB : GoodL B DB) : meetR B A = meetR A B := by
  rcases meetR_good hA hB with ⟨h1, h2, _⟩ | ⟨h1, h2⟩
  · rcases meetR_good hB hA with ⟨_, h4, _⟩ | ⟨h3, _⟩
    · rw [h2, h4, zip_comm hA hB]
    · rw [ok_comm hA hB h1] at h3; cases h3
  · rcases meetR_good hB hA with ⟨h3, _, _⟩ | ⟨_, h4⟩
    · rw [ok_comm hB hA h3] at h1; cases h1
    · rw [h2, h4]
theorem within_meet {x y d : Bd} {r : Rl} (hx : GoodB x d) (hy : GoodB y d) (hr : Up r.2) : withinB (meetX x y) r = (withinB x r && withinB y r) := by
  have u1 := merge_up (fun x y => x || y) x.1.2 y.1.2 hx.u1 hy.u1
  have u2 := merge_up (fun x y => x && y) x.2.2 y.2.2 hx.u2 hy.u2
  rw [Bool.eq_iff_iff]
  simp only [withinB, Bool.and_eq_true, decide_eq_true_eq]
  have e1 : inB (meetX x y).1.2 r.2 = true ↔ inB x.1.2 r.2 = true ∧ inB y.1.2 r.2 = true := by
    rw [inB_iff hx.u1 hr, inB_iff hy.u1 hr]
    refine (inB_iff u1 hr).trans ⟨fun h => ⟨fun z hz => h z ((mem_union hx.u1 hy.u1).2 (.inl hz)), fun z hz => h z ((mem_union hx.u1 hy.u1).2 (.inr hz))⟩, fun h z hz => ?_⟩
    rcases (mem_union hx.u1 hy.u1).1 hz with hz | hz
    · exact h.1 z hz
    · exact h.2 z hz
  have e2 : inB r.2 (meetX x y).2.2 = true ↔ inB r.2 x.2.2 = true ∧ inB r.2 y.2.2 = true := by
    rw [inB_iff hr hx.u2, inB_iff hr hy.u2]
    exact (inB_iff hr u2).trans ⟨fun h => ⟨fun z hz => ((mem_inter hx.u2 hy.u2).1 (h z hz)).1, fun z hz => ((mem_inter hx.u2 hy.u2).1 (h z hz)).2⟩, fun h z hz => (mem_inter hx.u2 hy.u2).2 ⟨h.1 z hz, h.2 z hz⟩⟩
  rw [e1, e2]
  have k1 : (meetX x y).1.1 = d.2.1 := hx.k1
  have k2 : (meetX x y).2.1 = d.2.1 := hx.k2
  rw [k1, k2, hx.k1, hx.k2, hy.k1, hy.k2]
  constructor
  · rintro ⟨⟨⟨a, b⟩, c, c'⟩, e, e'⟩
    exact ⟨⟨⟨⟨a, b⟩, c⟩, e⟩, ⟨⟨a, b⟩, c'⟩, e'⟩
  · rintro ⟨⟨⟨⟨a, b⟩, c⟩, e⟩, ⟨_, c'⟩, e'⟩
    exact ⟨⟨⟨a, b⟩, c, c'⟩, e, e'⟩
theorem insS_up {A DB : List Bd} (hA : GoodL A DB) (pk : List Bool) : ∀ r ∈ insS pk A, Up r.2 := fun r hr => by
  obtain ⟨j, hj⟩ := List.getElem?_of_mem hr
  have hjl := (List.getElem?_eq_some_iff.1 hj).1
  rw [insS_len] at hjl
  obtain ⟨x, hx⟩ : ∃ x, A[j]? = some x := ⟨_, List.getElem?_eq_getElem hjl⟩
  rw [insS_at hx] at hj
  cases hj
  obtain ⟨d, hd⟩ := getL hA.1 hx
  exact insTo_up (hA.2 j x d hx hd).u2
/-- A state lies within the meet where it lies within both. -/
theorem within_meetL {A B DB : List Bd} {S : List Rl} (hA : GoodL A DB) (hB : GoodL B DB) (hS : ∀ r ∈ S, Up r.2) (hw : allB withinB A S = true) : allB withinB (List.zipWith meetX A B) S = allB withinB B S := by
  have h := allB_iff.1 hw
  rw [Bool.eq_iff_iff, allB_iff, allB_iff]
  have hlz : (List.zipWith meetX A B).length = A.length := by rw [List.length_zipWith, hA.1, hB.1, Nat.min_self]
  constructor
  · intro k
    refine ⟨by rw [hB.1, ← hA.1, h.1], fun j y r hy hr => ?_⟩
    obtain ⟨d, hd⟩ := getL hB.1 hy
    obtain ⟨x, hx⟩ := getL (hB.1.trans hA.1.symm) hy
    have := k.2 j (meetX x y) r (by rw [List.getElem?_zipWith, hx, hy]) hr
    rw [within_meet (hA.2 j x d hx hd) (hB.2 j y d hy hd) (hS r (List.mem_of_getElem? hr)), Bool.and_eq_true] at this
    exact this.2
  · intro k
    refine ⟨by rw [hlz, h.1], fun j m r hm hr => ?_⟩
    obtain ⟨x, y, hx, hy, rfl⟩ := zip_at hm
    obtain ⟨d, hd⟩ := getL hB.1 hy
    rw [within_meet (hA.2 j x d hx hd) (hB.2 j y d hy hd) (hS r (List.mem_of_getElem? hr)), h.2 j x r hx hr, k.2 j y r hy hr]
    rfl
/-- Where there is no meet, no state lies within both. -/
theorem within_none {A B DB : List Bd} {S : List Rl} (hA : GoodL A DB) (hB : GoodL B DB) (hS : ∀ r ∈ S, Up r.2) (hw : allB withinB A S = true) (hk : allB okX A B = false) : allB withinB B S = false := by
  cases hb : allB withinB B S with
  | false => rfl
  | true =>
    have h1 := allB_iff.1 hw
    have h2 := allB_iff.1 hb
    have : allB okX A B = true := allB_iff.2 ⟨hA.1.trans hB.1.symm, fun j x y hx hy => by
      obtain ⟨d, hd⟩ := getL hA.1 hx
      obtain ⟨r, hr⟩ : ∃ r, S[j]? = some r := ⟨_, List.getElem?_eq_getElem (by rw [← h1.1]; exact (List.getElem?_eq_some_iff.1 hx).1)⟩
      have gx := hA.2 j x d hx hd
      have gy := hB.2 j y d hy hd
      have ur := hS r (List.mem_of_getElem? hr)
      have hm := within_meet gx gy ur
      rw [h1.2 j x r hx hr, h2.2 j y r hy hr] at hm
      simp only [withinB, Bool.and_self, Bool.and_eq_true] at hm
      have u1 := merge_up (fun x y => x || y) x.1.2 y.1.2 gx.u1 gy.u1
      have u2 := merge_up (fun x y => x && y) x.2.2 y.2.2 gx.u2 gy.u2
      exact (inB_iff u1 u2).2 fun z hz => (inB_iff ur u2).1 hm.2 z ((inB_iff u1 ur).1 hm.1.2 z hz)⟩
    rw [this] at hk
    cases hk
theorem insideS {w : World} {a pa : Option Addr} {c pc n pn : Nat} {A DB : List Bd} {pk : List Bool} (hA : Bds w a c A) (hp : Bools w pa pc pk) (hn : A.length = n) (hl : n ≤ 6) (h1 : ∀ x ∈ A, x.1.2.length ≤ 125 ∧ x.2.2.length ≤ 125) (hg : GoodL A DB) (hpl : (pk.length : Int) ≤ 9223372036854775807) (hpn : pk.length = pn) :
    Calls Try.prog 57 #[.slice a n c, .slice pa pn pc] w fun e w' => ∃ ra rc, e = .returned (.slice ra n rc) ∧ Span w.heap.size w'.heap.size w' (fun W => Rels W ra rc (insS pk A)) ∧ w.grownBy w' none := by
  have h := inside_calls A a c pk pa pc w hA hp (by omega) (fun x hx => by have := h1 x hx; omega) (good_up hg) hpl
  rw [hpn] at h
  subst hn
  refine h.mono fun e w' ⟨r, q, he, hs, hg⟩ => ⟨r, q, ?_, hs, hg⟩
  rw [he]
  have : (insAll pk A A.length).1.length = A.length := insS_len pk A
  rw [this]
/-- A model's box that has just been made, of zeros. -/
structure ZeroM (lo : Nat) (W : World) (g : Nat) : Prop where
  ge : lo ≤ g
  lt : g < W.heap.size
  c0 : W.cell? ⟨g, 0, none⟩ = some (.slice none 0 0)
  c1 : W.cell? ⟨g, 1, none⟩ = some (.int .i64 0)
  c2 : W.cell? ⟨g, 2, none⟩ = some (.slice none 0 0)
  c3 : W.cell? ⟨g, 3, none⟩ = some (.int .i64 0)
  f0 : W.frozen? ⟨g, 0, none⟩ = false
  f1 : W.frozen? ⟨g, 1, none⟩ = false
  f2 : W.frozen? ⟨g, 2, none⟩ = false
  f3 : W.frozen? ⟨g, 3, none⟩ = false
theorem ZeroM.new {lo : Nat} (w : World) (h : lo ≤ w.heap.size) : ZeroM lo (w.alloc (.cells #[.slice none 0 0, .int .i64 0, .slice none 0 0, .int .i64 0] 33)) w.heap.size :=
  ⟨h, by simp, by go_simp, by go_simp, by go_simp, by go_simp, by go_simp, by go_simp, by go_simp, by go_simp⟩
theorem ZeroM.grown {lo : Nat} {W W' : World} {g : Nat} (h : ZeroM lo W g) (hg : W.grownBy W' none) : ZeroM lo W' g :=
  ⟨h.ge, Nat.lt_of_lt_of_le h.lt hg.size, hg.cell h.c0 (by simp), hg.cell h.c1 (by simp), hg.cell h.c2 (by simp), hg.cell h.c3 (by simp), (grown_frozen hg h.lt 0).trans h.f0, (grown_frozen hg h.lt 1).trans h.f1, (grown_frozen hg h.lt 2).trans h.f2, (grown_frozen hg h.lt 3).trans h.f3⟩
/-- A slice's row of one. -/
def SlB (W : World) (s : Nat) (v : Value) : Prop := W.cell? ⟨s, 0, none⟩ = some v ∧ s < W.heap.size
theorem SlB.new (w : World) (v : Value) : SlB (w.alloc (.cells #[v] 40)) w.heap.size v := ⟨by go_simp, by simp⟩
theorem SlB.grown {W W' : World} {s : Nat} {v : Value} (h : SlB W s v) (hg : W.grownBy W' none) : SlB W' s v := ⟨hg.cell h.1 (by simp), Nat.lt_of_lt_of_le h.2 hg.size⟩
/-- The model of one state, in its box. -/
structure MdB (W : World) (g s : Nat) (p0 p1 : Value) (S : List Rl) : Prop where
  c0 : W.cell? ⟨g, 0, none⟩ = some p0
  c1 : W.cell? ⟨g, 1, none⟩ = some p1
  c2 : W.cell? ⟨g, 2, none⟩ = some (.slice (some ⟨s, 0, none⟩) 1 1)
  c3 : W.cell? ⟨g, 3, none⟩ = some (.int .i64 0)
  st : Sts W (some ⟨s, 0, none⟩) 1 [S]
theorem MdB.grown {W W' : World} {g s : Nat} {p0 p1 : Value} {S : List Rl} (h : MdB W g s p0 p1 S) (hg : W.grownBy W' none) : MdB W' g s p0 p1 S :=
  ⟨hg.cell h.c0 (by simp), hg.cell h.c1 (by simp), hg.cell h.c2 (by simp), hg.cell h.c3 (by simp), h.st.grown hg⟩
theorem sts_of_slb {W : World} {s n xc : Nat} {xa : Option Addr} {S : List Rl} (h : W.cell? ⟨s, 0, none⟩ = some (.slice xa n xc)) (hR : Rels W xa xc S) (hn : S.length = n) : Sts W (some ⟨s, 0, none⟩) 1 [S] :=
  ⟨Nat.le_refl _, fun j l hj => by
    match j, hj with
    | 0, hj => simp at hj; subst hj; exact ⟨s, 0, rfl, xa, xc, by rw [hn]; exact h, hR⟩⟩
theorem containsM {w : World} {a ma : Option Addr} {c mc mn n g s : Nat} {t : Int} {A : List Bd} {S : List Rl} {Q : Bool} (hA : Bds w a c A) (hn : A.length = n) (hl : n ≤ 6) (h1 : ∀ x ∈ A, x.1.2.length ≤ 125 ∧ x.2.2.length ≤ 125) (h : MdB w g s (.slice ma mn mc) (.int .i64 t) S) (hr : ∀ r ∈ S, r.2.length ≤ 125) (hQ : allB withinB A S = Q) :
    Calls Try.prog 51 #[.slice a n c, .agg #[.slice ma mn mc, .int .i64 t, .slice (some ⟨s, 0, none⟩) 1 1, .int .i64 0]] w fun e w' => e = .returned (.bool Q) ∧ w.grownBy w' none :=
  containsG hA hn hl h1 h.st (m := 1) rfl (by omega) (fun l hl r hrr => by rw [List.mem_singleton] at hl; subst hl; exact hr r hrr) (by rw [containsB, List.all_cons, List.all_nil, Bool.and_true, hQ])
end Go.Proofs.Ytbddpjofhddilaa

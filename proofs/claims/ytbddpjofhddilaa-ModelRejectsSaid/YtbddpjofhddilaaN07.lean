/- Common texts of the laws of stage 9, joined: RU TA TB TC TD TE TF TG. -/
import Derived.Test.YtbddpjofhddilaaN06
import Derived.Test.YtbddpjofhddilaaN01
import Derived.Test.YtbddpjofhddilaaN04
import Derived.Deep.RegionHeld3
/- Which specifications and models are small. -/
namespace Go.Proofs.Ytbddpjofhddilaa
open Go.RowKit

/-- A field: its name, its sorts, whether it varies. -/
abbrev Fd := ByteArray × List Int × Bool
def FieldAt (w : World) (b o : Nat) (f : Fd) : Prop :=
  w.cell? ⟨b, o, none⟩ = some (.string f.1) ∧ (∃ a c, w.cell? ⟨b, o + 1, none⟩ = some (.slice a f.2.1.length c) ∧ IntsW w a c f.2.1) ∧ w.cell? ⟨b, o + 2, none⟩ = some (.bool f.2.2)
theorem FieldAt.grown {w w' : World} {b o : Nat} {f : Fd} (h : FieldAt w b o f) (hg : w.grownBy w' none) : FieldAt w' b o f := by
  obtain ⟨h0, ⟨a, c, h1, hi⟩, h2⟩ := h
  exact ⟨hg.cell h0 (by simp), ⟨a, c, hg.cell h1 (by simp), hi.grown hg⟩, hg.cell h2 (by simp)⟩
def Fields (w : World) (a : Option Addr) (c : Nat) (l : List Fd) : Prop := l.length ≤ c ∧ ∀ (j : Nat) (f : Fd), l[j]? = some f → ∃ b o, a = some ⟨b, o, none⟩ ∧ FieldAt w b (o + j * 3) f
theorem Fields.grown {w w' : World} {a : Option Addr} {c : Nat} {l : List Fd} (h : Fields w a c l) (hg : w.grownBy w' none) : Fields w' a c l :=
  ⟨h.1, fun j x hj => by obtain ⟨b, o, ha, hc⟩ := h.2 j x hj; exact ⟨b, o, ha, hc.grown hg⟩⟩

def smallR (r : Rl) : Bool := decide (r.2.length ≤ 200)
def smallS (l : List Rl) : Bool := decide (l.length ≤ 10) && l.all smallR
def smallF (f : Fd) : Bool := decide (f.2.1.length ≤ 10)
def smallB (ns na : Nat) (F : List Fd) (L : List (List Rl)) : Bool := decide (ns ≤ 10) && decide (F.length ≤ 10) && decide (L.length ≤ 64) && decide (na ≤ 10) && L.all smallS && F.all smallF
theorem smallB_iff {ns na : Nat} {F : List Fd} {L : List (List Rl)} : smallB ns na F L = true ↔ (ns ≤ 10 ∧ F.length ≤ 10 ∧ L.length ≤ 64 ∧ na ≤ 10) ∧ L.all smallS = true ∧ F.all smallF = true := by
  simp only [smallB, Bool.and_eq_true, decide_eq_true_eq, and_assoc]
theorem small_not {ns na : Nat} {F : List Fd} {L : List (List Rl)} (h : ¬ ((ns ≤ 10 ∧ F.length ≤ 10 ∧ L.length ≤ 64 ∧ na ≤ 10) ∧ L.all smallS = true ∧ F.all smallF = true)) : smallB ns na F L = false := by
  cases hs : smallB ns na F L with
  | false => rfl
  | true => exact absurd (smallB_iff.1 hs) h
theorem all_take_succ {α : Type} {p : α → Bool} {l : List α} {i : Nat} {x : α} (h : (l.take i).all p = true) (hx : l[i]? = some x) (hp : p x = true) : (l.take (i + 1)).all p = true := by
  rw [List.take_add_one, hx, Option.toList_some, List.all_append, h]; simp [hp]
theorem all_not {α : Type} {p : α → Bool} {l : List α} {i : Nat} {x : α} (hx : l[i]? = some x) (hp : p x = false) : ¬ l.all p = true := by
  intro h
  have := List.all_eq_true.1 h x (List.mem_of_getElem? hx)
  rw [hp] at this; cases this

set_option maxRecDepth 100000 in
set_option maxHeartbeats 8000000 in
theorem small_calls (s1 fa s3 s4 : Option Addr) (ns c1 fc n3 c3 n4 c4 : Nat) (F : List Fd) (sa : Option Addr) (na sc : Nat) (st : Int) (ta : Option Addr) (L : List (List Rl)) (tc : Nat) (lp : Int) (w : World) (hF : Fields w fa fc F) (hT : Sts w ta tc L) :
    Calls Try.prog 17 #[.agg #[.slice s1 ns c1, .slice fa F.length fc, .slice s3 n3 c3, .slice s4 n4 c4], .agg #[.slice sa na sc, .int .i64 st, .slice ta L.length tc, .int .i64 lp]] w
      fun e w' => e = .returned (.bool (smallB ns na F L)) ∧ w.grownBy w' none := by
  obtain ⟨f, hf⟩ : ∃ f, F.length = f := ⟨_, rfl⟩
  obtain ⟨k, hk⟩ : ∃ k, L.length = k := ⟨_, rfl⟩
  rw [hf, hk]
  have hg := (World.grownBy_alloc w (.cells #[.slice s1 ns c1, .slice fa f fc, .slice s3 n3 c3, .slice s4 n4 c4] 27) none).trans (World.grownBy_alloc (w.alloc (.cells #[.slice s1 ns c1, .slice fa f fc, .slice s3 n3 c3, .slice s4 n4 c4] 27)) (.cells #[.slice sa na sc, .int .i64 st, .slice ta k tc, .int .i64 lp] 33) none)
  have hc := eight_cells w (.slice s1 ns c1) (.slice fa f fc) (.slice s3 n3 c3) (.slice s4 n4 c4) (.slice sa na sc) (.int .i64 st) (.slice ta k tc) (.int .i64 lp) 27 33
  have HR : Hid (∀ b, b = smallB ns na F L → smallB ns na F L = b) := Lib.hid fun b h => h.symm
  have HX := Lib.hid (And.intro hf (And.intro hk (And.intro (hF.grown hg) (hT.grown hg)))); clear hf hk hF hT
  have HG := Lib.hid hg; clear hg
  by_cases q0 : 10 < ns
  · have HF : Hid (smallB ns na F L = false) := Lib.hid (small_not (by rintro ⟨h, _⟩; have h1 := HX.out.1; have h2 := HX.out.2.1; omega))
    have f0 : decide (10 < ns) = true := decide_eq_true q0
    have g0 : decide (10 < (ns : Int)) = true := decide_eq_true (by omega)
    clear q0 hc HR
    go_enter Try.func17, Try.ntmps17
    go_wp2_with fail
    go_ret
    exact ⟨by rw [HF.out]; rfl, HG.out⟩
  have f0 : decide (10 < ns) = false := decide_eq_false q0
  have g0 : decide (10 < (ns : Int)) = false := decide_eq_false (by omega)
  by_cases q1 : 10 < f
  · have HF : Hid (smallB ns na F L = false) := Lib.hid (small_not (by rintro ⟨h, _⟩; have h1 := HX.out.1; have h2 := HX.out.2.1; omega))
    have f1 : decide (10 < f) = true := decide_eq_true q1
    have g1 : decide (10 < (f : Int)) = true := decide_eq_true (by omega)
    clear q0 q1 hc HR
    go_enter Try.func17, Try.ntmps17
    go_wp2_with fail
    go_ret
    exact ⟨by rw [HF.out]; rfl, HG.out⟩
  have f1 : decide (10 < f) = false := decide_eq_false q1
  have g1 : decide (10 < (f : Int)) = false := decide_eq_false (by omega)
  by_cases q2 : 64 < k
  · have HF : Hid (smallB ns na F L = false) := Lib.hid (small_not (by rintro ⟨h, _⟩; have h1 := HX.out.1; have h2 := HX.out.2.1; omega))
    have f2 : decide (64 < k) = true := decide_eq_true q2
    have g2 : decide (64 < (k : Int)) = true := decide_eq_true (by omega)
    clear q0 q1 q2 hc HR
    go_enter Try.func17, Try.ntmps17
    go_wp2_with fail
    go_ret
    exact ⟨by rw [HF.out]; rfl, HG.out⟩
  have f2 : decide (64 < k) = false := decide_eq_false q2
  have g2 : decide (64 < (k : Int)) = false := decide_eq_false (by omega)
  by_cases q3 : 10 < na
  · have HF : Hid (smallB ns na F L = false) := Lib.hid (small_not (by rintro ⟨h, _⟩; have h1 := HX.out.1; have h2 := HX.out.2.1; omega))
    have f3 : decide (10 < na) = true := decide_eq_true q3
    have g3 : decide (10 < (na : Int)) = true := decide_eq_true (by omega)
    clear q0 q1 q2 q3 hc HR
    go_enter Try.func17, Try.ntmps17
    go_wp2_with fail
    go_ret
    exact ⟨by rw [HF.out]; rfl, HG.out⟩
  have f3 : decide (10 < na) = false := decide_eq_false q3
  have g3 : decide (10 < (na : Int)) = false := decide_eq_false (by omega)
  have HQ := Lib.hid (show ns ≤ 10 ∧ f ≤ 10 ∧ k ≤ 64 ∧ na ≤ 10 by omega); clear q0 q1 q2 q3 HR
  obtain ⟨W, hW⟩ : ∃ W, (w.alloc (.cells #[.slice s1 ns c1, .slice fa f fc, .slice s3 n3 c3, .slice s4 n4 c4] 27)).alloc (.cells #[.slice sa na sc, .int .i64 st, .slice ta k tc, .int .i64 lp] 33) = W := ⟨_, rfl⟩
  rw [hW] at HX HG hc
  obtain ⟨⟨a0, a1, a2, a3⟩, b0, b1, b2, b3⟩ := hc
  go_enter Try.func17, Try.ntmps17
  go_wp2_with fail
  clear hW f0 f1 f2 f3 g0 g1 g2 g3
  have hk64 : k ≤ 64 := HQ.out.2.2.1
  have hf10 : f ≤ 10 := HQ.out.2.1
  go_loopg [5] k (fun g s5 wr => ∃ i : Nat, s5 = .int .i64 (i : Int) ∧ g = k - i ∧ i ≤ k ∧ (L.take i).all smallS = true ∧ wr = W)
  case atStart => exact ⟨0, rfl, rfl, Nat.zero_le _, rfl, rfl⟩
  case round =>
    obtain ⟨i, rfl, hgi, hi, hok, rfl⟩ := hrel
    have HI := Lib.hid (And.intro hgi hok); clear hgi hok
    by_cases hin : i < k
    · have hinB : decide (i < k) = true := by simpa using hin
      have hinI : (i : Int) < (k : Int) := by omega
      obtain ⟨l, hx⟩ : ∃ l, L[i]? = some l := ⟨_, List.getElem?_eq_getElem (by rw [HX.out.2.1]; exact hin)⟩
      obtain ⟨sb, so, rfl, la, lc, e0, hrels⟩ := HX.out.2.2.2.2 i l hx
      obtain ⟨p, hp⟩ : ∃ p, l.length = p := ⟨_, rfl⟩
      rw [hp] at e0
      have HL := Lib.hid (And.intro hx (And.intro hp hrels)); clear hx hp hrels
      by_cases hp10 : 10 < p
      · have HF : Hid (smallB ns na F L = false) := Lib.hid (small_not (by
          rintro ⟨_, h, _⟩
          exact all_not HL.out.1 (by rw [smallS, HL.out.2.1, decide_eq_false (by omega)]; rfl) h))
        have f0 : decide (10 < p) = true := decide_eq_true hp10
        have g0 : decide (10 < (p : Int)) = true := decide_eq_true (by omega)
        clear hp10
        go_wp2_with fail
        go_ret
        exact ⟨by rw [HF.out]; rfl, HG.out⟩
      have f0 : decide (10 < p) = false := decide_eq_false hp10
      have g0 : decide (10 < (p : Int)) = false := decide_eq_false (by omega)
      have hp10' : p ≤ 10 := by omega
      clear hp10
      go_wp2_with fail
      clear f0 g0
      go_loopg [6] p (fun g s6 wq => ∃ j : Nat, s6 = .int .i64 (j : Int) ∧ g = p - j ∧ j ≤ p ∧ (l.take j).all smallR = true ∧ wq = wr)
      case atStart => exact ⟨0, rfl, rfl, Nat.zero_le _, rfl, rfl⟩
      case round =>
        obtain ⟨j, rfl, hgj, hj, hokj, rfl⟩ := hrel
        have HJ := Lib.hid (And.intro hgj hokj); clear hgj hokj
        by_cases hjn : j < p
        · have hjB : decide (j < p) = true := by simpa using hjn
          have hjI : (j : Int) < (p : Int) := by omega
          obtain ⟨r, hy⟩ : ∃ r, l[j]? = some r := ⟨_, List.getElem?_eq_getElem (by rw [HL.out.2.1]; exact hjn)⟩
          obtain ⟨rb, ro, rfl, r0, ra, rc, r1, _⟩ := HL.out.2.2.2 j r hy
          obtain ⟨z, hz⟩ : ∃ z, r.2.length = z := ⟨_, rfl⟩
          rw [hz] at r1
          have HY := Lib.hid (And.intro hy hz); clear hy hz
          by_cases hz200 : 200 < z
          · have HF : Hid (smallB ns na F L = false) := Lib.hid (small_not (by
              rintro ⟨_, h, _⟩
              refine all_not HL.out.1 ?_ h
              rw [smallS, Bool.and_eq_false_iff]
              exact .inr (by rw [List.all_eq_false]; exact ⟨r, List.mem_of_getElem? HY.out.1, by rw [smallR, HY.out.2]; simp; omega⟩)))
            have f0 : decide (200 < z) = true := decide_eq_true hz200
            have g0 : decide (200 < (z : Int)) = true := decide_eq_true (by omega)
            clear hz200
            go_wp2_with fail
            go_ret
            exact ⟨by rw [HF.out]; rfl, HG.out⟩
          · have HS : Hid (smallR r = true) := Lib.hid (by rw [smallR, HY.out.2]; exact decide_eq_true (by omega))
            have f0 : decide (200 < z) = false := decide_eq_false hz200
            have g0 : decide (200 < (z : Int)) = false := decide_eq_false (by omega)
            clear hz200
            go_wp2_with fail
            go_roundg (p - (j + 1))
            case measure => rw [HJ.out.1]; omega
            case rel => exact ⟨j + 1, rfl, rfl, by omega, all_take_succ HJ.out.2 HY.out.1 HS.out, rfl⟩
        · have hje : j = p := by omega
          subst hje
          have hjB : decide (j < j) = false := by simp
          have HS : Hid (smallS l = true) := Lib.hid (by
            have := HJ.out.2
            rw [List.take_of_length_le (by rw [HL.out.2.1]; exact Nat.le_refl _)] at this
            rw [smallS, this, HL.out.2.1, decide_eq_true hp10']; rfl)
          go_wp2_with fail
          go_roundg (k - (i + 1))
          case measure => rw [HI.out.1]; omega
          case rel => exact ⟨i + 1, rfl, rfl, by omega, all_take_succ HI.out.2 HL.out.1 HS.out, rfl⟩
    · have hie : i = k := by omega
      subst hie
      have hinB : decide (i < i) = false := by simp
      have HLL : Hid (L.all smallS = true) := Lib.hid (by
        have := HI.out.2
        rwa [List.take_of_length_le (by rw [HX.out.2.1]; exact Nat.le_refl _)] at this)
      go_wp2_with fail
      go_loopg [7] f (fun g s7 wq => ∃ j : Nat, s7 = .int .i64 (j : Int) ∧ g = f - j ∧ j ≤ f ∧ (F.take j).all smallF = true ∧ wq = wr)
      case atStart => exact ⟨0, rfl, rfl, Nat.zero_le _, rfl, rfl⟩
      case round =>
        obtain ⟨j, rfl, hgj, hj, hokj, rfl⟩ := hrel
        have HJ := Lib.hid (And.intro hgj hokj); clear hgj hokj
        by_cases hjn : j < f
        · have hjB : decide (j < f) = true := by simpa using hjn
          have hjI : (j : Int) < (f : Int) := by omega
          obtain ⟨fd, hy⟩ : ∃ fd, F[j]? = some fd := ⟨_, List.getElem?_eq_getElem (by rw [HX.out.1]; exact hjn)⟩
          obtain ⟨rb, ro, rfl, r0, ⟨ra, rc, r1, _⟩, r2⟩ := HX.out.2.2.1.2 j fd hy
          obtain ⟨z, hz⟩ : ∃ z, fd.2.1.length = z := ⟨_, rfl⟩
          rw [hz] at r1
          have HY := Lib.hid (And.intro hy hz); clear hy hz r0 r2
          by_cases hz10 : 10 < z
          · have HF : Hid (smallB ns na F L = false) := Lib.hid (small_not (by
              rintro ⟨_, _, h⟩
              exact all_not HY.out.1 (by rw [smallF, HY.out.2]; exact decide_eq_false (by omega)) h))
            have f0 : decide (10 < z) = true := decide_eq_true hz10
            have g0 : decide (10 < (z : Int)) = true := decide_eq_true (by omega)
            clear hz10
            go_wp2_with fail
            go_ret
            exact ⟨by rw [HF.out]; rfl, HG.out⟩
          · have HS : Hid (smallF fd = true) := Lib.hid (by rw [smallF, HY.out.2]; exact decide_eq_true (by omega))
            have f0 : decide (10 < z) = false := decide_eq_false hz10
            have g0 : decide (10 < (z : Int)) = false := decide_eq_false (by omega)
            clear hz10
            go_wp2_with fail
            go_roundg (f - (j + 1))
            case measure => rw [HJ.out.1]; omega
            case rel => exact ⟨j + 1, rfl, rfl, by omega, all_take_succ HJ.out.2 HY.out.1 HS.out, rfl⟩
        · have hje : j = f := by omega
          subst hje
          have hjB : decide (j < j) = false := by simp
          have HYES : Hid (smallB ns na F L = true) := Lib.hid (smallB_iff.2 ⟨⟨HQ.out.1, by rw [HX.out.1]; exact HQ.out.2.1, by rw [HX.out.2.1]; exact HQ.out.2.2.1, HQ.out.2.2.2⟩, HLL.out, by
            have := HJ.out.2
            rwa [List.take_of_length_le (by rw [HX.out.1]; exact Nat.le_refl _)] at this⟩)
          go_wp2_with fail
          go_ret
          exact ⟨by rw [HYES.out]; rfl, HG.out⟩
end Go.Proofs.Ytbddpjofhddilaa
/- Increasing rows: what a merge of two holds; containment; equality. -/
namespace Go.Proofs.Ytbddpjofhddilaa
open Go.RowKit

abbrev Up (l : List Int) : Prop := l.Pairwise (· < ·)

theorem up_ext : ∀ {l m : List Int}, Up l → Up m → (∀ x, x ∈ l ↔ x ∈ m) → l = m
  | [], [], _, _, _ => rfl
  | [], y :: m, _, _, h => by have := (h y).2 (by simp); cases this
  | x :: l, [], _, _, h => by have := (h x).1 (by simp); cases this
  | x :: l, y :: m, hl, hm, h => by
    obtain ⟨hx, hl'⟩ := List.pairwise_cons.1 hl
    obtain ⟨hy, hm'⟩ := List.pairwise_cons.1 hm
    have hxy : x = y := by
      rcases List.mem_cons.1 ((h x).1 (by simp)) with e | e
      · exact e
      · rcases List.mem_cons.1 ((h y).2 (by simp)) with e' | e'
        · exact e'.symm
        · have := hx y e'; have := hy x e; omega
    subst hxy
    congr 1
    refine up_ext hl' hm' fun z => ?_
    constructor
    · intro hz
      rcases List.mem_cons.1 ((h z).1 (List.mem_cons_of_mem _ hz)) with e | e
      · subst e; have := hx z hz; omega
      · exact e
    · intro hz
      rcases List.mem_cons.1 ((h z).2 (List.mem_cons_of_mem _ hz)) with e | e
      · subst e; have := hy z hz; omega
      · exact e

theorem mem_putIf {k : Bool} {x z : Int} {l : List Int} : z ∈ putIf k x l ↔ (k = true ∧ z = x) ∨ z ∈ l := by
  unfold putIf
  cases k <;> simp

theorem merge_mem (kp : Bool → Bool → Bool) (h0 : kp false false = false) (z : Int) : ∀ (xs ys : List Int), Up xs → Up ys →
    (z ∈ mergeL kp xs ys ↔ kp (decide (z ∈ xs)) (decide (z ∈ ys)) = true) := by
  intro xs ys
  fun_induction mergeL kp xs ys with
  | case1 => intro _ _; simp [h0]
  | case2 x a ih =>
    intro hx hy
    obtain ⟨hxa, ha⟩ := List.pairwise_cons.1 hx
    rw [mem_putIf, ih ha hy]
    by_cases hz : z = x
    · subst hz
      have : z ∉ a := fun h => by have := hxa z h; omega
      simp [this, h0]
    · simp [hz]
  | case3 y b ih =>
    intro hx hy
    obtain ⟨hyb, hb⟩ := List.pairwise_cons.1 hy
    rw [mem_putIf, ih hx hb]
    by_cases hz : z = y
    · subst hz
      have : z ∉ b := fun h => by have := hyb z h; omega
      simp [this, h0]
    · simp [hz]
  | case4 x a y b h ih =>
    intro hx hy
    obtain ⟨hxa, ha⟩ := List.pairwise_cons.1 hx
    obtain ⟨hyb, hb⟩ := List.pairwise_cons.1 hy
    rw [mem_putIf, ih ha hy]
    by_cases hz : z = x
    · subst hz
      have h1 : z ∉ a := fun h => by have := hxa z h; omega
      have h2 : z ∉ y :: b := fun h' => by
        rcases List.mem_cons.1 h' with e | e
        · omega
        · have := hyb z e; omega
      simp [h1, h2, h0]
    · simp [hz]
  | case5 x a y b h h' ih =>
    intro hx hy
    obtain ⟨hxa, ha⟩ := List.pairwise_cons.1 hx
    obtain ⟨hyb, hb⟩ := List.pairwise_cons.1 hy
    rw [mem_putIf, ih hx hb]
    by_cases hz : z = y
    · subst hz
      have h1 : z ∉ b := fun h => by have := hyb z h; omega
      have h2 : z ∉ x :: a := fun h' => by
        rcases List.mem_cons.1 h' with e | e
        · omega
        · have := hxa z e; omega
      simp [h1, h2, h0]
    · simp [hz]
  | case6 x a y b h h' ih =>
    intro hx hy
    obtain ⟨hxa, ha⟩ := List.pairwise_cons.1 hx
    obtain ⟨hyb, hb⟩ := List.pairwise_cons.1 hy
    have hxy : x = y := by omega
    subst hxy
    rw [mem_putIf, ih ha hb]
    by_cases hz : z = x
    · subst hz
      have h1 : z ∉ b := fun h => by have := hyb z h; omega
      have h2 : z ∉ a := fun h => by have := hxa z h; omega
      simp [h1, h2, h0]
    · simp [hz]

theorem merge_sub (kp : Bool → Bool → Bool) (z : Int) : ∀ (xs ys : List Int), z ∈ mergeL kp xs ys → z ∈ xs ∨ z ∈ ys := by
  intro xs ys
  fun_induction mergeL kp xs ys with
  | case1 => intro h; simp at h
  | case2 x a ih => rw [mem_putIf]; rintro (⟨_, rfl⟩ | h)
                    · simp
                    · have := ih h; simp at this; simp [this]
  | case3 y b ih => rw [mem_putIf]; rintro (⟨_, rfl⟩ | h)
                    · simp
                    · have := ih h; simp at this; simp [this]
  | case4 x a y b h ih => rw [mem_putIf]; rintro (⟨_, rfl⟩ | h)
                          · simp
                          · rcases ih h with h | h
                            · simp [h]
                            · exact .inr h
  | case5 x a y b h h' ih => rw [mem_putIf]; rintro (⟨_, rfl⟩ | h)
                             · simp
                             · rcases ih h with h | h
                               · exact .inl h
                               · simp [h]
  | case6 x a y b h h' ih => rw [mem_putIf]; rintro (⟨_, rfl⟩ | h)
                             · simp
                             · rcases ih h with h | h
                               · simp [h]
                               · simp [h]

theorem merge_up (kp : Bool → Bool → Bool) : ∀ (xs ys : List Int), Up xs → Up ys → Up (mergeL kp xs ys) := by
  intro xs ys
  have put : ∀ (k : Bool) (x : Int) (l : List Int), (∀ z ∈ l, x < z) → Up l → Up (putIf k x l) := by
    intro k x l h hl
    cases k
    · exact hl
    · exact List.pairwise_cons.2 ⟨h, hl⟩
  fun_induction mergeL kp xs ys with
  | case1 => intro _ _; exact List.Pairwise.nil
  | case2 x a ih =>
    intro hx hy
    obtain ⟨hxa, ha⟩ := List.pairwise_cons.1 hx
    refine put _ _ _ (fun z hz => ?_) (ih ha hy)
    rcases merge_sub kp z _ _ hz with h | h
    · exact hxa z h
    · cases h
  | case3 y b ih =>
    intro hx hy
    obtain ⟨hyb, hb⟩ := List.pairwise_cons.1 hy
    refine put _ _ _ (fun z hz => ?_) (ih hx hb)
    rcases merge_sub kp z _ _ hz with h | h
    · cases h
    · exact hyb z h
  | case4 x a y b h ih =>
    intro hx hy
    obtain ⟨hxa, ha⟩ := List.pairwise_cons.1 hx
    obtain ⟨hyb, hb⟩ := List.pairwise_cons.1 hy
    refine put _ _ _ (fun z hz => ?_) (ih ha hy)
    rcases merge_sub kp z _ _ hz with h | h
    · exact hxa z h
    · rcases List.mem_cons.1 h with e | e
      · omega
      · have := hyb z e; omega
  | case5 x a y b h h' ih =>
    intro hx hy
    obtain ⟨hxa, ha⟩ := List.pairwise_cons.1 hx
    obtain ⟨hyb, hb⟩ := List.pairwise_cons.1 hy
    refine put _ _ _ (fun z hz => ?_) (ih hx hb)
    rcases merge_sub kp z _ _ hz with h | h
    · rcases List.mem_cons.1 h with e | e
      · omega
      · have := hxa z e; omega
    · exact hyb z h
  | case6 x a y b h h' ih =>
    intro hx hy
    obtain ⟨hxa, ha⟩ := List.pairwise_cons.1 hx
    obtain ⟨hyb, hb⟩ := List.pairwise_cons.1 hy
    refine put _ _ _ (fun z hz => ?_) (ih ha hb)
    rcases merge_sub kp z _ _ hz with h | h
    · exact hxa z h
    · have := hyb z h; omega
theorem merge_len (kp : Bool → Bool → Bool) : ∀ (xs ys : List Int), (mergeL kp xs ys).length ≤ xs.length + ys.length := by
  intro xs ys
  have put : ∀ (k : Bool) (x : Int) (l : List Int), (putIf k x l).length ≤ l.length + 1 := by intro k x l; cases k <;> simp [putIf]
  fun_induction mergeL kp xs ys with
  | case1 => simp
  | case2 x a ih => have := put (kp true false) x (mergeL kp a []); simp at ih ⊢; omega
  | case3 y b ih => have := put (kp false true) y (mergeL kp [] b); simp at ih ⊢; omega
  | case4 x a y b h ih => have := put (kp true false) x (mergeL kp a (y :: b)); simp at ih ⊢; omega
  | case5 x a y b h h' ih => have := put (kp false true) y (mergeL kp (x :: a) b); simp at ih ⊢; omega
  | case6 x a y b h h' ih => have := put (kp true true) x (mergeL kp a b); simp at ih ⊢; omega

abbrev unionL (xs ys : List Int) : List Int := mergeL (fun x y => x || y) xs ys
abbrev interL (xs ys : List Int) : List Int := mergeL (fun x y => x && y) xs ys
theorem mem_union {xs ys : List Int} (hx : Up xs) (hy : Up ys) {z : Int} : z ∈ unionL xs ys ↔ z ∈ xs ∨ z ∈ ys := by
  rw [unionL, merge_mem _ rfl z xs ys hx hy]; simp
theorem mem_inter {xs ys : List Int} (hx : Up xs) (hy : Up ys) {z : Int} : z ∈ interL xs ys ↔ z ∈ xs ∧ z ∈ ys := by
  rw [interL, merge_mem _ rfl z xs ys hx hy]; simp
theorem mem_diff {xs ys : List Int} (hx : Up xs) (hy : Up ys) {z : Int} : z ∈ diffL xs ys ↔ z ∈ xs ∧ z ∉ ys := by
  rw [diffL, merge_mem _ rfl z xs ys hx hy]; simp
theorem inB_iff {xs ys : List Int} (hx : Up xs) (hy : Up ys) : inB xs ys = true ↔ ∀ z ∈ xs, z ∈ ys := by
  rw [inB, decide_eq_true_eq]
  constructor
  · intro h z hz
    have hn := List.eq_nil_of_length_eq_zero h
    refine Classical.byContradiction fun hc => ?_
    have : z ∈ diffL xs ys := (mem_diff hx hy).2 ⟨hz, hc⟩
    rw [hn] at this; cases this
  · intro h
    rw [List.length_eq_zero_iff, List.eq_nil_iff_forall_not_mem]
    intro z hz
    have := (mem_diff hx hy).1 hz
    exact this.2 (h z this.1)
end Go.Proofs.Ytbddpjofhddilaa
/- A loop over an iterator of whatever elements, whose every round says yes. -/
namespace Go.Proofs.Ytbddpjofhddilaa
open Go.RowKit

/-- What a loop says of the world between two rounds, and the blocks that its rounds leave alone. -/
structure AbideG {α : Type} (B : Nat) (J : List α → World → Prop) (Safe : World → Nat → Prop) : Prop where
  keep : ∀ s A A', J s A → Quiet B A A' → J s A'
  safe : ∀ s A A' b, J s A → Quiet B A A' → Safe A b → Safe A' b
  fresh : ∀ s A A' b, J s A → Quiet B A A' → A.heap.size ≤ b → b < A'.heap.size → Safe A' b
theorem AbideG.less {α : Type} {B B' : Nat} {J : List α → World → Prop} {Safe : World → Nat → Prop} (h : AbideG B J Safe) (hB : B ≤ B') : AbideG B' J Safe :=
  ⟨fun s A A' hs hq => h.keep s A A' hs (hq.less hB), fun s A A' b hs hq => h.safe s A A' b hs (hq.less hB), fun s A A' b hs hq => h.fresh s A A' b hs (hq.less hB)⟩
/-- Every round says yes. -/
def YesG {α : Type} (vals : α → Array Value) (F : Fence) (m : Nat) (P : Program) (l : Nat) (xs : List α) (J : List α → World → Prop) (Safe : World → Nat → Prop) : Prop :=
  ∀ pre x W, J pre W → pre ++ [x] <+: xs → YieldAt F m P l (vals x) W fun e W' => e = .returned (.bool true) ∧ J (pre ++ [x]) W' ∧ Saved Safe W W'
/-- An iterator that gives xs to a loop whose rounds all say yes, where the blocks caps are left alone. -/
def GivesG {α : Type} (vals : α → Array Value) (F : Fence) (P : Program) (gf : Nat) (lb : Array Value) (caps : Nat → Prop) (xs : List α) (w : World) : Prop :=
  ∀ (n l : Nat) (J : List α → World → Prop) (Safe : World → Nat → Prop), (∀ b, caps b → Safe w b) → AbideG w.heap.size J Safe → YesG vals F (n - 1) P l xs J Safe → J [] w →
    CallsIn F n P gf (#[.func (.yield l) #[] #[]] ++ lb) w fun e W' => (∃ v, e = .returned v) ∧ J xs W'

/-- How the body of a round is left: off its end. -/
def yesPostG {α : Type} (J : List α → World → Prop) (Safe : World → Nat → Prop) (s : List α) (W : World) : Exit → Act → World → Prop
  | .normal, _, W' => J s W' ∧ Saved Safe W W'
  | _, _, _ => False

variable {F : Fence} {n : Nat} {P : Program}
theorem rangeYesG {α : Type} {vals : α → Array Value} {g : Operand} {ps : Array Tmp} {assign body : Code} {Q : Exit → Act → World → Prop} {a : Act} {w : World} (hro : F.round = none) (hd : F.depth = none)
    {gf : Nat} {lb : Array Value} (hg : a.eval g = .func (.func gf) #[] lb) (hFg : F.fn gf) (eg : ∀ args w, (callFunc gf args).run P w = .ok (.enter gf args) w)
    (hps : ∀ x, (vals x).size = ps.size) {caps : Nat → Prop} {xs : List α} (hseq : ∀ W, w.grownBy W none → GivesG vals F P gf lb caps xs W)
    (I : List α → World → Prop) (Safe : World → Nat → Prop) (hI : AbideG w.heap.size I Safe) (hcap : ∀ b, caps b → Safe w b) (h0 : I [] w)
    (hround : ∀ (l : Nat) (pre : List α) (x : α) (W : World), I pre W → pre ++ [x] <+: xs → assign.wpIn (F.inRound l) (n - 1 - 1) P
      (Exit.then (fun a' W' => W' = W ∧ ∀ W2, I pre W2 → body.wpIn (F.inRound l) (n - 1 - 1) P (yesPostG I Safe (pre ++ [x]) W2) a' W2) (fun _ _ _ => False)) { tmps := (ps.zip (vals x)).foldl (fun t (p, v) => t.setIfInBounds p v) a.tmps, defers := [] } W)
    (hdone : ∀ (D : Nat) (W : World), w.heap.size ≤ D → I xs W → Safe W D → W.heap[D]? = some (.deferred (some [])) → Q .normal { a with defers := { target := .collected D, args := #[] } :: a.defers } W) :
    (Code.rangeFunc g ps assign body).wpIn F n P Q a w := by
  refine wpIn_rangeFunc fun fn hfn => ?_
  rw [hro]
  let R : LoopState → Loop := fun st => { state := st, pending := none, fn, tmps := a.tmps, params := ps, assign, body, defers := w.heap.size }
  obtain ⟨W1, hW1⟩ : ∃ W1, (w.alloc (.deferred (some []))).alloc (.loop (R .ready)) = W1 := ⟨_, rfl⟩
  have hz1 : W1.heap.size = w.heap.size + 2 := by rw [← hW1]; simp
  have hg1 : w.grownBy W1 none := by rw [← hW1]; exact (World.grownBy_alloc w _ none).trans (World.grownBy_alloc _ _ none)
  have hl1 : W1.heap[w.heap.size + 1]? = some (.loop (R .ready)) := by
    rw [← hW1]; have := World.alloc_heap_new (w.alloc (.deferred (some []))) (.loop (R .ready)); rwa [World.size_alloc] at this
  have hd1 : W1.heap[w.heap.size]? = some (.deferred (some [])) := by
    rw [← hW1]; exact (Below.heap_alloc _ _ _ (by simp)).trans (World.alloc_heap_new w _)
  refine ⟨w.heap.size + 1, [{ target := .collected w.heap.size, args := #[] }], W1, { target := .fn (.func gf) lb, args := #[.func (.yield (w.heap.size + 1)) #[] #[]] }, W1, gf,
    #[.func (.yield (w.heap.size + 1)) #[] #[]] ++ lb, W1, ?_, ?_, ?_, ?_, (fun h => by rw [hd] at h; cases h), ?_⟩
  · rw [← hW1]; exact run_enterLoop_outer _ _ _ _ _
  · simp only [resolve, hg]
    simp [go_sem]
  · intro f' hf'; simp [Target.leads] at hf'; subst hf'; exact hFg
  · simp [invoke, go_sem, eg]
  have hq1 : Quiet w.heap.size w W1 := .of_none hg1
  refine (hseq W1 hg1 (n - 1) (w.heap.size + 1) (fun pre W => I pre W ∧ W.heap[w.heap.size + 1]? = some (.loop (R .ready)) ∧ W.heap[w.heap.size]? = some (.deferred (some [])) ∧ Safe W (w.heap.size + 1) ∧ Safe W w.heap.size) Safe
    (fun b hb => hI.safe _ _ _ b h0 hq1 (hcap b hb)) ⟨?_, ?_, ?_⟩ ?_
    ⟨hI.keep _ _ _ h0 hq1, hl1, hd1, hI.fresh _ _ _ _ h0 hq1 (by omega) (by omega), hI.fresh _ _ _ _ h0 hq1 (by omega) (by omega)⟩).mono ?_
  · rintro s A A' ⟨hi, hl, hk, hsl, hsk⟩ hq
    have hq' := hq.less (B' := w.heap.size) (by omega)
    obtain ⟨row, hgr, hr⟩ := hq
    exact ⟨hI.keep _ _ _ hi hq', (hgr.block _ (Array.getElem?_eq_some_iff.1 hl).1 (fun e => by have := (hr _ e.symm).1; omega)).trans hl,
      (hgr.block _ (Array.getElem?_eq_some_iff.1 hk).1 (fun e => by have := (hr _ e.symm).1; omega)).trans hk, hI.safe _ _ _ _ hi hq' hsl, hI.safe _ _ _ _ hi hq' hsk⟩
  · rintro s A A' b ⟨hi, _⟩ hq hs
    exact hI.safe _ _ _ b hi (hq.less (by omega)) hs
  · rintro s A A' b ⟨hi, _⟩ hq h1 h2
    exact hI.fresh _ _ _ b hi (hq.less (by omega)) h1 h2
  · rintro pre x W ⟨hi, hl, hk, hsl, hsk⟩ hpre
    have hlt : w.heap.size + 1 < W.heap.size := (Array.getElem?_eq_some_iff.1 hl).1
    refine ⟨fn, _, assign, body, run_yield hl (hps x), roundIn_of_wpIn hfn ?_⟩
    refine wpIn_mono (hround _ pre x W hi hpre) ?_
    rintro e a1 W1' h1
    cases e with
    | normal => ?_
    | _ => exact h1.elim
    obtain ⟨rfl, hb⟩ := h1
    refine ⟨_, run_beginRound hl rfl, ?_⟩
    have hqb : Quiet w.heap.size W1' (W1'.putObj (w.heap.size + 1) (.loop (R .busy))) := .put _ (by omega) hl rfl
    refine wpIn_mono (hb _ (hI.keep _ _ _ hi hqb)) ?_
    rintro e a3 W3 hp
    cases e with
    | normal =>
      obtain ⟨hi3, hs3⟩ := hp
      have h3 := hs3 (w.heap.size + 1) (hI.safe _ _ _ _ hi hqb hsl)
      have k3 := hs3 w.heap.size (hI.safe _ _ _ _ hi hqb hsk)
      have hl3 : W3.heap[w.heap.size + 1]? = some (.loop (R .busy)) := h3.1.trans (World.putObj_heap_same hlt)
      have hk3 : W3.heap[w.heap.size]? = some (.deferred (some [])) := (k3.1.trans (World.putObj_heap_other (by omega))).trans hk
      have hq4 : Quiet w.heap.size W3 (W3.putObj (w.heap.size + 1) (.loop (R .ready))) := .put _ (by omega) hl3 rfl
      have hlt3 : w.heap.size + 1 < W3.heap.size := (Array.getElem?_eq_some_iff.1 hl3).1
      refine ⟨_, _, run_endRound (P := P) none hl3, rfl, ⟨hI.keep _ _ _ hi3 hq4, World.putObj_heap_same hlt3, (World.putObj_heap_other (by omega)).trans hk3, hI.safe _ _ _ _ hi3 hq4 h3.2, hI.safe _ _ _ _ hi3 hq4 k3.2⟩, ?_⟩
      intro b hb
      have hb2 := hI.safe _ _ _ b hi hqb hb
      have hb3 := hs3 b hb2
      refine ⟨?_, hI.safe _ _ _ b hi3 hq4 hb3.2⟩
      by_cases hbl : b = w.heap.size + 1
      · subst hbl
        exact (World.putObj_heap_same hlt3).trans hl.symm
      · exact ((World.putObj_heap_other hbl).trans hb3.1).trans (World.putObj_heap_other hbl)
    | _ => exact hp.elim
  · rintro e W2 ⟨⟨v, rfl⟩, hi, hl, hk, _, hsk⟩
    exact ⟨none, _, run_endLoop hl (by simp [R]), hdone _ _ (Nat.le_refl _) (hI.keep _ _ _ hi (.put _ (by omega) hl rfl)) (hI.safe _ _ _ _ hi (.put _ (by omega) hl rfl) hsk) ((World.putObj_heap_other (by omega)).trans hk)⟩
end Go.Proofs.Ytbddpjofhddilaa
/- Bounds in memory; what is read of old blocks alone. -/
namespace Go.Proofs.Ytbddpjofhddilaa
open Go.RowKit

/-- A bound: its lower and its upper relation. -/
abbrev Bd := Rl × Rl
def BdAt (w : World) (b o : Nat) (x : Bd) : Prop := RelAt w b o x.1 ∧ RelAt w b (o + 2) x.2
theorem BdAt.grown {w w' : World} {b o : Nat} {x : Bd} (h : BdAt w b o x) (hg : w.grownBy w' none) : BdAt w' b o x := ⟨h.1.grown hg, h.2.grown hg⟩
/-- A row of bounds that is read. -/
def Bds (w : World) (a : Option Addr) (c : Nat) (l : List Bd) : Prop :=
  l.length ≤ c ∧ ∀ (j : Nat) (x : Bd), l[j]? = some x → ∃ b o, a = some ⟨b, o, none⟩ ∧ BdAt w b (o + j * 4) x
theorem Bds.grown {w w' : World} {a : Option Addr} {c : Nat} {l : List Bd} (h : Bds w a c l) (hg : w.grownBy w' none) : Bds w' a c l :=
  ⟨h.1, fun j x hj => by obtain ⟨b, o, ha, hc⟩ := h.2 j x hj; exact ⟨b, o, ha, hc.grown hg⟩⟩
theorem bds_nil (w : World) (a : Option Addr) (c : Nat) : Bds w a c [] := ⟨Nat.zero_le _, fun j z hj => by simp at hj⟩
theorem Bds.take {w : World} {a : Option Addr} {c : Nat} {l : List Bd} (h : Bds w a c l) (n : Nat) : Bds w a c (l.take n) :=
  ⟨Nat.le_trans (by rw [List.length_take]; omega) h.1, fun j x hj => h.2 j x (by rw [List.getElem?_take] at hj; split at hj <;> first | exact hj | cases hj)⟩

/-- Two worlds agree on the blocks below n. -/
def Agree (n : Nat) (w W : World) : Prop := ∀ b, b < n → W.heap[b]? = w.heap[b]?
theorem Agree.cell {n : Nat} {w W : World} (h : Agree n w W) {a : Addr} {v : Value} (hc : w.cell? a = some v) (ha : a.block < n) : W.cell? a = some v := by
  obtain ⟨b, o, s⟩ := a
  rw [World.cell?_of_block (h b ha)]; exact hc
theorem IntsW.agree {w W : World} {a : Option Addr} {c : Nat} {zs : List Int} (h : IntsW w a c zs) (hg : Agree w.heap.size w W) : IntsW W a c zs := by
  obtain ⟨hc, h | ⟨b, o, ha, hz⟩⟩ := h
  · exact ⟨hc, .inl h⟩
  · exact ⟨hc, .inr ⟨b, o, ha, fun j z hj => hg.cell (hz j z hj) (lies_lt (hz j z hj))⟩⟩
theorem RelAt.agree {w W : World} {b o : Nat} {r : Rl} (h : RelAt w b o r) (hg : Agree w.heap.size w W) : RelAt W b o r := by
  obtain ⟨h0, a, c, h1, hi⟩ := h
  exact ⟨hg.cell h0 (lies_lt h0), a, c, hg.cell h1 (lies_lt h1), hi.agree hg⟩
theorem Rels.agree {w W : World} {a : Option Addr} {c : Nat} {l : List Rl} (h : Rels w a c l) (hg : Agree w.heap.size w W) : Rels W a c l :=
  ⟨h.1, fun j x hj => by obtain ⟨b, o, ha, hc⟩ := h.2 j x hj; exact ⟨b, o, ha, hc.agree hg⟩⟩
theorem Bds.agree {w W : World} {a : Option Addr} {c : Nat} {l : List Bd} (h : Bds w a c l) (hg : Agree w.heap.size w W) : Bds W a c l :=
  ⟨h.1, fun j x hj => by obtain ⟨b, o, ha, hc⟩ := h.2 j x hj; exact ⟨b, o, ha, hc.1.agree hg, hc.2.agree hg⟩⟩

/-- A bound with its rows. -/
abbrev Db := Bd × (Option Addr × Nat) × (Option Addr × Nat)
def bdCells (d : Db) : List Value := [.int .i64 d.1.1.1, .slice d.2.1.1 d.1.1.2.length d.2.1.2, .int .i64 d.1.2.1, .slice d.2.2.1 d.1.2.2.length d.2.2.2]
def bdP (d : Db) (W : World) : Prop := IntsW W d.2.1.1 d.2.1.2 d.1.1.2 ∧ IntsW W d.2.2.1 d.2.2.2 d.1.2.2
abbrev OutB (w : World) (B : Nat) (v : Value) (D : List Db) : Prop := Out bdCells 4 bdP w B 74 v D
theorem OutB.bds {w : World} {B : Nat} {v : Value} {D : List Db} (h : OutB w B v D) : ∃ a c, v = .slice a (D.map (·.1)).length c ∧ Span B w.heap.size w (fun W => Bds W a c (D.map (·.1))) := by
  obtain ⟨a, c, hv, hlc, hs⟩ := Out.span h (fun _ => rfl)
  refine ⟨a, c, by rw [List.length_map]; exact hv, hs.1, fun W hW => ⟨by rw [List.length_map]; exact hlc, fun j r hj => ?_⟩⟩
  rw [List.getElem?_map] at hj
  cases hd : D[j]? with
  | none => rw [hd] at hj; cases hj
  | some d =>
    rw [hd] at hj
    cases hj
    obtain ⟨hp, g, rfl, hc⟩ := hs.2 W hW j d hd
    exact ⟨g, 0, rfl, ⟨hc 0 _ rfl, d.2.1.1, d.2.1.2, hc 1 _ rfl, hp.1⟩, hc 2 _ rfl, d.2.2.1, d.2.2.2, hc 3 _ rfl, hp.2⟩
end Go.Proofs.Ytbddpjofhddilaa
/- Bounds that raw data describe; relations inside bounds. -/
namespace Go.Proofs.Ytbddpjofhddilaa
open Go.RowKit

/-- What raw data say of the tuple at an index. -/
def pick (raw : List Nat) (k : Nat) : Nat := match raw[k]? with | some x => x % 4 | none => 1
/-- The first k tuples of a row, as far as raw data put them above t. -/
def madeTo (raw : List Nat) (full : List Int) (t : Nat) : Nat → List Int
  | 0 => []
  | k + 1 => madeTo raw full t k ++ (if t < pick raw k then (full[k]?).toList else [])
theorem mem_madeTo {raw : List Nat} {full : List Int} {t : Nat} {z : Int} : ∀ {n : Nat}, z ∈ madeTo raw full t n ↔ ∃ k, k < n ∧ t < pick raw k ∧ full[k]? = some z
  | 0 => by simp [madeTo]
  | n + 1 => by
    rw [madeTo, List.mem_append, mem_madeTo]
    constructor
    · rintro (⟨k, h1, h2, h3⟩ | h)
      · exact ⟨k, by omega, h2, h3⟩
      · split at h
        · rename_i hp
          rw [Option.mem_toList] at h
          exact ⟨n, by omega, hp, h⟩
        · cases h
    · rintro ⟨k, h1, h2, h3⟩
      by_cases hk : k < n
      · exact .inl ⟨k, hk, h2, h3⟩
      · have : k = n := by omega
        subst this
        rw [if_pos h2]
        exact .inr (by rw [h3]; simp)
theorem madeTo_len {raw : List Nat} {full : List Int} {t : Nat} : ∀ {n : Nat}, (madeTo raw full t n).length ≤ n
  | 0 => by simp [madeTo]
  | n + 1 => by
    have := madeTo_len (raw := raw) (full := full) (t := t) (n := n)
    rw [madeTo, List.length_append]
    split
    · cases full[n]? <;> simp <;> omega
    · simp; omega
theorem up_get {l : List Int} (h : Up l) {i j : Nat} {x y : Int} (hij : i < j) (hx : l[i]? = some x) (hy : l[j]? = some y) : x < y := by
  obtain ⟨h1, rfl⟩ := List.getElem?_eq_some_iff.1 hx
  obtain ⟨h2, rfl⟩ := List.getElem?_eq_some_iff.1 hy
  exact List.pairwise_iff_getElem.1 h i j h1 h2 hij
theorem up_snoc {l : List Int} {x : Int} (h : Up l) (hx : ∀ y ∈ l, y < x) : Up (l ++ [x]) := by
  rw [Up, List.pairwise_append]
  exact ⟨h, List.pairwise_singleton _ _, fun a ha b hb => by rw [List.mem_singleton] at hb; subst hb; exact hx a ha⟩
theorem madeTo_up {raw : List Nat} {full : List Int} {t : Nat} (h : Up full) : ∀ {n : Nat}, Up (madeTo raw full t n)
  | 0 => List.Pairwise.nil
  | n + 1 => by
    rw [madeTo]
    split
    · cases hf : full[n]? with
      | none => rw [Option.toList_none, List.append_nil]; exact madeTo_up h
      | some x =>
        refine up_snoc (madeTo_up h) fun y hy => ?_
        obtain ⟨k, h1, _, h3⟩ := mem_madeTo.1 hy
        exact up_get h h1 h3 hf
    · rw [List.append_nil]; exact madeTo_up h
/-- A bound that raw data describe. -/
def madeB (raw : List Nat) (k : Int) (full : List Int) : Bd := ((k, madeTo raw full 1 full.length), (k, madeTo raw full 0 full.length))
theorem made_sub {raw : List Nat} {full : List Int} {n : Nat} {z : Int} (h : z ∈ madeTo raw full 1 n) : z ∈ madeTo raw full 0 n := by
  obtain ⟨k, h1, h2, h3⟩ := mem_madeTo.1 h
  exact mem_madeTo.2 ⟨k, h1, by omega, h3⟩
theorem made_full {raw : List Nat} {full : List Int} {t n : Nat} {z : Int} (h : z ∈ madeTo raw full t n) : z ∈ full := by
  obtain ⟨k, _, _, h3⟩ := mem_madeTo.1 h
  exact List.mem_of_getElem? h3

/-- The first k tuples of an upper bound, as far as picks take them; how many picks are used. -/
def insTo (lo : List Int) (picks : List Bool) (hi : List Int) (m : Nat) : Nat → List Int × Nat
  | 0 => ([], m)
  | k + 1 =>
    match hi[k]? with
    | none => insTo lo picks hi m k
    | some t =>
      if t ∈ lo then ((insTo lo picks hi m k).1 ++ [t], (insTo lo picks hi m k).2)
      else if picks.getD (insTo lo picks hi m k).2 false then ((insTo lo picks hi m k).1 ++ [t], (insTo lo picks hi m k).2 + 1)
      else ((insTo lo picks hi m k).1, (insTo lo picks hi m k).2 + 1)
theorem insTo_sub {lo hi : List Int} {picks : List Bool} {m : Nat} {z : Int} : ∀ {n : Nat}, z ∈ (insTo lo picks hi m n).1 → ∃ k, k < n ∧ hi[k]? = some z
  | 0 => by intro h; simp [insTo] at h
  | n + 1 => by
    intro h
    have ih : z ∈ (insTo lo picks hi m n).1 → ∃ k, k < n + 1 ∧ hi[k]? = some z := fun h => by
      obtain ⟨k, h1, h2⟩ := insTo_sub h
      exact ⟨k, by omega, h2⟩
    rw [insTo] at h
    split at h
    · exact ih h
    · rename_i t ht
      have last : z ∈ [t] → ∃ k, k < n + 1 ∧ hi[k]? = some z := fun h => by
        rw [List.mem_singleton] at h
        subst h
        exact ⟨n, by omega, ht⟩
      split at h
      · rcases List.mem_append.1 h with h | h
        · exact ih h
        · exact last h
      · split at h
        · rcases List.mem_append.1 h with h | h
          · exact ih h
          · exact last h
        · exact ih h
theorem insTo_up {lo hi : List Int} {picks : List Bool} {m : Nat} (h : Up hi) : ∀ {n : Nat}, Up (insTo lo picks hi m n).1
  | 0 => List.Pairwise.nil
  | n + 1 => by
    have ih := insTo_up (lo := lo) (picks := picks) (m := m) h (n := n)
    rw [insTo]
    split
    · exact ih
    · rename_i t ht
      have up : Up ((insTo lo picks hi m n).1 ++ [t]) := up_snoc ih fun y hy => by
        obtain ⟨k, h1, h2⟩ := insTo_sub hy
        exact up_get h h1 h2 ht
      split
      · exact up
      · split
        · exact up
        · exact ih
theorem insTo_lo {lo hi : List Int} {picks : List Bool} {m : Nat} {z : Int} (hz : z ∈ lo) : ∀ {n k : Nat}, k < n → hi[k]? = some z → z ∈ (insTo lo picks hi m n).1
  | 0, k, h, _ => by omega
  | n + 1, k, hk, h => by
    rw [insTo]
    by_cases hkn : k = n
    · subst hkn
      rw [h]
      simp only [if_pos hz]
      simp
    · have ih := insTo_lo (picks := picks) (m := m) hz (n := n) (k := k) (by omega) h
      split
      · exact ih
      · split
        · exact List.mem_append.2 (.inl ih)
        · split
          · exact List.mem_append.2 (.inl ih)
          · exact ih
/-- The relations inside bounds that picks take, and how many picks are used. -/
def insAll (picks : List Bool) (B : List Bd) : Nat → List Rl × Nat
  | 0 => ([], 0)
  | i + 1 =>
    match B[i]? with
    | none => insAll picks B i
    | some x => ((insAll picks B i).1 ++ [(x.2.1, (insTo x.1.2 picks x.2.2 (insAll picks B i).2 x.2.2.length).1)], (insTo x.1.2 picks x.2.2 (insAll picks B i).2 x.2.2.length).2)
theorem insAll_len {picks : List Bool} {B : List Bd} : ∀ {i : Nat}, i ≤ B.length → (insAll picks B i).1.length = i
  | 0, _ => rfl
  | i + 1, h => by
    rw [insAll, List.getElem?_eq_getElem (by omega)]
    simp only [List.length_append, List.length_cons, List.length_nil]
    rw [insAll_len (by omega)]
theorem insAll_at {picks : List Bool} {B : List Bd} {j : Nat} {x : Bd} (hx : B[j]? = some x) : ∀ {i : Nat}, j < i → i ≤ B.length → (insAll picks B i).1[j]? = some (x.2.1, (insTo x.1.2 picks x.2.2 (insAll picks B j).2 x.2.2.length).1)
  | 0, h, _ => by omega
  | i + 1, h, hi => by
    have hl := insAll_len (picks := picks) (B := B) (i := i) (by omega)
    obtain ⟨y, hy⟩ : ∃ y, B[i]? = some y := ⟨_, List.getElem?_eq_getElem (by omega)⟩
    rw [insAll, hy]
    simp only []
    by_cases hji : j = i
    · subst hji
      rw [hx] at hy
      cases hy
      rw [List.getElem?_append_right (by omega), hl, Nat.sub_self]
      rfl
    · rw [List.getElem?_append_left (by omega)]
      exact insAll_at hx (by omega) (by omega)

/-- A relation lies within a bound. -/
def withinB (x : Bd) (r : Rl) : Bool := decide (x.1.1 = r.1) && decide (x.2.1 = r.1) && inB x.1.2 r.2 && inB r.2 x.2.2
/-- Two rows are as long and each pair holds. -/
def allB {α β : Type} (f : α → β → Bool) (l : List α) (m : List β) : Bool := decide (l.length = m.length) && (l.zip m).all fun p => f p.1 p.2
theorem allB_iff {α β : Type} {f : α → β → Bool} {l : List α} {m : List β} : allB f l m = true ↔ l.length = m.length ∧ ∀ (j : Nat) (x : α) (y : β), l[j]? = some x → m[j]? = some y → f x y = true := by
  rw [allB, Bool.and_eq_true, decide_eq_true_eq, List.all_eq_true]
  refine and_congr_right fun hl => ?_
  constructor
  · intro h j x y hx hy
    refine h (x, y) (List.mem_of_getElem? (i := j) ?_)
    rw [List.getElem?_zip_eq_some]; exact ⟨hx, hy⟩
  · rintro h ⟨x, y⟩ hp
    obtain ⟨j, hj⟩ := List.getElem?_of_mem hp
    rw [List.getElem?_zip_eq_some] at hj
    exact h j x y hj.1 hj.2
/-- The model lies within the bounds. -/
def containsB (B : List Bd) (L : List (List Rl)) : Bool := L.all fun l => allB withinB B l
end Go.Proofs.Ytbddpjofhddilaa
/- Whether relations have an arity. -/
namespace Go.Proofs.Ytbddpjofhddilaa
open Go.RowKit

def arityB (k : Int) (l : List Rl) : Bool := l.all fun r => decide (r.1 = k)

set_option maxHeartbeats 1000000 in
theorem sameArity_calls (k : Int) (l : List Rl) (a : Option Addr) (c : Nat) (w : World) (h : Rels w a c l) (hl : l.length ≤ 100000) :
    Calls Try.prog 98 #[.int .i64 k, .slice a l.length c] w fun e w' => e = .returned (.bool (arityB k l)) ∧ w.grownBy w' none := by
  obtain ⟨n, hn⟩ : ∃ n, l.length = n := ⟨_, rfl⟩
  rw [hn] at hl ⊢
  have HN := Lib.hid (And.intro hn h); clear hn h
  go_enter Try.func98, Try.ntmps98
  go_wp2_with fail
  go_loopg [9] n (fun g s9 wr => ∃ i : Nat, s9 = .int .i64 (i : Int) ∧ g = n - i ∧ i ≤ n ∧ (∀ r ∈ l.take i, r.1 = k) ∧ w.grownBy wr none)
  case atStart => exact ⟨0, rfl, rfl, Nat.zero_le _, fun r hr => by simp at hr, grown_refl _ _⟩
  case round =>
    obtain ⟨i, rfl, hgi, hi, hok, hgr⟩ := hrel
    have HGI := Lib.hid (And.intro hgi (And.intro hok hgr)); clear hgi hok hgr
    by_cases hin : i < n
    · have hinB : decide (i < n) = true := by simpa using hin
      have hinI : (i : Int) < (n : Int) := by omega
      obtain ⟨r, hx⟩ : ∃ r, l[i]? = some r := ⟨_, List.getElem?_eq_getElem (by rw [HN.out.1]; exact hin)⟩
      obtain ⟨b, o, rfl, c0, la, lc, c1, _⟩ := (HN.out.2.grown HGI.out.2.2).2 i r hx
      have HX := Lib.hid hx; clear hx
      obtain ⟨k', hk'⟩ : ∃ k', r.1 = k' := ⟨_, rfl⟩
      obtain ⟨p, hp⟩ : ∃ p, r.2.length = p := ⟨_, rfl⟩
      rw [hk'] at c0
      rw [hp] at c1
      have HK := Lib.hid (And.intro hk' hp); clear hk' hp
      have HG := Lib.hid (HGI.out.2.2.trans (World.grownBy_alloc wr (.cells #[.int .i64 k', .slice la p lc] 53) none))
      by_cases hkk : k' = k
      · have hb : (k' != k) = false := by simpa using hkk
        have HE := Lib.hid hkk; clear hkk
        go_wp2_with fail
        go_roundg (n - (i + 1))
        case measure => rw [HGI.out.1]; omega
        case rel => exact ⟨i + 1, rfl, rfl, by omega, fun r' hr' => by
          rw [List.take_add_one, HX.out, Option.toList_some, List.mem_append, List.mem_singleton] at hr'
          rcases hr' with h1 | rfl
          · exact HGI.out.2.1 r' h1
          · rw [HK.out.1, HE.out], HG.out⟩
      · have hb : (k' != k) = true := by simpa using hkk
        have HR : Hid (arityB k l = false) := Lib.hid (by
          rw [arityB, List.all_eq_false]
          exact ⟨r, List.mem_of_getElem? HX.out, by rw [HK.out.1]; simpa using hkk⟩)
        clear hkk
        go_wp2_with fail
        go_ret
        exact ⟨by rw [HR.out]; rfl, HG.out⟩
    · have hie : i = n := by omega
      subst hie
      have hinB : decide (i < i) = false := by simp
      have HR : Hid (arityB k l = true) := Lib.hid (by
        have h1 := HGI.out.2.1
        rw [List.take_of_length_le (by rw [HN.out.1]; exact Nat.le_refl _)] at h1
        rw [arityB, List.all_eq_true]
        exact fun r hr => decide_eq_true (h1 r hr))
      go_wp2_with fail
      go_ret
      exact ⟨by rw [HR.out]; rfl, HGI.out.2.2⟩
end Go.Proofs.Ytbddpjofhddilaa
/- Two bounds, two rows of bounds are compared. -/
namespace Go.Proofs.Ytbddpjofhddilaa
open Go.RowKit

/-- The value of a bound, by its parts. -/
abbrev bdV (k1 : Int) (a1 : Option Addr) (n1 c1 : Nat) (k2 : Int) (a2 : Option Addr) (n2 c2 : Nat) : Value := .agg #[.int .i64 k1, .slice a1 n1 c1, .int .i64 k2, .slice a2 n2 c2]
theorem two_boxes4 (w : World) (u0 u1 u2 u3 v0 v1 v2 v3 : Value) (s t : TypeId) :
    let W := (w.alloc (.cells #[u0, u1, u2, u3] s)).alloc (.cells #[v0, v1, v2, v3] t)
    (W.cell? ⟨w.heap.size, 0, none⟩ = some u0 ∧ W.cell? ⟨w.heap.size, 1, none⟩ = some u1 ∧ W.cell? ⟨w.heap.size, 2, none⟩ = some u2 ∧ W.cell? ⟨w.heap.size, 3, none⟩ = some u3) ∧
    W.cell? ⟨w.heap.size + 1, 0, none⟩ = some v0 ∧ W.cell? ⟨w.heap.size + 1, 1, none⟩ = some v1 ∧ W.cell? ⟨w.heap.size + 1, 2, none⟩ = some v2 ∧ W.cell? ⟨w.heap.size + 1, 3, none⟩ = some v3 := by
  refine ⟨⟨by go_simp, by go_simp, by go_simp, by go_simp⟩, by go_simp, by go_simp, by go_simp, by go_simp⟩

set_option maxRecDepth 100000 in
set_option maxHeartbeats 2000000 in
theorem bdEqual_calls (x y : Bd) (a1 a2 b1 b2 : Option Addr) (c1 c2 d1 d2 : Nat) (w : World) (h1 : IntsW w a1 c1 x.1.2) (h2 : IntsW w a2 c2 x.2.2) (h1' : IntsW w b1 d1 y.1.2) (h2' : IntsW w b2 d2 y.2.2) (hl : x.1.2.length ≤ 100000 ∧ x.2.2.length ≤ 100000) :
    Calls Try.prog 94 #[bdV x.1.1 a1 x.1.2.length c1 x.2.1 a2 x.2.2.length c2, bdV y.1.1 b1 y.1.2.length d1 y.2.1 b2 y.2.2.length d2] w
      fun e w' => e = .returned (.bool (decide (x = y))) ∧ w.grownBy w' none := by
  obtain ⟨⟨k1, l1⟩, k2, l2⟩ := x
  obtain ⟨⟨m1, r1⟩, m2, r2⟩ := y
  simp only [bdV] at h1 h2 h1' h2' hl ⊢
  have HC1 := Lib.hid (fun (W : World) (g : w.grownBy W none) => relEqual_calls (k1, l1) (m1, r1) a1 b1 c1 d1 W (h1.grown g) (h1'.grown g) (show (l1.length : Int) ≤ 9223372036854775807 by omega))
  have HC2 := Lib.hid (fun (W : World) (g : w.grownBy W none) => relEqual_calls (k2, l2) (m2, r2) a2 b2 c2 d2 W (h2.grown g) (h2'.grown g) (show (l2.length : Int) ≤ 9223372036854775807 by omega))
  obtain ⟨n1, hn1⟩ : ∃ n, l1.length = n := ⟨_, rfl⟩
  obtain ⟨n2, hn2⟩ : ∃ n, l2.length = n := ⟨_, rfl⟩
  obtain ⟨o1, ho1⟩ : ∃ n, r1.length = n := ⟨_, rfl⟩
  obtain ⟨o2, ho2⟩ : ∃ n, r2.length = n := ⟨_, rfl⟩
  rw [hn1, hn2, ho1, ho2]
  simp only at HC1 HC2
  rw [hn1, ho1] at HC1
  rw [hn2, ho2] at HC2
  clear h1 h2 h1' h2' hl hn1 hn2 ho1 ho2
  have hg := (World.grownBy_alloc w (.cells #[.int .i64 k1, .slice a1 n1 c1, .int .i64 k2, .slice a2 n2 c2] 74) none).trans (World.grownBy_alloc _ (.cells #[.int .i64 m1, .slice b1 o1 d1, .int .i64 m2, .slice b2 o2 d2] 74) none)
  have hcs := two_boxes4 w (.int .i64 k1) (.slice a1 n1 c1) (.int .i64 k2) (.slice a2 n2 c2) (.int .i64 m1) (.slice b1 o1 d1) (.int .i64 m2) (.slice b2 o2 d2) 74 74
  simp only at hcs
  obtain ⟨W, hW⟩ : ∃ W, (w.alloc (.cells #[.int .i64 k1, .slice a1 n1 c1, .int .i64 k2, .slice a2 n2 c2] 74)).alloc (.cells #[.int .i64 m1, .slice b1 o1 d1, .int .i64 m2, .slice b2 o2 d2] 74) = W := ⟨_, rfl⟩
  rw [hW] at hg hcs
  obtain ⟨⟨p0, p1, p2, p3⟩, q0, q1, q2, q3⟩ := hcs
  have HG := Lib.hid hg; clear hg
  have HE : Hid (decide (((k1, l1), k2, l2) = ((m1, r1), m2, r2)) = (decide ((k1, l1) = (m1, r1)) && decide ((k2, l2) = (m2, r2)))) := Lib.hid (by
    rw [← Bool.decide_and]; congr 1; simp [Prod.ext_iff])
  obtain ⟨B1, hB1⟩ : ∃ B, decide ((k1, l1) = (m1, r1)) = B := ⟨_, rfl⟩
  obtain ⟨B2, hB2⟩ : ∃ B, decide ((k2, l2) = (m2, r2)) = B := ⟨_, rfl⟩
  rw [hB1] at HC1 HE
  rw [hB2] at HC2 HE
  clear hB1 hB2
  go_enter Try.func94, Try.ntmps94
  go_wp2_with fail
  clear hW
  refine (HC1.out W HG.out).mono ?_
  rintro e w1 ⟨rfl, g1⟩
  have q0' := g1.cell p2 (by simp)
  have q1' := g1.cell p3 (by simp)
  have q2' := g1.cell q2 (by simp)
  have q3' := g1.cell q3 (by simp)
  have HG1 := Lib.hid (HG.out.trans g1); clear g1
  cases B1 with
  | false =>
    go_wp2_with fail
    go_ret
    exact ⟨by rw [HE.out]; rfl, HG1.out⟩
  | true =>
    go_wp2_with fail
    refine (HC2.out w1 HG1.out).mono ?_
    rintro e w2 ⟨rfl, g2⟩
    have HG2 := Lib.hid (HG1.out.trans g2); clear g2
    go_wp2_with fail
    go_ret
    exact ⟨by rw [HE.out, Bool.true_and]; rfl, HG2.out⟩

/-- Rows of bounds that are short enough. -/
def BLen (l : List Bd) : Prop := l.length ≤ 100000 ∧ ∀ x ∈ l, x.1.2.length ≤ 100000 ∧ x.2.2.length ≤ 100000

theorem BdAt.parts {w : World} {b o : Nat} {x : Bd} (h : BdAt w b o x) : ∃ a1 c1 a2 c2, w.cell? ⟨b, o, none⟩ = some (.int .i64 x.1.1) ∧ w.cell? ⟨b, o + 1, none⟩ = some (.slice a1 x.1.2.length c1) ∧ w.cell? ⟨b, o + 2, none⟩ = some (.int .i64 x.2.1) ∧ w.cell? ⟨b, o + 3, none⟩ = some (.slice a2 x.2.2.length c2) ∧ IntsW w a1 c1 x.1.2 ∧ IntsW w a2 c2 x.2.2 := by
  obtain ⟨⟨h0, a, c, h1, hi⟩, h2, a', c', h3, hi'⟩ := h
  exact ⟨a, c, a', c', h0, h1, h2, by rw [show o + 3 = o + 2 + 1 by omega]; exact h3, hi, hi'⟩
theorem held_next8 {wr W W' : World} {a0 a1 a2 a3 a4 a5 a6 a7 : Addr} {v0 v1 v2 v3 v4 v5 v6 v7 : Value} (g : W.grownBy W' none) (h : wr.grownBy W none) (h0 : W.cell? a0 = some v0) (h1 : W.cell? a1 = some v1) (h2 : W.cell? a2 = some v2) (h3 : W.cell? a3 = some v3) (h4 : W.cell? a4 = some v4) (h5 : W.cell? a5 = some v5) (h6 : W.cell? a6 = some v6) (h7 : W.cell? a7 = some v7) :
    wr.grownBy W' none ∧ W'.cell? a0 = some v0 ∧ W'.cell? a1 = some v1 ∧ W'.cell? a2 = some v2 ∧ W'.cell? a3 = some v3 ∧ W'.cell? a4 = some v4 ∧ W'.cell? a5 = some v5 ∧ W'.cell? a6 = some v6 ∧ W'.cell? a7 = some v7 :=
  ⟨h.trans g, g.cell h0 (by simp), g.cell h1 (by simp), g.cell h2 (by simp), g.cell h3 (by simp), g.cell h4 (by simp), g.cell h5 (by simp), g.cell h6 (by simp), g.cell h7 (by simp)⟩
theorem add_off' (b o j : Nat) : (⟨b, o, none⟩ : Addr).add j = ⟨b, o + j, none⟩ := by unfold Addr.add; split <;> simp_all

theorem any_iff_getElem {α : Type} {l m : List α} (h : l.length = m.length) (hne : l ≠ m) : ∃ (j : Nat) (x y : α), l[j]? = some x ∧ m[j]? = some y ∧ x ≠ y := by
  refine Classical.byContradiction fun hc => hne (List.ext_getElem? fun j => ?_)
  by_cases hj : j < l.length
  · obtain ⟨x, hx⟩ : ∃ x, l[j]? = some x := ⟨_, List.getElem?_eq_getElem hj⟩
    obtain ⟨y, hy⟩ : ∃ y, m[j]? = some y := ⟨_, List.getElem?_eq_getElem (h ▸ hj)⟩
    rw [hx, hy]
    refine congrArg some (Classical.byContradiction fun e => hc ⟨j, x, y, hx, hy, e⟩)
  · rw [List.getElem?_eq_none (by omega), List.getElem?_eq_none (by omega)]
end Go.Proofs.Ytbddpjofhddilaa
/- Two rows of bounds are compared. -/
namespace Go.Proofs.Ytbddpjofhddilaa
open Go.RowKit

def eqB (x y : Bd) : Bool := decide (x = y)
set_option maxRecDepth 100000 in
set_option maxHeartbeats 4000000 in
theorem allEqual_calls  (l : List Bd) (m : List Bd) (a a' : Option Addr) (c c' : Nat) (w : World)  (h : Bds w a c l) (h' : Bds w a' c' m) (hl : l.length ≤ 100000) (hx : ∀ x ∈ l, x.1.2.length ≤ 100000 ∧ x.2.2.length ≤ 100000) (hy : ∀ y ∈ m, y.1.2.length ≤ 100000 ∧ y.2.2.length ≤ 100000) :
    Calls Try.prog 93 #[.slice a l.length c, .slice a' m.length c', .func (.func 94) #[] #[]] w fun e w' => e = .returned (.bool (allB (eqB) l m)) ∧ w.grownBy w' none := by
  obtain ⟨n, hn⟩ : ∃ n, l.length = n := ⟨_, rfl⟩
  obtain ⟨n', hn'⟩ : ∃ n', m.length = n' := ⟨_, rfl⟩
  rw [hn] at hl ⊢
  rw [hn']
  have HN := Lib.hid (And.intro hn hn')
  have HH := Lib.hid (And.intro h (And.intro h' (And.intro hx hy))); clear h h' hx hy
  by_cases hnm : n = n'
  · have hB : ((n : Int) != (n' : Int)) = false := by simp; omega
    subst hnm
    clear hn hn'
    go_enter Try.func93, Try.ntmps93
    go_wp2_with fail
    go_loopg [7, 15] n (fun g s7 s15 wr => ∃ i : Nat, s15 = .int .i64 (i : Int) ∧ g = n - i ∧ i ≤ n ∧ (∀ (j : Nat) (x : Bd) (y : Bd), j < i → l[j]? = some x → m[j]? = some y → (eqB) x y = true) ∧ w.grownBy wr none)
    case atStart => exact ⟨0, rfl, rfl, Nat.zero_le _, fun j _ _ hj => absurd hj (Nat.not_lt_zero _), grown_refl _ _⟩
    case round =>
      obtain ⟨i, rfl, hgi, hi, hok, hgr⟩ := hrel
      have HGI := Lib.hid (And.intro hgi (And.intro hok hgr)); clear hgi hok hgr
      by_cases hin : i < n
      · have hinB : decide (i < n) = true := by simpa using hin
        have hinI : (i : Int) < (n : Int) := by omega
        obtain ⟨x, hx⟩ : ∃ x, l[i]? = some x := ⟨_, List.getElem?_eq_getElem (by rw [HN.out.1]; exact hin)⟩
        obtain ⟨y, hy⟩ : ∃ y, m[i]? = some y := ⟨_, List.getElem?_eq_getElem (by rw [HN.out.2]; exact hin)⟩
        obtain ⟨b, o, rfl, hbx⟩ := (HH.out.1.grown HGI.out.2.2).2 i x hx
        obtain ⟨b', o', rfl, hby⟩ := (HH.out.2.1.grown HGI.out.2.2).2 i y hy
        obtain ⟨xa1, xk1, xa2, xk2, xc0, xc1, xc2, xc3, xi1, xi2⟩ := hbx.parts
        obtain ⟨ya1, yk1, ya2, yk2, yc0, yc1, yc2, yc3, yi1, yi2⟩ := hby.parts
        have HX := Lib.hid (And.intro hx hy)
        have HC := Lib.hid (fun (W : World) (g : wr.grownBy W none) => bdEqual_calls x y xa1 xa2 ya1 ya2 xk1 xk2 yk1 yk2 W (xi1.grown g) (xi2.grown g) (yi1.grown g) (yi2.grown g) (HH.out.2.2.1 x (List.mem_of_getElem? hx)))
        simp only [bdV] at HC
        rw [show decide (x = y) = eqB x y from rfl] at HC
        obtain ⟨B, hBB⟩ : ∃ B, (eqB) x y = B := ⟨_, rfl⟩
        rw [hBB] at HC
        have HBB := Lib.hid hBB
        clear hBB hx hy hbx hby xi1 xi2 yi1 yi2
        go_wp2_with fail
        go_region_held3 (fun w' => wr.grownBy w' none ∧ w'.cell? ⟨b, o + i * 4, none⟩ = some (.int .i64 x.1.1) ∧ w'.cell? ⟨b, o + i * 4 + 1, none⟩ = some (.slice xa1 x.1.2.length xk1) ∧ w'.cell? ⟨b, o + i * 4 + 2, none⟩ = some (.int .i64 x.2.1) ∧ w'.cell? ⟨b, o + i * 4 + 3, none⟩ = some (.slice xa2 x.2.2.length xk2) ∧ w'.cell? ⟨b', o' + i * 4, none⟩ = some (.int .i64 y.1.1) ∧ w'.cell? ⟨b', o' + i * 4 + 1, none⟩ = some (.slice ya1 y.1.2.length yk1) ∧ w'.cell? ⟨b', o' + i * 4 + 2, none⟩ = some (.int .i64 y.2.1) ∧ w'.cell? ⟨b', o' + i * 4 + 3, none⟩ = some (.slice ya2 y.2.2.length yk2))
          (first | exact ⟨⟨rfl, rfl, rfl, Nat.le_refl _, fun _ _ _ => rfl⟩, xc0, xc1, xc2, xc3, yc0, yc1, yc2, yc3⟩ | (go_split_ands; exact held_next8 g3 (by assumption) (by assumption) (by assumption) (by assumption) (by assumption) (by assumption) (by assumption) (by assumption) (by assumption)) | fail)
          (first | (go_at_call 94; with_reducible refine (HC.out _ ?_).mono ?_; (go_split_ands; assumption); rintro e w3 ⟨rfl, g3⟩) | fail)
        all_goals
          have h14 : wr.grownBy w3 none := by go_split_ands; assumption
          have HG := Lib.hid (HGI.out.2.2.trans h14)
          clear h14
          cases B with
          | true =>
            go_wp2_with fail
            go_roundg (n - (i + 1))
            case measure => rw [HGI.out.1]; omega
            case rel => exact ⟨i + 1, rfl, rfl, by omega, fun j x' y' hj hx' hy' => by
              by_cases hji : j < i
              · exact HGI.out.2.1 j x' y' hji hx' hy'
              · have : j = i := by omega
                subst this
                rw [HX.out.1] at hx'
                rw [HX.out.2] at hy'
                cases hx'
                cases hy'
                exact HBB.out, HG.out⟩
          | false =>
            have HR : Hid (allB (eqB) l m = false) := Lib.hid (by
              cases hq : allB (eqB) l m with
              | false => rfl
              | true => have h1 := (allB_iff.1 hq).2 i x y HX.out.1 HX.out.2; rw [HBB.out] at h1; cases h1)
            go_wp2_with fail
            go_ret
            exact ⟨by rw [HR.out]; rfl, HG.out⟩
      · have hie : i = n := by omega
        subst hie
        have hinB : decide (i < i) = false := by simp
        have HR : Hid (allB (eqB) l m = true) := Lib.hid (allB_iff.2 ⟨by rw [HN.out.1, HN.out.2], fun j x y hx hy => HGI.out.2.1 j x y (by have := (List.getElem?_eq_some_iff.1 hx).1; rw [HN.out.1] at this; exact this) hx hy⟩)
        go_wp2_with fail
        go_ret
        exact ⟨by rw [HR.out]; rfl, HGI.out.2.2⟩
  · have hB : ((n : Int) != (n' : Int)) = true := by simp; omega
    have HR : Hid (allB (eqB) l m = false) := Lib.hid (by
      cases hq : allB (eqB) l m with
      | false => rfl
      | true => exact absurd (by rw [← hn, ← hn']; exact (allB_iff.1 hq).1) hnm)
    clear hn hn'
    go_enter Try.func93, Try.ntmps93
    go_wp2_with fail
    go_ret
    exact ⟨by rw [HR.out]; rfl, grown_refl _ _⟩

theorem allB_eq (l m : List Bd) : allB eqB l m = decide (l = m) := by
  by_cases h : l = m
  · subst h
    rw [decide_eq_true rfl, allB_iff]
    exact ⟨rfl, fun j x y hx hy => by rw [hx] at hy; cases hy; exact decide_eq_true rfl⟩
  · rw [decide_eq_false h]
    cases hq : allB eqB l m with
    | false => rfl
    | true =>
      obtain ⟨h1, h2⟩ := allB_iff.1 hq
      obtain ⟨j, x, y, hx, hy, hxy⟩ := any_iff_getElem h1 h
      exact absurd (of_decide_eq_true (h2 j x y hx hy)) hxy
set_option maxHeartbeats 1000000 in
theorem bEqual_calls (l m : List Bd) (a a' : Option Addr) (c c' : Nat) (w : World) (h : Bds w a c l) (h' : Bds w a' c' m) (hl : BLen l) (hm : BLen m) :
    Calls Try.prog 42 #[.slice a l.length c, .slice a' m.length c'] w fun e w' => e = .returned (.bool (decide (l = m))) ∧ w.grownBy w' none := by
  have HC := Lib.hid (allEqual_calls l m a a' c c' w h h' hl.1 hl.2 hm.2); clear h h' hl hm
  rw [allB_eq] at HC
  go_enter Try.func42, Try.ntmps42
  go_wp2_with fail
  refine HC.out.mono ?_
  rintro e w' ⟨rfl, hg⟩
  have HG := Lib.hid hg; clear hg HC
  go_wp2
  go_ret
  exact ⟨rfl, HG.out⟩
end Go.Proofs.Ytbddpjofhddilaa

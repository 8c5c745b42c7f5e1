/- Which specifications and models are small. -/
import Derived.Test.YtbddpjofhddilaaRT
namespace Go.Proofs.Ytbddpjofhddilaa
open Go.RowKit

/-- A field: its name, its sorts, whether it varies. -/
abbrev Fd := ByteArray × List Int × Bool
def FieldAt (w : World) (b o : Nat) (f : Fd) : Prop :=
  w.cell? ⟨b, o, none⟩ = some (.string f.1) ∧ (∃ a c, w.cell? ⟨b, o + 1, none⟩ = some (.slice a f.2.1.length c) ∧ IntsW w a c f.2.1) ∧ w.cell? ⟨b, o + 2, none⟩ = some (.bool f.2.2)
theorem FieldAt.grown {w w' : World} {b o : Nat} {f : Fd} (h : FieldAt w b o f) (hg : w.grownBy w' none) : FieldAt w' b o f := by
  obtain ⟨h0, ⟨a, c, h1, hi⟩, h2⟩ := h
  exact ⟨hg.cell h0 (by simp), ⟨a, c, hg.cell h1 (by simp), hi.grown hg⟩, hg.cell h2 (by simp)⟩
def Fields (w : World) (a : Option Addr) (c : Nat) (l : List Fd) : Prop := l.length ≤ c ∧ ∀ (j : Nat) (f : Fd), l[j]? = some f → ∃ b o, a = some ⟨b, o, none⟩ ∧ FieldAt w b (o + j * 3) f
theorem Fields.grown {w w' : World} {a : Option Addr} {c : Nat} {l : List Fd} (h : Fields w a c l) (hg : w.grownBy w' none) : Fields w' a c l :=
  ⟨h.1, fun j x hj => by obtain ⟨b, o, ha, hc⟩ := h.2 j x hj; exact ⟨b, o, ha, hc.grown hg⟩⟩

def smallR (r : Rl) : Bool := decide (r.2.length ≤ 200)
def smallS (l : List Rl) : Bool := decide (l.length ≤ 10) && l.all smallR
def smallF (f : Fd) : Bool := decide (f.2.1.length ≤ 10)
def smallB (ns na : Nat) (F : List Fd) (L : List (List Rl)) : Bool := decide (ns ≤ 10) && decide (F.length ≤ 10) && decide (L.length ≤ 64) && decide (na ≤ 10) && L.all smallS && F.all smallF
theorem smallB_iff {ns na : Nat} {F : List Fd} {L : List (List Rl)} : smallB ns na F L = true ↔ (ns ≤ 10 ∧ F.length ≤ 10 ∧ L.length ≤ 64 ∧ na ≤ 10) ∧ L.all smallS = true ∧ F.all smallF = true := by
  simp only [smallB, Bool.and_eq_true, decide_eq_true_eq, and_assoc]
theorem small_not {ns na : Nat} {F : List Fd} {L : List (List Rl)} (h : ¬ ((ns ≤ 10 ∧ F.length ≤ 10 ∧ L.length ≤ 64 ∧ na ≤ 10) ∧ L.all smallS = true ∧ F.all smallF = true)) : smallB ns na F L = false := by
  cases hs : smallB ns na F L with
  | false => rfl
  | true => exact absurd (smallB_iff.1 hs) h
theorem all_take_succ {α : Type} {p : α → Bool} {l : List α} {i : Nat} {x : α} (h : (l.take i).all p = true) (hx : l[i]? = some x) (hp : p x = true) : (l.take (i + 1)).all p = true := by
  rw [List.take_add_one, hx, Option.toList_some, List.all_append, h]; simp [hp]
theorem all_not {α : Type} {p : α → Bool} {l : List α} {i : Nat} {x : α} (hx : l[i]? = some x) (hp : p x = false) : ¬ l.all p = true := by
  intro h
  have := List.all_eq_true.1 h x (List.mem_of_getElem? hx)
  rw [hp] at this; cases this

set_option maxRecDepth 100000 in
set_option maxHeartbeats 8000000 in
theorem small_calls (s1 fa s3 s4 : Option Addr) (ns c1 fc n3 c3 n4 c4 : Nat) (F : List Fd) (sa : Option Addr) (na sc : Nat) (st : Int) (ta : Option Addr) (L : List (List Rl)) (tc : Nat) (lp : Int) (w : World) (hF : Fields w fa fc F) (hT : Sts w ta tc L) :
    Calls Try.prog 17 #[.agg #[.slice s1 ns c1, .slice fa F.length fc, .slice s3 n3 c3, .slice s4 n4 c4], .agg #[.slice sa na sc, .int .i64 st, .slice ta L.length tc, .int .i64 lp]] w
      fun e w' => e = .returned (.bool (smallB ns na F L)) ∧ w.grownBy w' none := by
  obtain ⟨f, hf⟩ : ∃ f, F.length = f := ⟨_, rfl⟩
  obtain ⟨k, hk⟩ : ∃ k, L.length = k := ⟨_, rfl⟩
  rw [hf, hk]
  have hg := (World.grownBy_alloc w (.cells #[.slice s1 ns c1, .slice fa f fc, .slice s3 n3 c3, .slice s4 n4 c4] 27) none).trans (World.grownBy_alloc (w.alloc (.cells #[.slice s1 ns c1, .slice fa f fc, .slice s3 n3 c3, .slice s4 n4 c4] 27)) (.cells #[.slice sa na sc, .int .i64 st, .slice ta k tc, .int .i64 lp] 33) none)
  have hc := eight_cells w (.slice s1 ns c1) (.slice fa f fc) (.slice s3 n3 c3) (.slice s4 n4 c4) (.slice sa na sc) (.int .i64 st) (.slice ta k tc) (.int .i64 lp) 27 33
  have HR : Hid (∀ b, b = smallB ns na F L → smallB ns na F L = b) := Lib.hid fun b h => h.symm
  have HX := Lib.hid (And.intro hf (And.intro hk (And.intro (hF.grown hg) (hT.grown hg)))); clear hf hk hF hT
  have HG := Lib.hid hg; clear hg
  by_cases q0 : 10 < ns
  · have HF : Hid (smallB ns na F L = false) := Lib.hid (small_not (by rintro ⟨h, _⟩; have h1 := HX.out.1; have h2 := HX.out.2.1; omega))
    have f0 : decide (10 < ns) = true := decide_eq_true q0
    have g0 : decide (10 < (ns : Int)) = true := decide_eq_true (by omega)
    clear q0 hc HR
    go_enter Try.func17, Try.ntmps17
    go_wp2_with fail
    go_ret
    exact ⟨by rw [HF.out]; rfl, HG.out⟩
  have f0 : decide (10 < ns) = false := decide_eq_false q0
  have g0 : decide (10 < (ns : Int)) = false := decide_eq_false (by omega)
  by_cases q1 : 10 < f
  · have HF : Hid (smallB ns na F L = false) := Lib.hid (small_not (by rintro ⟨h, _⟩; have h1 := HX.out.1; have h2 := HX.out.2.1; omega))
    have f1 : decide (10 < f) = true := decide_eq_true q1
    have g1 : decide (10 < (f : Int)) = true := decide_eq_true (by omega)
    clear q0 q1 hc HR
    go_enter Try.func17, Try.ntmps17
    go_wp2_with fail
    go_ret
    exact ⟨by rw [HF.out]; rfl, HG.out⟩
  have f1 : decide (10 < f) = false := decide_eq_false q1
  have g1 : decide (10 < (f : Int)) = false := decide_eq_false (by omega)
  by_cases q2 : 64 < k
  · have HF : Hid (smallB ns na F L = false) := Lib.hid (small_not (by rintro ⟨h, _⟩; have h1 := HX.out.1; have h2 := HX.out.2.1; omega))
    have f2 : decide (64 < k) = true := decide_eq_true q2
    have g2 : decide (64 < (k : Int)) = true := decide_eq_true (by omega)
    clear q0 q1 q2 hc HR
    go_enter Try.func17, Try.ntmps17
    go_wp2_with fail
    go_ret
    exact ⟨by rw [HF.out]; rfl, HG.out⟩
  have f2 : decide (64 < k) = false := decide_eq_false q2
  have g2 : decide (64 < (k : Int)) = false := decide_eq_false (by omega)
  by_cases q3 : 10 < na
  · have HF : Hid (smallB ns na F L = false) := Lib.hid (small_not (by rintro ⟨h, _⟩; have h1 := HX.out.1; have h2 := HX.out.2.1; omega))
    have f3 : decide (10 < na) = true := decide_eq_true q3
    have g3 : decide (10 < (na : Int)) = true := decide_eq_true (by omega)
    clear q0 q1 q2 q3 hc HR
    go_enter Try.func17, Try.ntmps17
    go_wp2_with fail
    go_ret
    exact ⟨by rw [HF.out]; rfl, HG.out⟩
  have f3 : decide (10 < na) = false := decide_eq_false q3
  have g3 : decide (10 < (na : Int)) = false := decide_eq_false (by omega)
  have HQ := Lib.hid (show ns ≤ 10 ∧ f ≤ 10 ∧ k ≤ 64 ∧ na ≤ 10 by omega); clear q0 q1 q2 q3 HR
  obtain ⟨W, hW⟩ : ∃ W, (w.alloc (.cells #[.slice s1 ns c1, .slice fa f fc, .slice s3 n3 c3, .slice s4 n4 c4] 27)).alloc (.cells #[.slice sa na sc, .int .i64 st, .slice ta k tc, .int .i64 lp] 33) = W := ⟨_, rfl⟩
  rw [hW] at HX HG hc
  obtain ⟨⟨a0, a1, a2, a3⟩, b0, b1, b2, b3⟩ := hc
  go_enter Try.func17, Try.ntmps17
  go_wp2_with fail
  clear hW f0 f1 f2 f3 g0 g1 g2 g3
  have hk64 : k ≤ 64 := HQ.out.2.2.1
  have hf10 : f ≤ 10 := HQ.out.2.1
  go_loopg [5] k (fun g s5 wr => ∃ i : Nat, s5 = .int .i64 (i : Int) ∧ g = k - i ∧ i ≤ k ∧ (L.take i).all smallS = true ∧ wr = W)
  case atStart => exact ⟨0, rfl, rfl, Nat.zero_le _, rfl, rfl⟩
  case round =>
    obtain ⟨i, rfl, hgi, hi, hok, rfl⟩ := hrel
    have HI := Lib.hid (And.intro hgi hok); clear hgi hok
    by_cases hin : i < k
    · have hinB : decide (i < k) = true := by simpa using hin
      have hinI : (i : Int) < (k : Int) := by omega
      obtain ⟨l, hx⟩ : ∃ l, L[i]? = some l := ⟨_, List.getElem?_eq_getElem (by rw [HX.out.2.1]; exact hin)⟩
      obtain ⟨sb, so, rfl, la, lc, e0, hrels⟩ := HX.out.2.2.2.2 i l hx
      obtain ⟨p, hp⟩ : ∃ p, l.length = p := ⟨_, rfl⟩
      rw [hp] at e0
      have HL := Lib.hid (And.intro hx (And.intro hp hrels)); clear hx hp hrels
      by_cases hp10 : 10 < p
      · have HF : Hid (smallB ns na F L = false) := Lib.hid (small_not (by
          rintro ⟨_, h, _⟩
          exact all_not HL.out.1 (by rw [smallS, HL.out.2.1, decide_eq_false (by omega)]; rfl) h))
        have f0 : decide (10 < p) = true := decide_eq_true hp10
        have g0 : decide (10 < (p : Int)) = true := decide_eq_true (by omega)
        clear hp10
        go_wp2_with fail
        go_ret
        exact ⟨by rw [HF.out]; rfl, HG.out⟩
      have f0 : decide (10 < p) = false := decide_eq_false hp10
      have g0 : decide (10 < (p : Int)) = false := decide_eq_false (by omega)
      have hp10' : p ≤ 10 := by omega
      clear hp10
      go_wp2_with fail
      clear f0 g0
      go_loopg [6] p (fun g s6 wq => ∃ j : Nat, s6 = .int .i64 (j : Int) ∧ g = p - j ∧ j ≤ p ∧ (l.take j).all smallR = true ∧ wq = wr)
      case atStart => exact ⟨0, rfl, rfl, Nat.zero_le _, rfl, rfl⟩
      case round =>
        obtain ⟨j, rfl, hgj, hj, hokj, rfl⟩ := hrel
        have HJ := Lib.hid (And.intro hgj hokj); clear hgj hokj
        by_cases hjn : j < p
        · have hjB : decide (j < p) = true := by simpa using hjn
          have hjI : (j : Int) < (p : Int) := by omega
          obtain ⟨r, hy⟩ : ∃ r, l[j]? = some r := ⟨_, List.getElem?_eq_getElem (by rw [HL.out.2.1]; exact hjn)⟩
          obtain ⟨rb, ro, rfl, r0, ra, rc, r1, _⟩ := HL.out.2.2.2 j r hy
          obtain ⟨z, hz⟩ : ∃ z, r.2.length = z := ⟨_, rfl⟩
          rw [hz] at r1
          have HY := Lib.hid (And.intro hy hz); clear hy hz
          by_cases hz200 : 200 < z
          · have HF : Hid (smallB ns na F L = false) := Lib.hid (small_not (by
              rintro ⟨_, h, _⟩
              refine all_not HL.out.1 ?_ h
              rw [smallS, Bool.and_eq_false_iff]
              exact .inr (by rw [List.all_eq_false]; exact ⟨r, List.mem_of_getElem? HY.out.1, by rw [smallR, HY.out.2]; simp; omega⟩)))
            have f0 : decide (200 < z) = true := decide_eq_true hz200
            have g0 : decide (200 < (z : Int)) = true := decide_eq_true (by omega)
            clear hz200
            go_wp2_with fail
            go_ret
            exact ⟨by rw [HF.out]; rfl, HG.out⟩
          · have HS : Hid (smallR r = true) := Lib.hid (by rw [smallR, HY.out.2]; exact decide_eq_true (by omega))
            have f0 : decide (200 < z) = false := decide_eq_false hz200
            have g0 : decide (200 < (z : Int)) = false := decide_eq_false (by omega)
            clear hz200
            go_wp2_with fail
            go_roundg (p - (j + 1))
            case measure => rw [HJ.out.1]; omega
            case rel => exact ⟨j + 1, rfl, rfl, by omega, all_take_succ HJ.out.2 HY.out.1 HS.out, rfl⟩
        · have hje : j = p := by omega
          subst hje
          have hjB : decide (j < j) = false := by simp
          have HS : Hid (smallS l = true) := Lib.hid (by
            have := HJ.out.2
            rw [List.take_of_length_le (by rw [HL.out.2.1]; exact Nat.le_refl _)] at this
            rw [smallS, this, HL.out.2.1, decide_eq_true hp10']; rfl)
          go_wp2_with fail
          go_roundg (k - (i + 1))
          case measure => rw [HI.out.1]; omega
          case rel => exact ⟨i + 1, rfl, rfl, by omega, all_take_succ HI.out.2 HL.out.1 HS.out, rfl⟩
    · have hie : i = k := by omega
      subst hie
      have hinB : decide (i < i) = false := by simp
      have HLL : Hid (L.all smallS = true) := Lib.hid (by
        have := HI.out.2
        rwa [List.take_of_length_le (by rw [HX.out.2.1]; exact Nat.le_refl _)] at this)
      go_wp2_with fail
      go_loopg [7] f (fun g s7 wq => ∃ j : Nat, s7 = .int .i64 (j : Int) ∧ g = f - j ∧ j ≤ f ∧ (F.take j).all smallF = true ∧ wq = wr)
      case atStart => exact ⟨0, rfl, rfl, Nat.zero_le _, rfl, rfl⟩
      case round =>
        obtain ⟨j, rfl, hgj, hj, hokj, rfl⟩ := hrel
        have HJ := Lib.hid (And.intro hgj hokj); clear hgj hokj
        by_cases hjn : j < f
        · have hjB : decide (j < f) = true := by simpa using hjn
          have hjI : (j : Int) < (f : Int) := by omega
          obtain ⟨fd, hy⟩ : ∃ fd, F[j]? = some fd := ⟨_, List.getElem?_eq_getElem (by rw [HX.out.1]; exact hjn)⟩
          obtain ⟨rb, ro, rfl, r0, ⟨ra, rc, r1, _⟩, r2⟩ := HX.out.2.2.1.2 j fd hy
          obtain ⟨z, hz⟩ : ∃ z, fd.2.1.length = z := ⟨_, rfl⟩
          rw [hz] at r1
          have HY := Lib.hid (And.intro hy hz); clear hy hz r0 r2
          by_cases hz10 : 10 < z
          · have HF : Hid (smallB ns na F L = false) := Lib.hid (small_not (by
              rintro ⟨_, _, h⟩
              exact all_not HY.out.1 (by rw [smallF, HY.out.2]; exact decide_eq_false (by omega)) h))
            have f0 : decide (10 < z) = true := decide_eq_true hz10
            have g0 : decide (10 < (z : Int)) = true := decide_eq_true (by omega)
            clear hz10
            go_wp2_with fail
            go_ret
            exact ⟨by rw [HF.out]; rfl, HG.out⟩
          · have HS : Hid (smallF fd = true) := Lib.hid (by rw [smallF, HY.out.2]; exact decide_eq_true (by omega))
            have f0 : decide (10 < z) = false := decide_eq_false hz10
            have g0 : decide (10 < (z : Int)) = false := decide_eq_false (by omega)
            clear hz10
            go_wp2_with fail
            go_roundg (f - (j + 1))
            case measure => rw [HJ.out.1]; omega
            case rel => exact ⟨j + 1, rfl, rfl, by omega, all_take_succ HJ.out.2 HY.out.1 HS.out, rfl⟩
        · have hje : j = f := by omega
          subst hje
          have hjB : decide (j < j) = false := by simp
          have HYES : Hid (smallB ns na F L = true) := Lib.hid (smallB_iff.2 ⟨⟨HQ.out.1, by rw [HX.out.1]; exact HQ.out.2.1, by rw [HX.out.2.1]; exact HQ.out.2.2.1, HQ.out.2.2.2⟩, HLL.out, by
            have := HJ.out.2
            rwa [List.take_of_length_le (by rw [HX.out.1]; exact Nat.le_refl _)] at this⟩)
          go_wp2_with fail
          go_ret
          exact ⟨by rw [HYES.out]; rfl, HG.out⟩
end Go.Proofs.Ytbddpjofhddilaa

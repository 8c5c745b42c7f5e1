/- Common texts of the laws of stage 9, joined: TL. -/
import Derived.Test.YtbddpjofhddilaaN07
import Derived.Test.YtbddpjofhddilaaN08
import Derived.Test.YtbddpjofhddilaaN06
import Derived.Deep.RegionHeld3
/- The meet of two rows of bounds. -/
namespace Go.Proofs.Ytbddpjofhddilaa
open Go.RowKit

set_option maxRecDepth 100000 in
set_option maxHeartbeats 4000000 in
theorem allMeet_calls  (l : List Bd) (m : List Bd) (a a' : Option Addr) (c c' : Nat) (w : World)  (h : Bds w a c l) (h' : Bds w a' c' m) (hl : l.length ≤ 100000) (hx : ∀ x ∈ l, x.1.2.length ≤ 100000 ∧ x.2.2.length ≤ 100000) (hy : ∀ y ∈ m, y.1.2.length ≤ 100000 ∧ y.2.2.length ≤ 100000) :
    Calls Try.prog 93 #[.slice a l.length c, .slice a' m.length c', .func (.func 102) #[] #[]] w fun e w' => e = .returned (.bool (allB (meetB) l m)) ∧ w.grownBy w' none := by
  obtain ⟨n, hn⟩ : ∃ n, l.length = n := ⟨_, rfl⟩
  obtain ⟨n', hn'⟩ : ∃ n', m.length = n' := ⟨_, rfl⟩
  rw [hn] at hl ⊢
  rw [hn']
  have HN := Lib.hid (And.intro hn hn')
  have HH := Lib.hid (And.intro h (And.intro h' (And.intro hx hy))); clear h h' hx hy
  by_cases hnm : n = n'
  · have hB : ((n : Int) != (n' : Int)) = false := by simp; omega
    subst hnm
    clear hn hn'
    go_enter Try.func93, Try.ntmps93
    go_wp2_with fail
    go_loopg [7, 15] n (fun g s7 s15 wr => ∃ i : Nat, s15 = .int .i64 (i : Int) ∧ g = n - i ∧ i ≤ n ∧ (∀ (j : Nat) (x : Bd) (y : Bd), j < i → l[j]? = some x → m[j]? = some y → (meetB) x y = true) ∧ w.grownBy wr none)
    case atStart => exact ⟨0, rfl, rfl, Nat.zero_le _, fun j _ _ hj => absurd hj (Nat.not_lt_zero _), grown_refl _ _⟩
    case round =>
      obtain ⟨i, rfl, hgi, hi, hok, hgr⟩ := hrel
      have HGI := Lib.hid (And.intro hgi (And.intro hok hgr)); clear hgi hok hgr
      by_cases hin : i < n
      · have hinB : decide (i < n) = true := by simpa using hin
        have hinI : (i : Int) < (n : Int) := by omega
        obtain ⟨x, hx⟩ : ∃ x, l[i]? = some x := ⟨_, List.getElem?_eq_getElem (by rw [HN.out.1]; exact hin)⟩
        obtain ⟨y, hy⟩ : ∃ y, m[i]? = some y := ⟨_, List.getElem?_eq_getElem (by rw [HN.out.2]; exact hin)⟩
        obtain ⟨b, o, rfl, hbx⟩ := (HH.out.1.grown HGI.out.2.2).2 i x hx
        obtain ⟨b', o', rfl, hby⟩ := (HH.out.2.1.grown HGI.out.2.2).2 i y hy
        obtain ⟨xa1, xk1, xa2, xk2, xc0, xc1, xc2, xc3, xi1, xi2⟩ := hbx.parts
        obtain ⟨ya1, yk1, ya2, yk2, yc0, yc1, yc2, yc3, yi1, yi2⟩ := hby.parts
        have HX := Lib.hid (And.intro hx hy)
        have HC := Lib.hid (fun (W : World) (g : wr.grownBy W none) => meet1_calls x y xa1 xa2 ya1 ya2 xk1 xk2 yk1 yk2 W (xi2.grown g) (yi1.grown g) (yi2.grown g))
        simp only [bdV] at HC
        obtain ⟨B, hBB⟩ : ∃ B, (meetB) x y = B := ⟨_, rfl⟩
        rw [hBB] at HC
        have HBB := Lib.hid hBB
        clear hBB hx hy hbx hby xi1 xi2 yi1 yi2
        go_wp2_with fail
        go_region_held3 (fun w' => wr.grownBy w' none ∧ w'.cell? ⟨b, o + i * 4, none⟩ = some (.int .i64 x.1.1) ∧ w'.cell? ⟨b, o + i * 4 + 1, none⟩ = some (.slice xa1 x.1.2.length xk1) ∧ w'.cell? ⟨b, o + i * 4 + 2, none⟩ = some (.int .i64 x.2.1) ∧ w'.cell? ⟨b, o + i * 4 + 3, none⟩ = some (.slice xa2 x.2.2.length xk2) ∧ w'.cell? ⟨b', o' + i * 4, none⟩ = some (.int .i64 y.1.1) ∧ w'.cell? ⟨b', o' + i * 4 + 1, none⟩ = some (.slice ya1 y.1.2.length yk1) ∧ w'.cell? ⟨b', o' + i * 4 + 2, none⟩ = some (.int .i64 y.2.1) ∧ w'.cell? ⟨b', o' + i * 4 + 3, none⟩ = some (.slice ya2 y.2.2.length yk2))
          (first | exact ⟨⟨rfl, rfl, rfl, Nat.le_refl _, fun _ _ _ => rfl⟩, xc0, xc1, xc2, xc3, yc0, yc1, yc2, yc3⟩ | (go_split_ands; exact held_next8 g3 (by assumption) (by assumption) (by assumption) (by assumption) (by assumption) (by assumption) (by assumption) (by assumption) (by assumption)) | fail)
          (first | (go_at_call 102; with_reducible refine (HC.out _ ?_).mono ?_; (go_split_ands; assumption); rintro e w3 ⟨rfl, g3⟩) | fail)
        all_goals
          have h14 : wr.grownBy w3 none := by go_split_ands; assumption
          have HG := Lib.hid (HGI.out.2.2.trans h14)
          clear h14
          cases B with
          | true =>
            go_wp2_with fail
            go_roundg (n - (i + 1))
            case measure => rw [HGI.out.1]; omega
            case rel => exact ⟨i + 1, rfl, rfl, by omega, fun j x' y' hj hx' hy' => by
              by_cases hji : j < i
              · exact HGI.out.2.1 j x' y' hji hx' hy'
              · have : j = i := by omega
                subst this
                rw [HX.out.1] at hx'
                rw [HX.out.2] at hy'
                cases hx'
                cases hy'
                exact HBB.out, HG.out⟩
          | false =>
            have HR : Hid (allB (meetB) l m = false) := Lib.hid (by
              cases hq : allB (meetB) l m with
              | false => rfl
              | true => have h1 := (allB_iff.1 hq).2 i x y HX.out.1 HX.out.2; rw [HBB.out] at h1; cases h1)
            go_wp2_with fail
            go_ret
            exact ⟨by rw [HR.out]; rfl, HG.out⟩
      · have hie : i = n := by omega
        subst hie
        have hinB : decide (i < i) = false := by simp
        have HR : Hid (allB (meetB) l m = true) := Lib.hid (allB_iff.2 ⟨by rw [HN.out.1, HN.out.2], fun j x y hx hy => HGI.out.2.1 j x y (by have := (List.getElem?_eq_some_iff.1 hx).1; rw [HN.out.1] at this; exact this) hx hy⟩)
        go_wp2_with fail
        go_ret
        exact ⟨by rw [HR.out]; rfl, HGI.out.2.2⟩
  · have hB : ((n : Int) != (n' : Int)) = true := by simp; omega
    have HR : Hid (allB (meetB) l m = false) := Lib.hid (by
      cases hq : allB (meetB) l m with
      | false => rfl
      | true => exact absurd (by rw [← hn, ← hn']; exact (allB_iff.1 hq).1) hnm)
    clear hn hn'
    go_enter Try.func93, Try.ntmps93
    go_wp2_with fail
    go_ret
    exact ⟨by rw [HR.out]; rfl, grown_refl _ _⟩

def meetX (x y : Bd) : Bd := ((x.1.1, unionL x.1.2 y.1.2), (x.2.1, interL x.2.2 y.2.2))
def okX (x y : Bd) : Bool := inB (meetX x y).1.2 (meetX x y).2.2
/-- What the meet answers: the bounds, the error's number. -/
def meetR (A B : List Bd) : List Bd × Nat := if allB meetB A B then (if allB okX A B then (List.zipWith meetX A B, 0) else ([], 100)) else ([], 1)
def MeetP (A B : List Bd) (w : World) (e : Ending) (w' : World) : Prop :=
  ∃ a c, e = .returned (.tuple #[.slice a (meetR A B).1.length c, .int .i64 ((meetR A B).2 : Int)]) ∧ Span w.heap.size w'.heap.size w' (fun W => Bds W a c (meetR A B).1) ∧ w.grownBy w' none
theorem meetP_none {A B : List Bd} {w w' : World} {n : Nat} (h : meetR A B = ([], n)) (hg : w.grownBy w' none) : MeetP A B w (.returned (.tuple #[.slice none 0 0, .int .i64 (n : Int)])) w' := by
  refine ⟨none, 0, by rw [h]; rfl, ⟨Nat.le_refl _, fun W _ => ?_⟩, hg⟩
  rw [h]; exact bds_nil W _ _
/-- A bound's box that has just been made, of zeros. -/
structure Zero4 (lo : Nat) (W : World) (g : Nat) : Prop where
  ge : lo ≤ g
  lt : g < W.heap.size
  c0 : W.cell? ⟨g, 0, none⟩ = some (.int .i64 0)
  c1 : W.cell? ⟨g, 1, none⟩ = some (.slice none 0 0)
  c2 : W.cell? ⟨g, 2, none⟩ = some (.int .i64 0)
  c3 : W.cell? ⟨g, 3, none⟩ = some (.slice none 0 0)
  f0 : W.frozen? ⟨g, 0, none⟩ = false
  f1 : W.frozen? ⟨g, 1, none⟩ = false
  f2 : W.frozen? ⟨g, 2, none⟩ = false
  f3 : W.frozen? ⟨g, 3, none⟩ = false
theorem Zero4.new {lo : Nat} (w : World) (h : lo ≤ w.heap.size) : Zero4 lo (w.alloc (.cells #[.int .i64 0, .slice none 0 0, .int .i64 0, .slice none 0 0] 74)) w.heap.size :=
  ⟨h, by simp, by go_simp, by go_simp, by go_simp, by go_simp, by go_simp, by go_simp, by go_simp, by go_simp⟩
theorem Zero4.grown {lo : Nat} {W W' : World} {g : Nat} (h : Zero4 lo W g) (hg : W.grownBy W' none) : Zero4 lo W' g :=
  ⟨h.ge, Nat.lt_of_lt_of_le h.lt hg.size, hg.cell h.c0 (by simp), hg.cell h.c1 (by simp), hg.cell h.c2 (by simp), hg.cell h.c3 (by simp), (grown_frozen hg h.lt 0).trans h.f0, (grown_frozen hg h.lt 1).trans h.f1, (grown_frozen hg h.lt 2).trans h.f2, (grown_frozen hg h.lt 3).trans h.f3⟩
theorem four_set {w : World} {b : Nat} {x0 x1 x2 x3 : Value} (y0 y1 y2 y3 : Value) (h0 : w.cell? ⟨b, 0, none⟩ = some x0) (h1 : w.cell? ⟨b, 1, none⟩ = some x1) (h2 : w.cell? ⟨b, 2, none⟩ = some x2) (h3 : w.cell? ⟨b, 3, none⟩ = some x3) :
    ((((w.setCell ⟨b, 0, none⟩ y0).setCell ⟨b, 1, none⟩ y1).setCell ⟨b, 2, none⟩ y2).setCell ⟨b, 3, none⟩ y3).cell? ⟨b, 0, none⟩ = some y0 ∧
    ((((w.setCell ⟨b, 0, none⟩ y0).setCell ⟨b, 1, none⟩ y1).setCell ⟨b, 2, none⟩ y2).setCell ⟨b, 3, none⟩ y3).cell? ⟨b, 1, none⟩ = some y1 ∧
    ((((w.setCell ⟨b, 0, none⟩ y0).setCell ⟨b, 1, none⟩ y1).setCell ⟨b, 2, none⟩ y2).setCell ⟨b, 3, none⟩ y3).cell? ⟨b, 2, none⟩ = some y2 ∧
    ((((w.setCell ⟨b, 0, none⟩ y0).setCell ⟨b, 1, none⟩ y1).setCell ⟨b, 2, none⟩ y2).setCell ⟨b, 3, none⟩ y3).cell? ⟨b, 3, none⟩ = some y3 ∧
    w.grownBy ((((w.setCell ⟨b, 0, none⟩ y0).setCell ⟨b, 1, none⟩ y1).setCell ⟨b, 2, none⟩ y2).setCell ⟨b, 3, none⟩ y3) (some b) := by
  have ne : ∀ {i j : Nat}, i ≠ j → (⟨b, i, none⟩ : Addr) ≠ ⟨b, j, none⟩ := fun h e => by injection e with _ e; exact h e
  refine ⟨?_, ?_, ?_, ?_, ?_⟩
  · rw [World.cell?_setCell_other _ _ _ _ (ne (by decide)), World.cell?_setCell_other _ _ _ _ (ne (by decide)), World.cell?_setCell_other _ _ _ _ (ne (by decide))]
    exact World.cell?_setCell_same _ _ _ h0
  · rw [World.cell?_setCell_other _ _ _ _ (ne (by decide)), World.cell?_setCell_other _ _ _ _ (ne (by decide))]
    exact World.cell?_setCell_same _ _ _ (by rw [World.cell?_setCell_other _ _ _ _ (ne (by decide))]; exact h1)
  · rw [World.cell?_setCell_other _ _ _ _ (ne (by decide))]
    exact World.cell?_setCell_same _ _ _ (by rw [World.cell?_setCell_other _ _ _ _ (ne (by decide)), World.cell?_setCell_other _ _ _ _ (ne (by decide))]; exact h2)
  · exact World.cell?_setCell_same _ _ _ (by rw [World.cell?_setCell_other _ _ _ _ (ne (by decide)), World.cell?_setCell_other _ _ _ _ (ne (by decide)), World.cell?_setCell_other _ _ _ _ (ne (by decide))]; exact h3)
  · exact (((grown_set _ b 0 y0).trans (grown_set _ b 1 y1)).trans (grown_set _ b 2 y2)).trans (grown_set _ b 3 y3)
theorem span_both {lo hi : Nat} {w : World} {P Q : World → Prop} (h : Span lo hi w P) (k : Span lo hi w Q) : Span lo hi w (fun W => P W ∧ Q W) := ⟨h.1, fun W hW => ⟨h.2 W hW, k.2 W hW⟩⟩
theorem info74 : (Try.prog.info? 74).map (fun i => (i.zero, i.size, i.bytes)) = some (some (.agg #[.int .i64 0, .slice none 0 0, .int .i64 0, .slice none 0 0]), 4, 64) := by kernel_rfl
theorem cell_four_new (w : World) (x y z u : Value) (t : TypeId) : ∀ j v, [x, y, z, u][j]? = some v → (w.alloc (.cells #[x, y, z, u] t)).cell? ((⟨w.heap.size, 0, none⟩ : Addr).add j) = some v := by
  intro j v hv
  rw [add_at, World.cell?_alloc_new]
  match j, hv with
  | 0, hv => simpa using hv
  | 1, hv => simpa using hv
  | 2, hv => simpa using hv
  | 3, hv => simpa using hv
theorem zip_take {α β γ : Type} {f : α → β → γ} {l : List α} {m : List β} {i : Nat} {x : α} {y : β} (hx : l[i]? = some x) (hy : m[i]? = some y) : (List.zipWith f l m).take (i + 1) = (List.zipWith f l m).take i ++ [f x y] := by
  rw [List.take_add_one]
  congr 1
  rw [List.getElem?_zipWith, hx, hy]
  rfl
theorem mlen_X {x y : Bd} (h1 : x.1.2.length ≤ 10000 ∧ x.2.2.length ≤ 10000) (h2 : y.1.2.length ≤ 10000 ∧ y.2.2.length ≤ 10000) : (meetX x y).1.2.length ≤ 100000 ∧ (meetX x y).2.2.length ≤ 100000 := by
  have h3 := merge_len (fun x y => x || y) x.1.2 y.1.2
  have h4 := merge_len (fun x y => x && y) x.2.2 y.2.2
  simp only [meetX, unionL, interL]
  omega

set_option maxRecDepth 100000 in
set_option maxHeartbeats 16000000 in
theorem meet_calls (A B : List Bd) (a a' : Option Addr) (c c' : Nat) (w : World) (h : Bds w a c A) (h' : Bds w a' c' B) (hl : A.length ≤ 1000) (hA : ∀ x ∈ A, x.1.2.length ≤ 10000 ∧ x.2.2.length ≤ 10000) (hB : ∀ x ∈ B, x.1.2.length ≤ 10000 ∧ x.2.2.length ≤ 10000) :
    Calls Try.prog 48 #[.slice a A.length c, .slice a' B.length c'] w (MeetP A B w) := by
  have HALL := Lib.hid (allMeet_calls A B a a' c c' w h h' (by omega) (fun x hx => by have := hA x hx; omega) (fun x hx => by have := hB x hx; omega))
  obtain ⟨i0, hi0, hz0, hz1, hz2⟩ := info_parts info74
  obtain ⟨n, hn⟩ : ∃ n, A.length = n := ⟨_, rfl⟩
  obtain ⟨m, hm⟩ : ∃ m, B.length = m := ⟨_, rfl⟩
  have HH := Lib.hid (And.intro h (And.intro h' (And.intro hA hB)))
  rw [hn, hm] at HALL
  rw [hn] at hl
  rw [hn, hm]
  have HN := Lib.hid (And.intro hn hm)
  clear h h' hA hB hn hm
  obtain ⟨Q, hQ⟩ : ∃ Q, allB (meetB) A B = Q := ⟨_, rfl⟩
  rw [hQ] at HALL
  have HQ := Lib.hid hQ; clear hQ
  go_enter Try.func48, Try.ntmps48
  go_wp2_with fail
  refine HALL.out.mono ?_
  rintro e w1 ⟨rfl, g1⟩
  have HG1 := Lib.hid g1; clear g1
  cases Q with
  | false =>
    have HM : Hid (meetR A B = ([], 1)) := Lib.hid (by rw [meetR, HQ.out]; rfl)
    go_wp2_with fail
    go_ret2
    exact meetP_none HM.out HG1.out
  | true =>
  have HLM : Hid (n = m) := Lib.hid (by have := (allB_iff.1 HQ.out).1; rw [HN.out.1, HN.out.2] at this; exact this)
  go_wp2_with fail
  go_loopg [7, 8, 9, 17] n (fun g s7 s8 s9 s17 wr => ∃ (i : Nat) (D : List Db), s17 = .int .i64 (i : Int) ∧ g = n - i ∧ i ≤ n ∧ D.map (·.1) = (List.zipWith meetX A B).take i ∧ OutB wr w.heap.size s7 D ∧ w.grownBy wr none ∧ ∀ (j : Nat) (x y : Bd), j < i → A[j]? = some x → B[j]? = some y → okX x y = true)
  case atStart => exact ⟨0, [], rfl, rfl, Nat.zero_le _, rfl, Out.start _ _ _, HG1.out, fun j _ _ hj => absurd hj (Nat.not_lt_zero _)⟩
  case round =>
    obtain ⟨i, D, rfl, hgi, hi, hD, hO, hgr, hok⟩ := hrel
    have hDl : D.length = i := by rw [← List.length_map (f := (·.1)), hD, List.length_take, List.length_zipWith, HN.out.1, HN.out.2, ← HLM.out]; omega
    have HI := Lib.hid (And.intro hgi (And.intro hD (And.intro hgr (And.intro hDl hok)))); clear hgi hD hgr hok
    have HO := Lib.hid hO; clear hO
    by_cases hin : i < n
    · have hinB : decide (i < n) = true := by simpa using hin
      have hinI : (i : Int) < (n : Int) := by omega
      have hinM : (i : Int) < (m : Int) := by have := HLM.out; omega
      obtain ⟨x, hx⟩ : ∃ x, A[i]? = some x := ⟨_, List.getElem?_eq_getElem (by rw [HN.out.1]; exact hin)⟩
      obtain ⟨y, hy⟩ : ∃ y, B[i]? = some y := ⟨_, List.getElem?_eq_getElem (by rw [HN.out.2, ← HLM.out]; exact hin)⟩
      obtain ⟨b, o, rfl, hbx⟩ := (HH.out.1.grown HI.out.2.2.1).2 i x hx
      obtain ⟨b', o', rfl, hby⟩ := (HH.out.2.1.grown HI.out.2.2.1).2 i y hy
      obtain ⟨xa1, xk1, xa2, xk2, x0, x1, x2, x3, xi1, xi2⟩ := hbx.parts
      obtain ⟨ya1, yk1, ya2, yk2, y0, y1, y2, y3, yi1, yi2⟩ := hby.parts
      have hlx := HH.out.2.2.1 x (List.mem_of_getElem? hx)
      have hly := HH.out.2.2.2 y (List.mem_of_getElem? hy)
      have HX := Lib.hid (And.intro hx (And.intro hy (And.intro hlx hly)))
      have HUN := Lib.hid (fun (W : World) (g : wr.grownBy W none) => union_calls x.1.1 y.1.1 x.1.2 y.1.2 xa1 ya1 xk1 yk1 W (xi1.grown g) (yi1.grown g) (by omega) (by omega))
      have HIN := Lib.hid (fun (W : World) (g : wr.grownBy W none) => inter_calls x.2.1 y.2.1 x.2.2 y.2.2 xa2 ya2 xk2 yk2 W (xi2.grown g) (yi2.grown g) (by omega) (by omega))
      have hml := mlen_X hlx hly
      have HIC := Lib.hid (fun (W : World) (ua ia : Option Addr) (uc ic : Nat) (hu : IntsW W ua uc (unionL x.1.2 y.1.2)) (hi : IntsW W ia ic (interL x.2.2 y.2.2)) => in_calls x.1.1 x.2.1 (unionL x.1.2 y.1.2) (interL x.2.2 y.2.2) ua ia uc ic W hu hi hml.1 hml.2)
      obtain ⟨x1n, hx1n⟩ : ∃ n, x.1.2.length = n := ⟨_, rfl⟩
      obtain ⟨x2n, hx2n⟩ : ∃ n, x.2.2.length = n := ⟨_, rfl⟩
      obtain ⟨y1n, hy1n⟩ : ∃ n, y.1.2.length = n := ⟨_, rfl⟩
      obtain ⟨y2n, hy2n⟩ : ∃ n, y.2.2.length = n := ⟨_, rfl⟩
      obtain ⟨U, hU⟩ : ∃ U, unionL x.1.2 y.1.2 = U := ⟨_, rfl⟩
      obtain ⟨V, hV⟩ : ∃ U, interL x.2.2 y.2.2 = U := ⟨_, rfl⟩
      obtain ⟨k1, hk1⟩ : ∃ k, x.1.1 = k := ⟨_, rfl⟩
      obtain ⟨k2, hk2⟩ : ∃ k, x.2.1 = k := ⟨_, rfl⟩
      obtain ⟨l1, hl1⟩ : ∃ k, y.1.1 = k := ⟨_, rfl⟩
      obtain ⟨l2, hl2⟩ : ∃ k, y.2.1 = k := ⟨_, rfl⟩
      have HMX : Hid (meetX x y = ((k1, U), (k2, V)) ∧ okX x y = inB U V) := Lib.hid ⟨by rw [meetX, hU, hV, hk1, hk2], by simp only [okX, meetX, hU, hV]⟩
      rw [hk1, hx1n] at HUN
      rw [hl1, hy1n, hU] at HUN
      rw [hk2, hx2n] at HIN
      rw [hl2, hy2n, hV] at HIN
      rw [hk1, hk2, hU, hV] at HIC
      obtain ⟨un, hun⟩ : ∃ n, U.length = n := ⟨_, rfl⟩
      obtain ⟨vn, hvn⟩ : ∃ n, V.length = n := ⟨_, rfl⟩
      rw [hun] at HUN
      rw [hvn] at HIN
      rw [hun, hvn] at HIC
      rw [hk1] at x0
      rw [hk2] at x2
      rw [hl1] at y0
      rw [hl2] at y2
      rw [hx1n] at x1
      rw [hx2n] at x3
      rw [hy1n] at y1
      rw [hy2n] at y3
      have HUV := Lib.hid (And.intro hun hvn)
      obtain ⟨ga, gc, hs7⟩ := own_shape HO.out.own
      subst hs7
      rw [hDl] at HO ⊢
      clear hDl hbx hby hlx hly hx hy hml xi1 xi2 yi1 yi2 hx1n hx2n hy1n hy2n hU hV hk1 hk2 hl1 hl2 hun hvn
      go_wp2_with fail
      have HS := Lib.hid (fun (W : World) (hW : wr.grownBy W none) => (⟨hW, hW.cell x0 (by simp), hW.cell x1 (by simp), hW.cell x2 (by simp), hW.cell x3 (by simp), hW.cell y0 (by simp), hW.cell y1 (by simp), hW.cell y2 (by simp), hW.cell y3 (by simp)⟩ : (fun W : World => wr.grownBy W none ∧ W.cell? ⟨b, o + i * 4, none⟩ = some (.int .i64 k1) ∧ W.cell? ⟨b, o + i * 4 + 1, none⟩ = some (.slice xa1 x1n xk1) ∧ W.cell? ⟨b, o + i * 4 + 2, none⟩ = some (.int .i64 k2) ∧ W.cell? ⟨b, o + i * 4 + 3, none⟩ = some (.slice xa2 x2n xk2) ∧ W.cell? ⟨b', o' + i * 4, none⟩ = some (.int .i64 l1) ∧ W.cell? ⟨b', o' + i * 4 + 1, none⟩ = some (.slice ya1 y1n yk1) ∧ W.cell? ⟨b', o' + i * 4 + 2, none⟩ = some (.int .i64 l2) ∧ W.cell? ⟨b', o' + i * 4 + 3, none⟩ = some (.slice ya2 y2n yk2)) W))
      clear x0 x1 x2 x3 y0 y1 y2 y3
      have hdr : wr.grownBy wr.drew none := ⟨rfl, rfl, rfl, Nat.le_refl _, fun _ _ _ => rfl⟩
      refine wp_region_held_drew (S := (fun W : World => wr.grownBy W none ∧ W.cell? ⟨b, o + i * 4, none⟩ = some (.int .i64 k1) ∧ W.cell? ⟨b, o + i * 4 + 1, none⟩ = some (.slice xa1 x1n xk1) ∧ W.cell? ⟨b, o + i * 4 + 2, none⟩ = some (.int .i64 k2) ∧ W.cell? ⟨b, o + i * 4 + 3, none⟩ = some (.slice xa2 x2n xk2) ∧ W.cell? ⟨b', o' + i * 4, none⟩ = some (.int .i64 l1) ∧ W.cell? ⟨b', o' + i * 4 + 1, none⟩ = some (.slice ya1 y1n yk1) ∧ W.cell? ⟨b', o' + i * 4 + 2, none⟩ = some (.int .i64 l2) ∧ W.cell? ⟨b', o' + i * 4 + 3, none⟩ = some (.slice ya2 y2n yk2))) (by kernel_rfl) (HS.out _ hdr) (fun hHeld => ?_)
      refine wpAnyH_take (i := 0) (oi := { dst := some 20, op := Op.move (Operand.tmp 0), type := 57, pos := "bounds.go:98", after := #[], guard := none }) (v := ?_) rfl (by kernel_rfl) (by kernel_rfl) (by kernel_rfl) (fun _ _ _ h => h) (Or.inl ⟨by rfl, ?_⟩) (by assumption) ?_
      rotate_left 1
      · (intro W hSW; (try dsimp only at hSW); first | (go_simp; done) | (go_simp; with_reducible rfl))
      try simp only [Act.put, List.setIfInBounds_toArray, List.set_cons_zero, List.set_cons_succ]
      refine wpAnyH_take (i := 1) (oi := { dst := some 21, op := Op.move (Operand.tmp 8), type := 3, pos := "bounds.go:98", after := #[], guard := none }) (v := ?_) rfl (by kernel_rfl) (by kernel_rfl) (by kernel_rfl) (fun _ _ _ h => h) (Or.inl ⟨by rfl, ?_⟩) (by assumption) ?_
      rotate_left 1
      · (intro W hSW; (try dsimp only at hSW); first | (go_simp; done) | (go_simp; with_reducible rfl))
      try simp only [Act.put, List.setIfInBounds_toArray, List.set_cons_zero, List.set_cons_succ]
      refine wpAnyH_take (i := 2) (oi := { dst := some 22, op := Op.indexAddr 57 (Operand.tmp 20) (Operand.tmp 21), type := 0, pos := "bounds.go:98", after := #[{ on := 0, ground := Ground.data }, { on := 1, ground := Ground.data }], guard := none }) (v := ?_) rfl (by kernel_rfl) (by kernel_rfl) (by kernel_rfl) (fun _ _ _ h => h) (Or.inl ⟨by rfl, ?_⟩) (by assumption) ?_
      rotate_left 1
      · (intro W hSW; (try dsimp only at hSW); first | (go_simp; done) | (go_simp; with_reducible rfl))
      try simp only [Act.put, List.setIfInBounds_toArray, List.set_cons_zero, List.set_cons_succ]
      refine wpAnyH_take (i := 3) (oi := { dst := some 23, op := Op.fieldAddr 74 (Operand.tmp 22) 0, type := 0, pos := "bounds.go:98", after := #[{ on := 2, ground := Ground.data }], guard := none }) (v := ?_) rfl (by kernel_rfl) (by kernel_rfl) (by kernel_rfl) (fun _ _ _ h => h) (Or.inl ⟨by rfl, ?_⟩) (by assumption) ?_
      rotate_left 1
      · (intro W hSW; (try dsimp only at hSW); first | (go_simp; done) | (go_simp; with_reducible rfl))
      try simp only [Act.put, List.setIfInBounds_toArray, List.set_cons_zero, List.set_cons_succ]
      refine wpAnyH_take (i := 4) (oi := { dst := some 24, op := Op.load 53 (Operand.tmp 23), type := 53, pos := "bounds.go:98", after := #[{ on := 3, ground := Ground.data }], guard := none }) (v := ?_) rfl (by kernel_rfl) (by kernel_rfl) (by kernel_rfl) (fun _ _ _ h => h) (Or.inl ⟨by rfl, ?_⟩) (by assumption) ?_
      rotate_left 1
      · (intro W hSW; (try dsimp only at hSW); first | (go_simp; done) | (go_simp; with_reducible rfl))
      try simp only [Act.put, List.setIfInBounds_toArray, List.set_cons_zero, List.set_cons_succ]
      refine wpAnyH_take (i := 5) (oi := { dst := some 25, op := Op.move (Operand.tmp 1), type := 57, pos := "bounds.go:98", after := #[], guard := none }) (v := ?_) rfl (by kernel_rfl) (by kernel_rfl) (by kernel_rfl) (fun _ _ _ h => h) (Or.inl ⟨by rfl, ?_⟩) (by assumption) ?_
      rotate_left 1
      · (intro W hSW; (try dsimp only at hSW); first | (go_simp; done) | (go_simp; with_reducible rfl))
      try simp only [Act.put, List.setIfInBounds_toArray, List.set_cons_zero, List.set_cons_succ]
      refine wpAnyH_take (i := 6) (oi := { dst := some 26, op := Op.move (Operand.tmp 8), type := 3, pos := "bounds.go:98", after := #[], guard := none }) (v := ?_) rfl (by kernel_rfl) (by kernel_rfl) (by kernel_rfl) (fun _ _ _ h => h) (Or.inl ⟨by rfl, ?_⟩) (by assumption) ?_
      rotate_left 1
      · (intro W hSW; (try dsimp only at hSW); first | (go_simp; done) | (go_simp; with_reducible rfl))
      try simp only [Act.put, List.setIfInBounds_toArray, List.set_cons_zero, List.set_cons_succ]
      refine wpAnyH_take (i := 7) (oi := { dst := some 27, op := Op.indexAddr 57 (Operand.tmp 25) (Operand.tmp 26), type := 0, pos := "bounds.go:98", after := #[{ on := 5, ground := Ground.data }, { on := 6, ground := Ground.data }], guard := none }) (v := ?_) rfl (by kernel_rfl) (by kernel_rfl) (by kernel_rfl) (fun _ _ _ h => h) (Or.inl ⟨by rfl, ?_⟩) (by assumption) ?_
      rotate_left 1
      · (intro W hSW; (try dsimp only at hSW); first | (go_simp; done) | (go_simp; with_reducible rfl))
      try simp only [Act.put, List.setIfInBounds_toArray, List.set_cons_zero, List.set_cons_succ]
      refine wpAnyH_take (i := 8) (oi := { dst := some 28, op := Op.fieldAddr 74 (Operand.tmp 27) 0, type := 0, pos := "bounds.go:98", after := #[{ on := 7, ground := Ground.data }], guard := none }) (v := ?_) rfl (by kernel_rfl) (by kernel_rfl) (by kernel_rfl) (fun _ _ _ h => h) (Or.inl ⟨by rfl, ?_⟩) (by assumption) ?_
      rotate_left 1
      · (intro W hSW; (try dsimp only at hSW); first | (go_simp; done) | (go_simp; with_reducible rfl))
      try simp only [Act.put, List.setIfInBounds_toArray, List.set_cons_zero, List.set_cons_succ]
      refine wpAnyH_take (i := 9) (oi := { dst := some 29, op := Op.load 53 (Operand.tmp 28), type := 53, pos := "bounds.go:98", after := #[{ on := 8, ground := Ground.data }], guard := none }) (v := ?_) rfl (by kernel_rfl) (by kernel_rfl) (by kernel_rfl) (fun _ _ _ h => h) (Or.inl ⟨by rfl, ?_⟩) (by assumption) ?_
      rotate_left 1
      · (intro W hSW; (try dsimp only at hSW); first | (go_simp; done) | (go_simp; with_reducible rfl))
      try simp only [Act.put, List.setIfInBounds_toArray, List.set_cons_zero, List.set_cons_succ]
      refine wpAnyH_take (i := 11) (oi := { dst := some 31, op := Op.move (Operand.tmp 0), type := 57, pos := "bounds.go:98", after := #[], guard := none }) (v := ?_) rfl (by kernel_rfl) (by kernel_rfl) (by kernel_rfl) (fun _ _ _ h => h) (Or.inl ⟨by rfl, ?_⟩) (by assumption) ?_
      rotate_left 1
      · (intro W hSW; (try dsimp only at hSW); first | (go_simp; done) | (go_simp; with_reducible rfl))
      try simp only [Act.put, List.setIfInBounds_toArray, List.set_cons_zero, List.set_cons_succ]
      refine wpAnyH_take (i := 12) (oi := { dst := some 32, op := Op.move (Operand.tmp 8), type := 3, pos := "bounds.go:98", after := #[], guard := none }) (v := ?_) rfl (by kernel_rfl) (by kernel_rfl) (by kernel_rfl) (fun _ _ _ h => h) (Or.inl ⟨by rfl, ?_⟩) (by assumption) ?_
      rotate_left 1
      · (intro W hSW; (try dsimp only at hSW); first | (go_simp; done) | (go_simp; with_reducible rfl))
      try simp only [Act.put, List.setIfInBounds_toArray, List.set_cons_zero, List.set_cons_succ]
      refine wpAnyH_take (i := 13) (oi := { dst := some 33, op := Op.indexAddr 57 (Operand.tmp 31) (Operand.tmp 32), type := 0, pos := "bounds.go:98", after := #[{ on := 11, ground := Ground.data }, { on := 12, ground := Ground.data }], guard := none }) (v := ?_) rfl (by kernel_rfl) (by kernel_rfl) (by kernel_rfl) (fun _ _ _ h => h) (Or.inl ⟨by rfl, ?_⟩) (by assumption) ?_
      rotate_left 1
      · (intro W hSW; (try dsimp only at hSW); first | (go_simp; done) | (go_simp; with_reducible rfl))
      try simp only [Act.put, List.setIfInBounds_toArray, List.set_cons_zero, List.set_cons_succ]
      refine wpAnyH_take (i := 14) (oi := { dst := some 34, op := Op.fieldAddr 74 (Operand.tmp 33) 1, type := 0, pos := "bounds.go:98", after := #[{ on := 13, ground := Ground.data }], guard := none }) (v := ?_) rfl (by kernel_rfl) (by kernel_rfl) (by kernel_rfl) (fun _ _ _ h => h) (Or.inl ⟨by rfl, ?_⟩) (by assumption) ?_
      rotate_left 1
      · (intro W hSW; (try dsimp only at hSW); first | (go_simp; done) | (go_simp; with_reducible rfl))
      try simp only [Act.put, List.setIfInBounds_toArray, List.set_cons_zero, List.set_cons_succ]
      refine wpAnyH_take (i := 15) (oi := { dst := some 35, op := Op.load 53 (Operand.tmp 34), type := 53, pos := "bounds.go:98", after := #[{ on := 14, ground := Ground.data }], guard := none }) (v := ?_) rfl (by kernel_rfl) (by kernel_rfl) (by kernel_rfl) (fun _ _ _ h => h) (Or.inl ⟨by rfl, ?_⟩) (by assumption) ?_
      rotate_left 1
      · (intro W hSW; (try dsimp only at hSW); first | (go_simp; done) | (go_simp; with_reducible rfl))
      try simp only [Act.put, List.setIfInBounds_toArray, List.set_cons_zero, List.set_cons_succ]
      refine wpAnyH_take (i := 16) (oi := { dst := some 36, op := Op.move (Operand.tmp 1), type := 57, pos := "bounds.go:98", after := #[], guard := none }) (v := ?_) rfl (by kernel_rfl) (by kernel_rfl) (by kernel_rfl) (fun _ _ _ h => h) (Or.inl ⟨by rfl, ?_⟩) (by assumption) ?_
      rotate_left 1
      · (intro W hSW; (try dsimp only at hSW); first | (go_simp; done) | (go_simp; with_reducible rfl))
      try simp only [Act.put, List.setIfInBounds_toArray, List.set_cons_zero, List.set_cons_succ]
      refine wpAnyH_take (i := 17) (oi := { dst := some 37, op := Op.move (Operand.tmp 8), type := 3, pos := "bounds.go:98", after := #[], guard := none }) (v := ?_) rfl (by kernel_rfl) (by kernel_rfl) (by kernel_rfl) (fun _ _ _ h => h) (Or.inl ⟨by rfl, ?_⟩) (by assumption) ?_
      rotate_left 1
      · (intro W hSW; (try dsimp only at hSW); first | (go_simp; done) | (go_simp; with_reducible rfl))
      try simp only [Act.put, List.setIfInBounds_toArray, List.set_cons_zero, List.set_cons_succ]
      refine wpAnyH_take (i := 18) (oi := { dst := some 38, op := Op.indexAddr 57 (Operand.tmp 36) (Operand.tmp 37), type := 0, pos := "bounds.go:98", after := #[{ on := 16, ground := Ground.data }, { on := 17, ground := Ground.data }], guard := none }) (v := ?_) rfl (by kernel_rfl) (by kernel_rfl) (by kernel_rfl) (fun _ _ _ h => h) (Or.inl ⟨by rfl, ?_⟩) (by assumption) ?_
      rotate_left 1
      · (intro W hSW; (try dsimp only at hSW); first | (go_simp; done) | (go_simp; with_reducible rfl))
      try simp only [Act.put, List.setIfInBounds_toArray, List.set_cons_zero, List.set_cons_succ]
      refine wpAnyH_take (i := 19) (oi := { dst := some 39, op := Op.fieldAddr 74 (Operand.tmp 38) 1, type := 0, pos := "bounds.go:98", after := #[{ on := 18, ground := Ground.data }], guard := none }) (v := ?_) rfl (by kernel_rfl) (by kernel_rfl) (by kernel_rfl) (fun _ _ _ h => h) (Or.inl ⟨by rfl, ?_⟩) (by assumption) ?_
      rotate_left 1
      · (intro W hSW; (try dsimp only at hSW); first | (go_simp; done) | (go_simp; with_reducible rfl))
      try simp only [Act.put, List.setIfInBounds_toArray, List.set_cons_zero, List.set_cons_succ]
      refine wpAnyH_take (i := 20) (oi := { dst := some 40, op := Op.load 53 (Operand.tmp 39), type := 53, pos := "bounds.go:98", after := #[{ on := 19, ground := Ground.data }], guard := none }) (v := ?_) rfl (by kernel_rfl) (by kernel_rfl) (by kernel_rfl) (fun _ _ _ h => h) (Or.inl ⟨by rfl, ?_⟩) (by assumption) ?_
      rotate_left 1
      · (intro W hSW; (try dsimp only at hSW); first | (go_simp; done) | (go_simp; with_reducible rfl))
      try simp only [Act.put, List.setIfInBounds_toArray, List.set_cons_zero, List.set_cons_succ]
      refine wpAnyH_ready (rs := [10, 23]) (by kernel_rfl) (by simp) ?_
      refine (AllReadyH.cons (o := { dst := some 30, op := Op.call { callee := Callee.value (Operand.func 37), args := #[Operand.tmp 24, Operand.tmp 29], argTypes := #[53, 53] }, type := 53, pos := "bounds.go:98", after := #[{ on := 4, ground := Ground.data }, { on := 9, ground := Ground.data }], guard := none }) rfl (fun K hK => ?_) (AllReadyH.cons (o := { dst := some 9, op := Op.alloc 74, type := 0, pos := "bounds.go:98", after := #[], guard := none }) rfl (fun K hK => ?_) AllReadyH.nil))
      · rw [if_pos (by rfl)]
        go_simp
        go_at_call 37
        refine (HUN.out _ (hdr)).mono ?_
        rintro e wc1 ⟨ua, uc, rfl, hsU, gc1⟩
        have hgr1 := World.grownBy.trans hdr gc1
        have hzU := World.grownBy.size gc1
        try (replace hkc := hkc.grown gc1)
        go_wp2_with fail
        refine hK.out _ _ (HS.out _ hgr1) (fun hHeld => ?_)
        clear hK K
        try simp only [Act.put, List.setIfInBounds_toArray, List.set_cons_zero, List.set_cons_succ]
        refine wpAnyH_ready (rs := [21, 23]) (by kernel_rfl) (by simp) ?_
        refine (AllReadyH.cons (o := { dst := some 41, op := Op.call { callee := Callee.value (Operand.func 103), args := #[Operand.tmp 35, Operand.tmp 40], argTypes := #[53, 53] }, type := 53, pos := "bounds.go:98", after := #[{ on := 15, ground := Ground.data }, { on := 20, ground := Ground.data }, { on := 10, ground := Ground.chain }], guard := none }) rfl (fun K hK => ?_) (AllReadyH.cons (o := { dst := some 9, op := Op.alloc 74, type := 0, pos := "bounds.go:98", after := #[], guard := none }) rfl (fun K hK => ?_) AllReadyH.nil))
        · rw [if_pos (by rfl)]
          go_simp
          go_at_call 103
          refine (HIN.out _ (hgr1)).mono ?_
          rintro e wc2 ⟨ia, ic, rfl, hsI, gc2⟩
          have hgr2 := World.grownBy.trans hgr1 gc2
          have hzI := World.grownBy.size gc2
          replace hsU := hsU.grown gc2
          try (replace hkc := hkc.grown gc2)
          go_wp2_with fail
          refine hK.out _ _ (HS.out _ hgr2) (fun hHeld => ?_)
          clear hK K
          try simp only [Act.put, List.setIfInBounds_toArray, List.set_cons_zero, List.set_cons_succ]
          refine wpAnyH_take (i := 22) (oi := { dst := some 42, op := Op.build 74 #[(0, Operand.tmp 30), (1, Operand.tmp 41)], type := 74, pos := "bounds.go:98", after := #[{ on := 10, ground := Ground.data }, { on := 21, ground := Ground.data }], guard := none }) (v := ?_) rfl (by kernel_rfl) (by kernel_rfl) (by kernel_rfl) (fun _ _ _ h => h) (Or.inl ⟨by rfl, ?_⟩) (by assumption) ?_
          rotate_left 1
          · (intro W hSW; (try dsimp only at hSW); first | (go_simp; done) | (go_simp; with_reducible rfl))
          try simp only [Act.put, List.setIfInBounds_toArray, List.set_cons_zero, List.set_cons_succ]
          refine wpAnyH_ready (rs := [23]) (by kernel_rfl) (by simp) ?_
          refine (AllReadyH.cons (o := { dst := some 9, op := Op.alloc 74, type := 0, pos := "bounds.go:98", after := #[], guard := none }) rfl (fun K hK => ?_) AllReadyH.nil)
          rw [if_pos (by rfl)]
          go_simp
          have hga := World.grownBy.trans hgr2 (World.grownBy_alloc (wc2) (.cells #[.int .i64 0, .slice none 0 0, .int .i64 0, .slice none 0 0] 74) none)
          have hkc := Zero4.new (lo := wr.heap.size) (wc2) (World.grownBy.size hgr2)
          try (replace hsU := hsU.grown (World.grownBy_alloc (wc2) (.cells #[.int .i64 0, .slice none 0 0, .int .i64 0, .slice none 0 0] 74) none))
          try (replace hsI := hsI.grown (World.grownBy_alloc (wc2) (.cells #[.int .i64 0, .slice none 0 0, .int .i64 0, .slice none 0 0] 74) none))
          obtain ⟨WA, hWA⟩ : ∃ WA, World.alloc (wc2) (.cells #[.int .i64 0, .slice none 0 0, .int .i64 0, .slice none 0 0] 74) = WA := ⟨_, rfl⟩
          rw [hWA] at hga hkc ⊢
          try (rw [hWA] at hsU)
          try (rw [hWA] at hsI)
          clear hWA
          have hzA := hkc.lt
          have hzG := World.grownBy.size hga
          refine hK.out _ _ (HS.out _ hga) (fun hHeld => ?_)
          clear hK K
          try simp only [Act.put, List.setIfInBounds_toArray, List.set_cons_zero, List.set_cons_succ]
          refine wpAnyH_ready (rs := [24]) (by kernel_rfl) (by simp) ?_
          refine (AllReadyH.cons (o := { dst := none, op := Op.store 74 (Operand.tmp 9) (Operand.tmp 42), type := 0, pos := "bounds.go:98", after := #[{ on := 23, ground := Ground.data }, { on := 22, ground := Ground.data }, { on := 21, ground := Ground.chain }, { on := 0, ground := Ground.phase }, { on := 1, ground := Ground.phase }, { on := 2, ground := Ground.phase }, { on := 3, ground := Ground.phase }, { on := 4, ground := Ground.phase }, { on := 5, ground := Ground.phase }, { on := 6, ground := Ground.phase }, { on := 7, ground := Ground.phase }, { on := 8, ground := Ground.phase }, { on := 9, ground := Ground.phase }, { on := 10, ground := Ground.phase }, { on := 11, ground := Ground.phase }, { on := 12, ground := Ground.phase }, { on := 13, ground := Ground.phase }, { on := 14, ground := Ground.phase }, { on := 15, ground := Ground.phase }, { on := 16, ground := Ground.phase }, { on := 17, ground := Ground.phase }, { on := 18, ground := Ground.phase }, { on := 19, ground := Ground.phase }, { on := 20, ground := Ground.phase }, { on := 21, ground := Ground.phase }, { on := 22, ground := Ground.phase }, { on := 23, ground := Ground.phase }], guard := none }) rfl (fun K hK => ?_) AllReadyH.nil)
          rw [if_pos (by rfl)]
          have q0 := hkc.c0
          have q1 := hkc.c1
          have q2 := hkc.c2
          have q3 := hkc.c3
          have q4 := hkc.f0
          have q5 := hkc.f1
          have q6 := hkc.f2
          have q7 := hkc.f3
          go_simp
          clear q4 q5 q6 q7
          have hfs := four_set (.int .i64 k1) (.slice ua un uc) (.int .i64 k2) (.slice ia vn ic) q0 q1 q2 q3
          clear q0 q1 q2 q3
          have hgs := grown_own hga hfs.2.2.2.2 (fun k hk => by cases hk; exact hkc.ge)
          refine hK.out _ _ (HS.out _ hgs) (fun hHeld => ?_)
          clear hK K
          try simp only [Act.put, List.setIfInBounds_toArray, List.set_cons_zero, List.set_cons_succ]
          refine wpAnyH_done (by kernel_rfl) ?_ _
          have hEND := hgs
          clear hHeld
          have hdz : wr.drew.heap.size = wr.heap.size := rfl
          have hU2 := hsU.off hfs.2.2.2.2 (fun z e => by cases e; first | exact .inl (by omega) | exact .inr (by omega))
          have hI2 := hsI.off hfs.2.2.2.2 (fun z e => by cases e; first | exact .inl (by omega) | exact .inr (by omega))
          have hU3 := hU2.wide (lo' := wr.heap.size) (by first | exact Nat.le_refl _ | omega) hU2.1 (Nat.le_refl _)
          have hI3 := hI2.wide (lo' := wr.heap.size) (by first | exact Nat.le_refl _ | omega) hI2.1 (Nat.le_refl _)
          have hb3 := span_both hU3 hI3
          obtain ⟨p0, p1, p2, p3, _⟩ := hfs
          obtain ⟨gB, hgB⟩ : ∃ gB, wc2.heap.size = gB := ⟨_, rfl⟩
          obtain ⟨X, hX⟩ : ∃ X, (World.setCell (World.setCell (World.setCell (World.setCell WA ⟨wc2.heap.size, 0, none⟩ (.int .i64 k1)) ⟨wc2.heap.size, 1, none⟩ (.slice ua un uc)) ⟨wc2.heap.size, 2, none⟩ (.int .i64 k2)) ⟨wc2.heap.size, 3, none⟩ (.slice ia vn ic)) = X := ⟨_, rfl⟩
          rw [hX] at p0 p1 p2 p3 hb3 hEND ⊢
          rw [hgB] at p0 p1 p2 p3 ⊢
          clear hdz hX hU2 hI2 hU3 hI3 hsU hsI hgs hga hkc hzA hzG hzU hzI
          clear hgB
          have HE := Lib.hid (And.intro hEND hb3)
          have hIC := HIC.out X ua ia uc ic hb3.here.1 hb3.here.2
          clear hEND hb3
          have HIC2 := Lib.hid hIC
          clear hIC
          go_wp2_with fail
          refine HIC2.out.mono ?_
          rintro e w5 ⟨rfl, g5⟩
          have c0 := g5.cell p0 (by simp)
          have c1 := g5.cell p1 (by simp)
          have c2 := g5.cell p2 (by simp)
          have c3 := g5.cell p3 (by simp)
          have HG5 := Lib.hid (HE.out.1.trans g5)
          have HS5 := Lib.hid ((HE.out.2.grown g5).wide (Nat.le_refl _) g5.size (Nat.le_refl _))
          clear g5 p0 p1 p2 p3
          obtain ⟨Q, hQ⟩ : ∃ Q, inB U V = Q := ⟨_, rfl⟩
          rw [hQ]
          have HOK := Lib.hid hQ
          clear hQ
          cases Q with
          | false =>
            have HM : Hid (meetR A B = ([], 100)) := Lib.hid (by
              rw [meetR, HQ.out, if_pos rfl, if_neg]
              intro hq
              have h1 := (allB_iff.1 hq).2 i x y HX.out.1 HX.out.2.1
              rw [HMX.out.2, HOK.out] at h1
              cases h1)
            go_wp2_with fail
            go_ret2
            exact meetP_none HM.out (HI.out.2.2.1.trans HG5.out)
          | true =>
            have HO5 := Lib.hid (Out.quiet HO.out HG5.out (fun x e => by cases e))
            have hlo : ∀ x, (Value.slice ga i gc).ownBlock = some x → x < wr.heap.size ∨ w5.heap.size ≤ x := fun x hx => .inl (HO.out.own.lt x hx).2
            have HLO := Lib.hid (And.intro hlo HI.out.2.2.1.size); clear hlo
            have HOW : Hid (w5.ownsRow w.heap.size 74 4 (.slice ga i gc) i (D.flatMap bdCells)) := Lib.hid (by have := HO5.out.own; rw [HI.out.2.2.2.1] at this; exact this)
            go_wp2_with (at_builtin; refine wpList_append_own_at _ rfl _ _ 57 rfl w.heap.size 74 i0 (.agg #[.int .i64 0, .slice none 0 0, .int .i64 0, .slice none 0 0]) 4 64 Try.underlying57 hi0 hz0 hz1 hz2 rfl (by decide) _ _ _ rfl (HOW.out.alloc _) ⟨w5.heap.size, 0, none⟩ 1 1 [.int .i64 k1, .slice ua un uc, .int .i64 k2, .slice ia vn ic] rfl rfl (cell_four_new _ _ _ _ _ _) (fun u hu => by simp at hu; rcases hu with rfl | rfl | rfl | rfl <;> rfl) (by unfold maxLen; omega) (by omega) (by have := HLO.out.2; have := HG5.out.size; simp only [World.size_alloc]; omega) ?_; intro v' w6 hown' hgrow6 hnil6 hat6; obtain ⟨g', cap', rfl⟩ := own_shape hown')
            go_roundg (n - (i + 1))
            case measure => rw [HI.out.1]; omega
            case rel =>
              refine ⟨i + 1, D ++ [(((k1, U), (k2, V)), (ua, uc), (ia, ic))], rfl, rfl, by omega, by rw [List.map_append, HI.out.2.1, zip_take HX.out.1 HX.out.2.1, HMX.out.1]; rfl, ?_, ?_, ?_⟩
              · refine Out.push HO5.out (d := (((k1, U), (k2, V)), (ua, uc), (ia, ic))) HS5.out HLO.out.2 HLO.out.1 (by rw [HI.out.2.2.2.1]; simpa [bdCells, HUV.out.1, HUV.out.2] using hown') hgrow6 hat6
              · exact grown_own ((HI.out.2.2.1.trans HG5.out).trans (World.grownBy_alloc _ _ none)) hgrow6 (fun k hk => (HOW.out.lt k hk).1)
              · intro j x' y' hj hx' hy'
                by_cases hji : j < i
                · exact HI.out.2.2.2.2 j x' y' hji hx' hy'
                · have : j = i := by omega
                  subst this
                  rw [HX.out.1] at hx'
                  rw [HX.out.2.1] at hy'
                  cases hx'
                  cases hy'
                  rw [HMX.out.2, HOK.out]
        · rw [if_pos (by rfl)]
          go_simp
          have hga := World.grownBy.trans hgr1 (World.grownBy_alloc (wc1) (.cells #[.int .i64 0, .slice none 0 0, .int .i64 0, .slice none 0 0] 74) none)
          have hkc := Zero4.new (lo := wr.heap.size) (wc1) (World.grownBy.size hgr1)
          try (replace hsU := hsU.grown (World.grownBy_alloc (wc1) (.cells #[.int .i64 0, .slice none 0 0, .int .i64 0, .slice none 0 0] 74) none))
          try (replace hsI := hsI.grown (World.grownBy_alloc (wc1) (.cells #[.int .i64 0, .slice none 0 0, .int .i64 0, .slice none 0 0] 74) none))
          obtain ⟨WA, hWA⟩ : ∃ WA, World.alloc (wc1) (.cells #[.int .i64 0, .slice none 0 0, .int .i64 0, .slice none 0 0] 74) = WA := ⟨_, rfl⟩
          rw [hWA] at hga hkc ⊢
          try (rw [hWA] at hsU)
          try (rw [hWA] at hsI)
          clear hWA
          have hzA := hkc.lt
          have hzG := World.grownBy.size hga
          refine hK.out _ _ (HS.out _ hga) (fun hHeld => ?_)
          clear hK K
          try simp only [Act.put, List.setIfInBounds_toArray, List.set_cons_zero, List.set_cons_succ]
          refine wpAnyH_ready (rs := [21]) (by kernel_rfl) (by simp) ?_
          refine (AllReadyH.cons (o := { dst := some 41, op := Op.call { callee := Callee.value (Operand.func 103), args := #[Operand.tmp 35, Operand.tmp 40], argTypes := #[53, 53] }, type := 53, pos := "bounds.go:98", after := #[{ on := 15, ground := Ground.data }, { on := 20, ground := Ground.data }, { on := 10, ground := Ground.chain }], guard := none }) rfl (fun K hK => ?_) AllReadyH.nil)
          rw [if_pos (by rfl)]
          go_simp
          go_at_call 103
          refine (HIN.out _ (hga)).mono ?_
          rintro e wc3 ⟨ia, ic, rfl, hsI, gc3⟩
          have hgr3 := World.grownBy.trans hga gc3
          have hzI := World.grownBy.size gc3
          replace hsU := hsU.grown gc3
          try (replace hkc := hkc.grown gc3)
          go_wp2_with fail
          refine hK.out _ _ (HS.out _ hgr3) (fun hHeld => ?_)
          clear hK K
          try simp only [Act.put, List.setIfInBounds_toArray, List.set_cons_zero, List.set_cons_succ]
          refine wpAnyH_take (i := 22) (oi := { dst := some 42, op := Op.build 74 #[(0, Operand.tmp 30), (1, Operand.tmp 41)], type := 74, pos := "bounds.go:98", after := #[{ on := 10, ground := Ground.data }, { on := 21, ground := Ground.data }], guard := none }) (v := ?_) rfl (by kernel_rfl) (by kernel_rfl) (by kernel_rfl) (fun _ _ _ h => h) (Or.inl ⟨by rfl, ?_⟩) (by assumption) ?_
          rotate_left 1
          · (intro W hSW; (try dsimp only at hSW); first | (go_simp; done) | (go_simp; with_reducible rfl))
          try simp only [Act.put, List.setIfInBounds_toArray, List.set_cons_zero, List.set_cons_succ]
          refine wpAnyH_ready (rs := [24]) (by kernel_rfl) (by simp) ?_
          refine (AllReadyH.cons (o := { dst := none, op := Op.store 74 (Operand.tmp 9) (Operand.tmp 42), type := 0, pos := "bounds.go:98", after := #[{ on := 23, ground := Ground.data }, { on := 22, ground := Ground.data }, { on := 21, ground := Ground.chain }, { on := 0, ground := Ground.phase }, { on := 1, ground := Ground.phase }, { on := 2, ground := Ground.phase }, { on := 3, ground := Ground.phase }, { on := 4, ground := Ground.phase }, { on := 5, ground := Ground.phase }, { on := 6, ground := Ground.phase }, { on := 7, ground := Ground.phase }, { on := 8, ground := Ground.phase }, { on := 9, ground := Ground.phase }, { on := 10, ground := Ground.phase }, { on := 11, ground := Ground.phase }, { on := 12, ground := Ground.phase }, { on := 13, ground := Ground.phase }, { on := 14, ground := Ground.phase }, { on := 15, ground := Ground.phase }, { on := 16, ground := Ground.phase }, { on := 17, ground := Ground.phase }, { on := 18, ground := Ground.phase }, { on := 19, ground := Ground.phase }, { on := 20, ground := Ground.phase }, { on := 21, ground := Ground.phase }, { on := 22, ground := Ground.phase }, { on := 23, ground := Ground.phase }], guard := none }) rfl (fun K hK => ?_) AllReadyH.nil)
          rw [if_pos (by rfl)]
          have q0 := hkc.c0
          have q1 := hkc.c1
          have q2 := hkc.c2
          have q3 := hkc.c3
          have q4 := hkc.f0
          have q5 := hkc.f1
          have q6 := hkc.f2
          have q7 := hkc.f3
          go_simp
          clear q4 q5 q6 q7
          have hfs := four_set (.int .i64 k1) (.slice ua un uc) (.int .i64 k2) (.slice ia vn ic) q0 q1 q2 q3
          clear q0 q1 q2 q3
          have hgs := grown_own hgr3 hfs.2.2.2.2 (fun k hk => by cases hk; exact hkc.ge)
          refine hK.out _ _ (HS.out _ hgs) (fun hHeld => ?_)
          clear hK K
          try simp only [Act.put, List.setIfInBounds_toArray, List.set_cons_zero, List.set_cons_succ]
          refine wpAnyH_done (by kernel_rfl) ?_ _
          have hEND := hgs
          clear hHeld
          have hdz : wr.drew.heap.size = wr.heap.size := rfl
          have hU2 := hsU.off hfs.2.2.2.2 (fun z e => by cases e; first | exact .inl (by omega) | exact .inr (by omega))
          have hI2 := hsI.off hfs.2.2.2.2 (fun z e => by cases e; first | exact .inl (by omega) | exact .inr (by omega))
          have hU3 := hU2.wide (lo' := wr.heap.size) (by first | exact Nat.le_refl _ | omega) hU2.1 (Nat.le_refl _)
          have hI3 := hI2.wide (lo' := wr.heap.size) (by first | exact Nat.le_refl _ | omega) hI2.1 (Nat.le_refl _)
          have hb3 := span_both hU3 hI3
          obtain ⟨p0, p1, p2, p3, _⟩ := hfs
          obtain ⟨gB, hgB⟩ : ∃ gB, wc1.heap.size = gB := ⟨_, rfl⟩
          obtain ⟨X, hX⟩ : ∃ X, (World.setCell (World.setCell (World.setCell (World.setCell wc3 ⟨wc1.heap.size, 0, none⟩ (.int .i64 k1)) ⟨wc1.heap.size, 1, none⟩ (.slice ua un uc)) ⟨wc1.heap.size, 2, none⟩ (.int .i64 k2)) ⟨wc1.heap.size, 3, none⟩ (.slice ia vn ic)) = X := ⟨_, rfl⟩
          rw [hX] at p0 p1 p2 p3 hb3 hEND ⊢
          rw [hgB] at p0 p1 p2 p3 ⊢
          clear hdz hX hU2 hI2 hU3 hI3 hsU hsI hgs hga hkc hzA hzG hzU hzI
          clear hgB
          have HE := Lib.hid (And.intro hEND hb3)
          have hIC := HIC.out X ua ia uc ic hb3.here.1 hb3.here.2
          clear hEND hb3
          have HIC2 := Lib.hid hIC
          clear hIC
          go_wp2_with fail
          refine HIC2.out.mono ?_
          rintro e w5 ⟨rfl, g5⟩
          have c0 := g5.cell p0 (by simp)
          have c1 := g5.cell p1 (by simp)
          have c2 := g5.cell p2 (by simp)
          have c3 := g5.cell p3 (by simp)
          have HG5 := Lib.hid (HE.out.1.trans g5)
          have HS5 := Lib.hid ((HE.out.2.grown g5).wide (Nat.le_refl _) g5.size (Nat.le_refl _))
          clear g5 p0 p1 p2 p3
          obtain ⟨Q, hQ⟩ : ∃ Q, inB U V = Q := ⟨_, rfl⟩
          rw [hQ]
          have HOK := Lib.hid hQ
          clear hQ
          cases Q with
          | false =>
            have HM : Hid (meetR A B = ([], 100)) := Lib.hid (by
              rw [meetR, HQ.out, if_pos rfl, if_neg]
              intro hq
              have h1 := (allB_iff.1 hq).2 i x y HX.out.1 HX.out.2.1
              rw [HMX.out.2, HOK.out] at h1
              cases h1)
            go_wp2_with fail
            go_ret2
            exact meetP_none HM.out (HI.out.2.2.1.trans HG5.out)
          | true =>
            have HO5 := Lib.hid (Out.quiet HO.out HG5.out (fun x e => by cases e))
            have hlo : ∀ x, (Value.slice ga i gc).ownBlock = some x → x < wr.heap.size ∨ w5.heap.size ≤ x := fun x hx => .inl (HO.out.own.lt x hx).2
            have HLO := Lib.hid (And.intro hlo HI.out.2.2.1.size); clear hlo
            have HOW : Hid (w5.ownsRow w.heap.size 74 4 (.slice ga i gc) i (D.flatMap bdCells)) := Lib.hid (by have := HO5.out.own; rw [HI.out.2.2.2.1] at this; exact this)
            go_wp2_with (at_builtin; refine wpList_append_own_at _ rfl _ _ 57 rfl w.heap.size 74 i0 (.agg #[.int .i64 0, .slice none 0 0, .int .i64 0, .slice none 0 0]) 4 64 Try.underlying57 hi0 hz0 hz1 hz2 rfl (by decide) _ _ _ rfl (HOW.out.alloc _) ⟨w5.heap.size, 0, none⟩ 1 1 [.int .i64 k1, .slice ua un uc, .int .i64 k2, .slice ia vn ic] rfl rfl (cell_four_new _ _ _ _ _ _) (fun u hu => by simp at hu; rcases hu with rfl | rfl | rfl | rfl <;> rfl) (by unfold maxLen; omega) (by omega) (by have := HLO.out.2; have := HG5.out.size; simp only [World.size_alloc]; omega) ?_; intro v' w6 hown' hgrow6 hnil6 hat6; obtain ⟨g', cap', rfl⟩ := own_shape hown')
            go_roundg (n - (i + 1))
            case measure => rw [HI.out.1]; omega
            case rel =>
              refine ⟨i + 1, D ++ [(((k1, U), (k2, V)), (ua, uc), (ia, ic))], rfl, rfl, by omega, by rw [List.map_append, HI.out.2.1, zip_take HX.out.1 HX.out.2.1, HMX.out.1]; rfl, ?_, ?_, ?_⟩
              · refine Out.push HO5.out (d := (((k1, U), (k2, V)), (ua, uc), (ia, ic))) HS5.out HLO.out.2 HLO.out.1 (by rw [HI.out.2.2.2.1]; simpa [bdCells, HUV.out.1, HUV.out.2] using hown') hgrow6 hat6
              · exact grown_own ((HI.out.2.2.1.trans HG5.out).trans (World.grownBy_alloc _ _ none)) hgrow6 (fun k hk => (HOW.out.lt k hk).1)
              · intro j x' y' hj hx' hy'
                by_cases hji : j < i
                · exact HI.out.2.2.2.2 j x' y' hji hx' hy'
                · have : j = i := by omega
                  subst this
                  rw [HX.out.1] at hx'
                  rw [HX.out.2.1] at hy'
                  cases hx'
                  cases hy'
                  rw [HMX.out.2, HOK.out]
      · rw [if_pos (by rfl)]
        go_simp
        have hga := World.grownBy.trans (World.grownBy_alloc wr (.cells #[.int .i64 0, .slice none 0 0, .int .i64 0, .slice none 0 0] 74) none) (⟨rfl, rfl, rfl, Nat.le_refl _, fun _ _ _ => rfl⟩ : (World.alloc wr (.cells #[.int .i64 0, .slice none 0 0, .int .i64 0, .slice none 0 0] 74)).grownBy (World.alloc wr (.cells #[.int .i64 0, .slice none 0 0, .int .i64 0, .slice none 0 0] 74)).drew none)
        have hkc := (Zero4.new (lo := wr.heap.size) wr (Nat.le_refl _)).grown (⟨rfl, rfl, rfl, Nat.le_refl _, fun _ _ _ => rfl⟩ : (World.alloc wr (.cells #[.int .i64 0, .slice none 0 0, .int .i64 0, .slice none 0 0] 74)).grownBy (World.alloc wr (.cells #[.int .i64 0, .slice none 0 0, .int .i64 0, .slice none 0 0] 74)).drew none)
        obtain ⟨WA, hWA⟩ : ∃ WA, (World.alloc wr (.cells #[.int .i64 0, .slice none 0 0, .int .i64 0, .slice none 0 0] 74)).drew = WA := ⟨_, rfl⟩
        rw [hWA] at hga hkc ⊢
        try (rw [hWA] at hsU)
        try (rw [hWA] at hsI)
        clear hWA
        have hzA := hkc.lt
        have hzG := World.grownBy.size hga
        refine hK.out _ _ (HS.out _ hga) (fun hHeld => ?_)
        clear hK K
        try simp only [Act.put, List.setIfInBounds_toArray, List.set_cons_zero, List.set_cons_succ]
        refine wpAnyH_ready (rs := [10]) (by kernel_rfl) (by simp) ?_
        refine (AllReadyH.cons (o := { dst := some 30, op := Op.call { callee := Callee.value (Operand.func 37), args := #[Operand.tmp 24, Operand.tmp 29], argTypes := #[53, 53] }, type := 53, pos := "bounds.go:98", after := #[{ on := 4, ground := Ground.data }, { on := 9, ground := Ground.data }], guard := none }) rfl (fun K hK => ?_) AllReadyH.nil)
        rw [if_pos (by rfl)]
        go_simp
        go_at_call 37
        refine (HUN.out _ (hga)).mono ?_
        rintro e wc2 ⟨ua, uc, rfl, hsU, gc2⟩
        have hgr2 := World.grownBy.trans hga gc2
        have hzU := World.grownBy.size gc2
        try (replace hkc := hkc.grown gc2)
        go_wp2_with fail
        refine hK.out _ _ (HS.out _ hgr2) (fun hHeld => ?_)
        clear hK K
        try simp only [Act.put, List.setIfInBounds_toArray, List.set_cons_zero, List.set_cons_succ]
        refine wpAnyH_ready (rs := [21]) (by kernel_rfl) (by simp) ?_
        refine (AllReadyH.cons (o := { dst := some 41, op := Op.call { callee := Callee.value (Operand.func 103), args := #[Operand.tmp 35, Operand.tmp 40], argTypes := #[53, 53] }, type := 53, pos := "bounds.go:98", after := #[{ on := 15, ground := Ground.data }, { on := 20, ground := Ground.data }, { on := 10, ground := Ground.chain }], guard := none }) rfl (fun K hK => ?_) AllReadyH.nil)
        rw [if_pos (by rfl)]
        go_simp
        go_at_call 103
        refine (HIN.out _ (hgr2)).mono ?_
        rintro e wc3 ⟨ia, ic, rfl, hsI, gc3⟩
        have hgr3 := World.grownBy.trans hgr2 gc3
        have hzI := World.grownBy.size gc3
        replace hsU := hsU.grown gc3
        try (replace hkc := hkc.grown gc3)
        go_wp2_with fail
        refine hK.out _ _ (HS.out _ hgr3) (fun hHeld => ?_)
        clear hK K
        try simp only [Act.put, List.setIfInBounds_toArray, List.set_cons_zero, List.set_cons_succ]
        refine wpAnyH_take (i := 22) (oi := { dst := some 42, op := Op.build 74 #[(0, Operand.tmp 30), (1, Operand.tmp 41)], type := 74, pos := "bounds.go:98", after := #[{ on := 10, ground := Ground.data }, { on := 21, ground := Ground.data }], guard := none }) (v := ?_) rfl (by kernel_rfl) (by kernel_rfl) (by kernel_rfl) (fun _ _ _ h => h) (Or.inl ⟨by rfl, ?_⟩) (by assumption) ?_
        rotate_left 1
        · (intro W hSW; (try dsimp only at hSW); first | (go_simp; done) | (go_simp; with_reducible rfl))
        try simp only [Act.put, List.setIfInBounds_toArray, List.set_cons_zero, List.set_cons_succ]
        refine wpAnyH_ready (rs := [24]) (by kernel_rfl) (by simp) ?_
        refine (AllReadyH.cons (o := { dst := none, op := Op.store 74 (Operand.tmp 9) (Operand.tmp 42), type := 0, pos := "bounds.go:98", after := #[{ on := 23, ground := Ground.data }, { on := 22, ground := Ground.data }, { on := 21, ground := Ground.chain }, { on := 0, ground := Ground.phase }, { on := 1, ground := Ground.phase }, { on := 2, ground := Ground.phase }, { on := 3, ground := Ground.phase }, { on := 4, ground := Ground.phase }, { on := 5, ground := Ground.phase }, { on := 6, ground := Ground.phase }, { on := 7, ground := Ground.phase }, { on := 8, ground := Ground.phase }, { on := 9, ground := Ground.phase }, { on := 10, ground := Ground.phase }, { on := 11, ground := Ground.phase }, { on := 12, ground := Ground.phase }, { on := 13, ground := Ground.phase }, { on := 14, ground := Ground.phase }, { on := 15, ground := Ground.phase }, { on := 16, ground := Ground.phase }, { on := 17, ground := Ground.phase }, { on := 18, ground := Ground.phase }, { on := 19, ground := Ground.phase }, { on := 20, ground := Ground.phase }, { on := 21, ground := Ground.phase }, { on := 22, ground := Ground.phase }, { on := 23, ground := Ground.phase }], guard := none }) rfl (fun K hK => ?_) AllReadyH.nil)
        rw [if_pos (by rfl)]
        have q0 := hkc.c0
        have q1 := hkc.c1
        have q2 := hkc.c2
        have q3 := hkc.c3
        have q4 := hkc.f0
        have q5 := hkc.f1
        have q6 := hkc.f2
        have q7 := hkc.f3
        go_simp
        clear q4 q5 q6 q7
        have hfs := four_set (.int .i64 k1) (.slice ua un uc) (.int .i64 k2) (.slice ia vn ic) q0 q1 q2 q3
        clear q0 q1 q2 q3
        have hgs := grown_own hgr3 hfs.2.2.2.2 (fun k hk => by cases hk; exact hkc.ge)
        refine hK.out _ _ (HS.out _ hgs) (fun hHeld => ?_)
        clear hK K
        try simp only [Act.put, List.setIfInBounds_toArray, List.set_cons_zero, List.set_cons_succ]
        refine wpAnyH_done (by kernel_rfl) ?_ _
        have hEND := hgs
        clear hHeld
        have hdz : wr.drew.heap.size = wr.heap.size := rfl
        have hU2 := hsU.off hfs.2.2.2.2 (fun z e => by cases e; first | exact .inl (by omega) | exact .inr (by omega))
        have hI2 := hsI.off hfs.2.2.2.2 (fun z e => by cases e; first | exact .inl (by omega) | exact .inr (by omega))
        have hU3 := hU2.wide (lo' := wr.heap.size) (by first | exact Nat.le_refl _ | omega) hU2.1 (Nat.le_refl _)
        have hI3 := hI2.wide (lo' := wr.heap.size) (by first | exact Nat.le_refl _ | omega) hI2.1 (Nat.le_refl _)
        have hb3 := span_both hU3 hI3
        obtain ⟨p0, p1, p2, p3, _⟩ := hfs
        obtain ⟨gB, hgB⟩ : ∃ gB, wr.heap.size = gB := ⟨_, rfl⟩
        obtain ⟨X, hX⟩ : ∃ X, (World.setCell (World.setCell (World.setCell (World.setCell wc3 ⟨wr.heap.size, 0, none⟩ (.int .i64 k1)) ⟨wr.heap.size, 1, none⟩ (.slice ua un uc)) ⟨wr.heap.size, 2, none⟩ (.int .i64 k2)) ⟨wr.heap.size, 3, none⟩ (.slice ia vn ic)) = X := ⟨_, rfl⟩
        rw [hX] at p0 p1 p2 p3 hb3 hEND ⊢
        rw [hgB] at p0 p1 p2 p3 ⊢
        clear hdz hX hU2 hI2 hU3 hI3 hsU hsI hgs hga hkc hzA hzG hzU hzI
        clear hgB
        have HE := Lib.hid (And.intro hEND hb3)
        have hIC := HIC.out X ua ia uc ic hb3.here.1 hb3.here.2
        clear hEND hb3
        have HIC2 := Lib.hid hIC
        clear hIC
        go_wp2_with fail
        refine HIC2.out.mono ?_
        rintro e w5 ⟨rfl, g5⟩
        have c0 := g5.cell p0 (by simp)
        have c1 := g5.cell p1 (by simp)
        have c2 := g5.cell p2 (by simp)
        have c3 := g5.cell p3 (by simp)
        have HG5 := Lib.hid (HE.out.1.trans g5)
        have HS5 := Lib.hid ((HE.out.2.grown g5).wide (Nat.le_refl _) g5.size (Nat.le_refl _))
        clear g5 p0 p1 p2 p3
        obtain ⟨Q, hQ⟩ : ∃ Q, inB U V = Q := ⟨_, rfl⟩
        rw [hQ]
        have HOK := Lib.hid hQ
        clear hQ
        cases Q with
        | false =>
          have HM : Hid (meetR A B = ([], 100)) := Lib.hid (by
            rw [meetR, HQ.out, if_pos rfl, if_neg]
            intro hq
            have h1 := (allB_iff.1 hq).2 i x y HX.out.1 HX.out.2.1
            rw [HMX.out.2, HOK.out] at h1
            cases h1)
          go_wp2_with fail
          go_ret2
          exact meetP_none HM.out (HI.out.2.2.1.trans HG5.out)
        | true =>
          have HO5 := Lib.hid (Out.quiet HO.out HG5.out (fun x e => by cases e))
          have hlo : ∀ x, (Value.slice ga i gc).ownBlock = some x → x < wr.heap.size ∨ w5.heap.size ≤ x := fun x hx => .inl (HO.out.own.lt x hx).2
          have HLO := Lib.hid (And.intro hlo HI.out.2.2.1.size); clear hlo
          have HOW : Hid (w5.ownsRow w.heap.size 74 4 (.slice ga i gc) i (D.flatMap bdCells)) := Lib.hid (by have := HO5.out.own; rw [HI.out.2.2.2.1] at this; exact this)
          go_wp2_with (at_builtin; refine wpList_append_own_at _ rfl _ _ 57 rfl w.heap.size 74 i0 (.agg #[.int .i64 0, .slice none 0 0, .int .i64 0, .slice none 0 0]) 4 64 Try.underlying57 hi0 hz0 hz1 hz2 rfl (by decide) _ _ _ rfl (HOW.out.alloc _) ⟨w5.heap.size, 0, none⟩ 1 1 [.int .i64 k1, .slice ua un uc, .int .i64 k2, .slice ia vn ic] rfl rfl (cell_four_new _ _ _ _ _ _) (fun u hu => by simp at hu; rcases hu with rfl | rfl | rfl | rfl <;> rfl) (by unfold maxLen; omega) (by omega) (by have := HLO.out.2; have := HG5.out.size; simp only [World.size_alloc]; omega) ?_; intro v' w6 hown' hgrow6 hnil6 hat6; obtain ⟨g', cap', rfl⟩ := own_shape hown')
          go_roundg (n - (i + 1))
          case measure => rw [HI.out.1]; omega
          case rel =>
            refine ⟨i + 1, D ++ [(((k1, U), (k2, V)), (ua, uc), (ia, ic))], rfl, rfl, by omega, by rw [List.map_append, HI.out.2.1, zip_take HX.out.1 HX.out.2.1, HMX.out.1]; rfl, ?_, ?_, ?_⟩
            · refine Out.push HO5.out (d := (((k1, U), (k2, V)), (ua, uc), (ia, ic))) HS5.out HLO.out.2 HLO.out.1 (by rw [HI.out.2.2.2.1]; simpa [bdCells, HUV.out.1, HUV.out.2] using hown') hgrow6 hat6
            · exact grown_own ((HI.out.2.2.1.trans HG5.out).trans (World.grownBy_alloc _ _ none)) hgrow6 (fun k hk => (HOW.out.lt k hk).1)
            · intro j x' y' hj hx' hy'
              by_cases hji : j < i
              · exact HI.out.2.2.2.2 j x' y' hji hx' hy'
              · have : j = i := by omega
                subst this
                rw [HX.out.1] at hx'
                rw [HX.out.2.1] at hy'
                cases hx'
                cases hy'
                rw [HMX.out.2, HOK.out]
    · have hie : i = n := by omega
      subst hie
      have hinB : decide (i < i) = false := by simp
      have HM : Hid (meetR A B = (D.map (·.1), 0)) := Lib.hid (by
        rw [meetR, HQ.out, if_pos rfl, if_pos (allB_iff.2 ⟨by rw [HN.out.1, HN.out.2, HLM.out], fun j x y hx hy => HI.out.2.2.2.2 j x y (by have := (List.getElem?_eq_some_iff.1 hx).1; rw [HN.out.1] at this; exact this) hx hy⟩), HI.out.2.1, List.take_of_length_le (by rw [List.length_zipWith, HN.out.1]; exact Nat.min_le_left _ _)])
      obtain ⟨a2, c2, hv, hsp⟩ := OutB.bds HO.out
      rw [List.length_map, hDl] at hv
      subst hv
      have HSP := Lib.hid hsp; clear hsp
      have HDL := Lib.hid hDl; clear hDl
      go_wp2_with fail
      go_ret2
      refine ⟨a2, c2, ?_, ?_, HI.out.2.2.1⟩
      · rw [HM.out, List.length_map, HDL.out]; rfl
      · rw [HM.out]; exact HSP.out
end Go.Proofs.Ytbddpjofhddilaa

/- Shorten's comparisons of two states. -/
import Derived.Test.YtbddpjofhddilaaRP
namespace Go.Proofs.Ytbddpjofhddilaa
open Go.RowKit

theorem held_next6' {wr W W' : World} {a0 a1 a2 a3 a4 a5 : Addr} {v0 v1 v2 v3 v4 v5 : Value} (g : W.grownBy W' none) (h : wr.grownBy W none) (h0 : W.cell? a0 = some v0) (h1 : W.cell? a1 = some v1) (h2 : W.cell? a2 = some v2) (h3 : W.cell? a3 = some v3) (h4 : W.cell? a4 = some v4) (h5 : W.cell? a5 = some v5) :
    wr.grownBy W' none ∧ W'.cell? a0 = some v0 ∧ W'.cell? a1 = some v1 ∧ W'.cell? a2 = some v2 ∧ W'.cell? a3 = some v3 ∧ W'.cell? a4 = some v4 ∧ W'.cell? a5 = some v5 :=
  held_next6 g h h0 h1 h2 h3 h4 h5

set_option maxRecDepth 100000 in
set_option maxHeartbeats 4000000 in
theorem short1_calls (sa : Option Addr) (n sc : Nat) (st : Int) (ta : Option Addr) (L : List (List Rl)) (tc : Nat) (lp : Int) (i j b : Nat) (l m : List Rl) (w : World) (hb : Box w b sa n sc st ta L.length tc lp) (h : Sts w ta tc L) (hl : L[i]? = some l) (hm : L[j]? = some m) (hr : Lens L) :
    Calls Try.prog 83 #[.int .i64 (i : Int), .int .i64 (j : Int), .pointer (some ⟨b, 0, none⟩)] w fun e w' => e = .returned (.bool (decide (l = m))) ∧ w.grownBy w' none := by
  have hi := (List.getElem?_eq_some_iff.1 hl).1
  have hj := (List.getElem?_eq_some_iff.1 hm).1
  obtain ⟨sb, so, rfl, la, lc, cs, hrels⟩ := h.2 i l hl
  obtain ⟨sb', so', hse, la', lc', cs', hrels'⟩ := h.2 j m hm
  injection hse with hse
  injection hse with hs1 hs2
  subst hs1 hs2
  have hrl := hr.2 l (List.mem_of_getElem? hl)
  have HST := Lib.hid (fun (W' : World) (hW' : w.grownBy W' none) => equalStates_calls l m la la' lc lc' W' (hrels.grown hW') (hrels'.grown hW') hrl)
  obtain ⟨k, hk⟩ : ∃ k, L.length = k := ⟨_, rfl⟩
  rw [hk] at hb hi hj
  obtain ⟨c0, c1, c2, c3⟩ := hb
  have hIk : (i : Int) < (k : Int) := by omega
  have hJk : (j : Int) < (k : Int) := by omega
  obtain ⟨p, hp⟩ : ∃ p, l.length = p := ⟨_, rfl⟩
  obtain ⟨p', hp'⟩ : ∃ p', m.length = p' := ⟨_, rfl⟩
  rw [hp] at cs
  rw [hp'] at cs'
  rw [hp, hp'] at HST
  obtain ⟨O, hO⟩ : ∃ O, decide (l = m) = O := ⟨_, rfl⟩
  rw [hO] at HST ⊢
  clear hrels hrels' hrl hr hl hm h hk hp hp' hO hi hj
  go_enter Try.func83, Try.ntmps83
  go_wp2_with fail
  go_region_held3 (fun w' => w.grownBy w' none ∧ w'.cell? ⟨b, 0, none⟩ = some (.slice sa n sc) ∧ w'.cell? ⟨b, 1, none⟩ = some (.int .i64 st) ∧ w'.cell? ⟨b, 2, none⟩ = some (.slice (some ⟨sb, so, none⟩) k tc) ∧ w'.cell? ⟨b, 3, none⟩ = some (.int .i64 lp) ∧ w'.cell? ⟨sb, so + i, none⟩ = some (.slice la p lc) ∧ w'.cell? ⟨sb, so + j, none⟩ = some (.slice la' p' lc'))
    (first | exact ⟨⟨rfl, rfl, rfl, Nat.le_refl _, fun _ _ _ => rfl⟩, c0, c1, c2, c3, cs, cs'⟩ | (go_split_ands; exact held_next6 g3 (by assumption) (by assumption) (by assumption) (by assumption) (by assumption) (by assumption) (by assumption)) | fail)
    (first | (go_at_call 77; with_reducible refine (HST.out _ ?_).mono ?_; (go_split_ands; assumption); rintro e w4 ⟨rfl, g3⟩) | fail)
  all_goals
    have h14 : w.grownBy w4 none := by go_split_ands; assumption
    have HS := Lib.hid h14
    clear h14
    go_wp2
    go_ret
    exact ⟨rfl, HS.out⟩

set_option maxRecDepth 100000 in
set_option maxHeartbeats 2000000 in
theorem short2_calls (sa : Option Addr) (n sc : Nat) (st : Int) (ta : Option Addr) (L : List (List Rl)) (tc lp i j b f : Nat) (l m : List Rl) (w : World) (hb : Box w b sa n sc st ta L.length tc (lp : Int)) (hf : w.cell? ⟨f, 0, none⟩ = some (.func (.func 83) #[] #[.pointer (some ⟨b, 0, none⟩)]))
    (h : Sts w ta tc L) (hl : L[lp + i]? = some l) (hm : L[lp + j]? = some m) (hr : Lens L) (hk : L.length ≤ 64) :
    Calls Try.prog 85 #[.int .i64 (i : Int), .int .i64 (j : Int), .pointer (some ⟨f, 0, none⟩), .pointer (some ⟨b, 0, none⟩)] w fun e w' => e = .returned (.bool (decide (l = m))) ∧ w.grownBy w' none := by
  have hi := (List.getElem?_eq_some_iff.1 hl).1
  have hj := (List.getElem?_eq_some_iff.1 hm).1
  have HC := Lib.hid (short1_calls sa n sc st ta L tc lp (lp + i) (lp + j) b l m w hb h hl hm hr)
  obtain ⟨O, hO⟩ : ∃ O, decide (l = m) = O := ⟨_, rfl⟩
  rw [hO] at HC ⊢
  obtain ⟨k, hk1⟩ : ∃ k, L.length = k := ⟨_, rfl⟩
  rw [hk1] at hb hk hi hj
  obtain ⟨c0, c1, c2, c3⟩ := hb
  obtain ⟨A, hA⟩ : ∃ A, (lp : Int) + (i : Int) = A := ⟨_, rfl⟩
  obtain ⟨B, hB⟩ : ∃ B, (lp : Int) + (j : Int) = B := ⟨_, rfl⟩
  rw [Int.natCast_add, Int.natCast_add, hA, hB] at HC
  have hA1 : 0 ≤ A ∧ A ≤ 64 := by omega
  have hB1 : 0 ≤ B ∧ B ≤ 64 := by omega
  obtain ⟨a0, a1⟩ := hA1
  obtain ⟨b0, b1⟩ := hB1
  clear h hl hm hr hk hO hk1 hi hj
  go_enter Try.func85, Try.ntmps85
  go_wp2_with fail
  refine HC.out.mono ?_
  rintro e w1 ⟨rfl, g1⟩
  have HG := Lib.hid g1; clear g1
  go_wp2_with fail
  go_ret
  exact ⟨rfl, HG.out⟩
end Go.Proofs.Ytbddpjofhddilaa

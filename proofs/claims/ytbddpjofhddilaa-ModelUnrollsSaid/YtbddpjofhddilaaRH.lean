/- Two traces are compared. -/
import Derived.Test.YtbddpjofhddilaaRG
namespace Go.Proofs.Ytbddpjofhddilaa
open Go.RowKit

/-- A model that lies in a box. -/
structure Box (w : World) (b : Nat) (sa : Option Addr) (n sc : Nat) (st : Int) (ta : Option Addr) (k tc : Nat) (lp : Int) : Prop where
  c0 : w.cell? ⟨b, 0, none⟩ = some (.slice sa n sc)
  c1 : w.cell? ⟨b, 1, none⟩ = some (.int .i64 st)
  c2 : w.cell? ⟨b, 2, none⟩ = some (.slice ta k tc)
  c3 : w.cell? ⟨b, 3, none⟩ = some (.int .i64 lp)
theorem Box.grown {w w' : World} {b : Nat} {sa : Option Addr} {n sc : Nat} {st : Int} {ta : Option Addr} {k tc : Nat} {lp : Int} (h : Box w b sa n sc st ta k tc lp) (g : w.grownBy w' none) : Box w' b sa n sc st ta k tc lp :=
  ⟨g.cell h.c0 (by simp), g.cell h.c1 (by simp), g.cell h.c2 (by simp), g.cell h.c3 (by simp)⟩

theorem held_next10 {wr W W' : World} {a0 a1 a2 a3 a4 a5 a6 a7 a8 a9 : Addr} {v0 v1 v2 v3 v4 v5 v6 v7 v8 v9 : Value} (g : W.grownBy W' none) (h : wr.grownBy W none) (h0 : W.cell? a0 = some v0) (h1 : W.cell? a1 = some v1) (h2 : W.cell? a2 = some v2) (h3 : W.cell? a3 = some v3) (h4 : W.cell? a4 = some v4) (h5 : W.cell? a5 = some v5) (h6 : W.cell? a6 = some v6) (h7 : W.cell? a7 = some v7) (h8 : W.cell? a8 = some v8) (h9 : W.cell? a9 = some v9) :
    wr.grownBy W' none ∧ W'.cell? a0 = some v0 ∧ W'.cell? a1 = some v1 ∧ W'.cell? a2 = some v2 ∧ W'.cell? a3 = some v3 ∧ W'.cell? a4 = some v4 ∧ W'.cell? a5 = some v5 ∧ W'.cell? a6 = some v6 ∧ W'.cell? a7 = some v7 ∧ W'.cell? a8 = some v8 ∧ W'.cell? a9 = some v9 :=
  ⟨h.trans g, g.cell h0 (by simp), g.cell h1 (by simp), g.cell h2 (by simp), g.cell h3 (by simp), g.cell h4 (by simp), g.cell h5 (by simp), g.cell h6 (by simp), g.cell h7 (by simp), g.cell h8 (by simp), g.cell h9 (by simp)⟩

set_option maxRecDepth 100000 in
set_option maxHeartbeats 4000000 in
theorem same1_calls (sa sa' : Option Addr) (n sc n' sc' : Nat) (st st' : Int) (ta ta' : Option Addr) (L L' : List (List Rl)) (tc tc' : Nat) (lp lp' t : Int) (b1 b2 : Nat) (w : World) (hb : Box w b1 sa n sc st ta L.length tc lp) (hb' : Box w b2 sa' n' sc' st' ta' L'.length tc' lp')
    (h : Sts w ta tc L) (h' : Sts w ta' tc' L') (hlo : loopedB L.length lp = true) (hlo' : loopedB L'.length lp' = true) (ht0 : 0 ≤ t) (ht1 : t ≤ 9223372036854775807) (hr : Lens L) :
    Calls Try.prog 82 #[.int .i64 t, .pointer (some ⟨b1, 0, none⟩), .pointer (some ⟨b2, 0, none⟩)] w fun e w' => e = .returned (.bool (decide (atL L lp t = atL L' lp' t))) ∧ w.grownBy w' none := by
  have hlo1 := loopedB_iff.1 hlo
  have hlo2 := loopedB_iff.1 hlo'
  obtain ⟨hi0, hi1⟩ := indexI_in hlo1.2.2.1 hlo1.2.2.2 ht0
  obtain ⟨hj0, hj1⟩ := indexI_in hlo2.2.2.1 hlo2.2.2.2 ht0
  obtain ⟨I, hI⟩ : ∃ I : Nat, indexI L.length lp t = (I : Int) := ⟨_, (Int.toNat_of_nonneg hi0).symm⟩
  obtain ⟨J, hJ⟩ : ∃ J : Nat, indexI L'.length lp' t = (J : Int) := ⟨_, (Int.toNat_of_nonneg hj0).symm⟩
  rw [hI] at hi0 hi1
  rw [hJ] at hj0 hj1
  obtain ⟨l, hl⟩ : ∃ l, L[I]? = some l := ⟨_, List.getElem?_eq_getElem (by omega)⟩
  obtain ⟨m, hm⟩ : ∃ m, L'[J]? = some m := ⟨_, List.getElem?_eq_getElem (by omega)⟩
  have hat : atL L lp t = l := by unfold atL; rw [hI, Int.toNat_natCast, List.getD_eq_getElem?_getD, hl]; rfl
  have hat' : atL L' lp' t = m := by unfold atL; rw [hJ, Int.toNat_natCast, List.getD_eq_getElem?_getD, hm]; rfl
  rw [hat, hat']
  obtain ⟨sb, so, rfl, la, lc, cs, hrels⟩ := h.2 I l hl
  obtain ⟨sb', so', rfl, la', lc', cs', hrels'⟩ := h'.2 J m hm
  have HIX := Lib.hid (fun (W' : World) => index_calls sa n sc st (some ⟨sb, so, none⟩) L.length tc lp t W' hlo1.2.1 hlo1.2.2.1 hlo1.2.2.2 ht0 ht1)
  have HIY := Lib.hid (fun (W' : World) => index_calls sa' n' sc' st' (some ⟨sb', so', none⟩) L'.length tc' lp' t W' hlo2.2.1 hlo2.2.2.1 hlo2.2.2.2 ht0 ht1)
  rw [hI] at HIX
  rw [hJ] at HIY
  have hrl := hr.2 l (List.mem_of_getElem? hl)
  have HST := Lib.hid (fun (W' : World) (hW' : w.grownBy W' none) => equalStates_calls l m la la' lc lc' W' (hrels.grown hW') (hrels'.grown hW') hrl)
  obtain ⟨k, hk⟩ : ∃ k, L.length = k := ⟨_, rfl⟩
  obtain ⟨k', hk'⟩ : ∃ k', L'.length = k' := ⟨_, rfl⟩
  rw [hk] at hi1 HIX hb
  rw [hk'] at hj1 HIY hb'
  obtain ⟨c0, c1, c2, c3⟩ := hb
  obtain ⟨d0, d1, d2, d3⟩ := hb'
  have hIk : (I : Int) < (k : Int) := hi1
  have hJk : (J : Int) < (k' : Int) := hj1
  obtain ⟨p, hp⟩ : ∃ p, l.length = p := ⟨_, rfl⟩
  obtain ⟨p', hp'⟩ : ∃ p', m.length = p' := ⟨_, rfl⟩
  rw [hp] at cs
  rw [hp'] at cs'
  rw [hp, hp'] at HST
  clear hrels hrels' hrl hr hl hm hat hat' hI hJ hlo hlo' hlo1 hlo2 h h' hk hk' hp hp' ht0 hi0 hj0
  go_enter Try.func82, Try.ntmps82
  go_wp2_with fail
  go_region_held3 (fun w' => w.grownBy w' none ∧ w'.cell? ⟨b1, 0, none⟩ = some (.slice sa n sc) ∧ w'.cell? ⟨b1, 1, none⟩ = some (.int .i64 st) ∧ w'.cell? ⟨b1, 2, none⟩ = some (.slice (some ⟨sb, so, none⟩) k tc) ∧ w'.cell? ⟨b1, 3, none⟩ = some (.int .i64 lp) ∧ w'.cell? ⟨b2, 0, none⟩ = some (.slice sa' n' sc') ∧ w'.cell? ⟨b2, 1, none⟩ = some (.int .i64 st') ∧ w'.cell? ⟨b2, 2, none⟩ = some (.slice (some ⟨sb', so', none⟩) k' tc') ∧ w'.cell? ⟨b2, 3, none⟩ = some (.int .i64 lp') ∧ w'.cell? ⟨sb, so + I, none⟩ = some (.slice la p lc) ∧ w'.cell? ⟨sb', so' + J, none⟩ = some (.slice la' p' lc'))
    (first | exact ⟨⟨rfl, rfl, rfl, Nat.le_refl _, fun _ _ _ => rfl⟩, c0, c1, c2, c3, d0, d1, d2, d3, cs, cs'⟩ | (go_split_ands; exact held_next10 g3 (by assumption) (by assumption) (by assumption) (by assumption) (by assumption) (by assumption) (by assumption) (by assumption) (by assumption) (by assumption) (by assumption)) | fail)
    (first | (go_at_call 80; with_reducible refine (HIX.out _).mono ?_; rintro e w3 ⟨rfl, g3⟩) | (go_at_call 80; with_reducible refine (HIY.out _).mono ?_; rintro e w3 ⟨rfl, g3⟩) | (go_at_call 77; with_reducible refine (HST.out _ ?_).mono ?_; (go_split_ands; assumption); rintro e w4 ⟨rfl, g3⟩) | fail)
  all_goals
    have h14 : w.grownBy w4 none := by go_split_ands; assumption
    have HS := Lib.hid h14
    clear h14
    go_wp2
    go_ret
    exact ⟨rfl, HS.out⟩

/-- The traces agree at all times before N. -/
def agreeTo (L L' : List (List Rl)) (lp lp' : Int) (N : Nat) : Bool := (List.range N).all fun t => decide (atL L lp (t : Int) = atL L' lp' (t : Int))
theorem agreeTo_iff {L L' : List (List Rl)} {lp lp' : Int} {N : Nat} : agreeTo L L' lp lp' N = true ↔ ∀ t : Nat, t < N → atL L lp (t : Int) = atL L' lp' (t : Int) := by
  simp [agreeTo, List.all_eq_true]
/-- So many times are compared. -/
def timesN (k k' : Nat) (lp lp' : Int) : Nat := (max lp lp' + ((k : Int) - lp) * ((k' : Int) - lp')).toNat
end Go.Proofs.Ytbddpjofhddilaa

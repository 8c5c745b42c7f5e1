/- The examples that each law begins with; the law's own helpers. -/
import Derived.Test.YtmcokfalkkjgmaaDoorG
namespace Go.Proofs.YtmcokfalkkjgmaaDoor
open Go.RowKit

/-- A row of the call's own, with at least one element, as a value and as cells. -/
theorem own_slice {w : World} {B n size : Nat} {e : TypeId} {v : Value} {xs : List Value} (h : w.ownsRow B e size v n xs) (hn : 0 < n) :
    ∃ g cap, v = .slice (some ⟨g, 0, none⟩) n cap ∧ B ≤ g ∧ g < w.heap.size ∧ n ≤ cap ∧ cap ≤ maxLen ∧ ∀ j u, xs[j]? = some u → w.cell? ⟨g, j, none⟩ = some u := by
  have hc := @World.ownsRow.cells w B e size v n xs h
  have hl := h.lt
  rcases h.2 with ⟨_, h0⟩ | ⟨g, cap, cur, rfl, hb, hg, hnc, hcm, _⟩
  · omega
  · refine ⟨g, cap, rfl, hb, (Array.getElem?_eq_some_iff.1 hg).1, hnc, hcm, ?_⟩
    intro j u hu
    have hadd : (⟨g, 0, none⟩ : Addr).add j = ⟨g, j, none⟩ := by unfold Addr.add; split <;> simp_all
    have := hc (g := g) rfl j u hu
    rw [hadd] at this; exact this

/-- The cells of a token slice. -/
structure TokRow (w : World) (s : ByteArray) (l : List Tok) (g cap : Nat) : Prop where
  lt : g < w.heap.size
  room : l.length ≤ cap
  capm : cap ≤ maxLen
  cells : ∀ j u, (toks s l)[j]? = some u → w.cell? ⟨g, j, none⟩ = some u
theorem TokRow.grown {w w' : World} {s : ByteArray} {l : List Tok} {g cap : Nat} (h : TokRow w s l g cap) (hg : w.grownBy w' none) : TokRow w' s l g cap :=
  ⟨Nat.lt_of_lt_of_le h.lt hg.size, h.room, h.capm, fun j u hu => hg.cell (h.cells j u hu) (by simp)⟩

theorem lex_ok_row {w w' : World} {s : ByteArray} {e : Ending} (h : LexPost w s e w') (hs : s.size ≤ 20000) (l : List Tok) (hl : lex s = .ok l) (n : Nat) (hn : l.length = n) (hne : 0 < n) :
    ∃ g cap, e = .returned (.tuple #[.slice (some ⟨g, 0, none⟩) n cap, .int .i64 0, .int .i64 0]) ∧ TokRow w' s l g cap ∧ w.grownBy w' none := by
  subst hn
  obtain ⟨hg, h | ⟨_, h | h⟩⟩ := h
  · omega
  · obtain ⟨j, h1, _⟩ := h; rw [hl] at h1; cases h1
  · obtain ⟨l', v, h1, rfl, hown⟩ := h
    rw [hl] at h1; cases h1
    obtain ⟨g, cap, rfl, _, h2, h3, h3', h4⟩ := own_slice hown hne
    exact ⟨g, cap, rfl, ⟨h2, h3, h3', h4⟩, hg⟩
theorem lex_err_row {w w' : World} {s : ByteArray} {e : Ending} (h : LexPost w s e w') (hs : s.size ≤ 20000) (j : Nat) (hl : lex s = .error j) :
    e = .returned (.tuple #[.slice none 0 0, .int .i64 10, .int .i64 (j : Nat)]) ∧ w.grownBy w' none := by
  obtain ⟨hg, h | ⟨_, h | h⟩⟩ := h
  · omega
  · obtain ⟨j', h1, rfl⟩ := h; rw [hl] at h1; cases h1; exact ⟨rfl, hg⟩
  · obtain ⟨l', v, h1, _, _⟩ := h; rw [hl] at h1; cases h1

def exA : ByteArray := ⟨#[97, 108, 108, 32, 120, 58, 32, 65, 124, 120, 32, 105, 110, 32, 102]⟩
def exB : ByteArray := ⟨#[97, 60, 61, 62, 98, 32, 47, 47, 32, 99]⟩
def exC : ByteArray := ⟨#[97, 43, 43, 43, 98]⟩
def exD : ByteArray := ⟨#[35, 101, 32, 60, 32, 48, 55]⟩
def exAl : List Tok := [⟨1, 0, 3⟩, ⟨1, 4, 5⟩, ⟨3, 5, 6⟩, ⟨1, 7, 8⟩, ⟨3, 8, 9⟩, ⟨1, 9, 10⟩, ⟨1, 11, 13⟩, ⟨1, 14, 15⟩]
def exBl : List Tok := [⟨1, 0, 1⟩, ⟨3, 1, 4⟩, ⟨1, 4, 5⟩]
def exCl : List Tok := [⟨1, 0, 1⟩, ⟨3, 1, 3⟩, ⟨3, 3, 4⟩, ⟨1, 4, 5⟩]
theorem lexA : lex exA = .ok exAl := by kernel_rfl
theorem lexB : lex exB = .ok exBl := by kernel_rfl
theorem lexC : lex exC = .ok exCl := by kernel_rfl
theorem lexD : lex exD = .error 5 := by kernel_rfl

theorem exA_cells {w : World} {g cap : Nat} (h : TokRow w exA exAl g cap) :
    w.cell? ⟨g, 0, none⟩ = some (.int .i64 1) ∧ w.cell? ⟨g, 1, none⟩ = some (.string ⟨#[97, 108, 108]⟩) ∧ w.cell? ⟨g, 2, none⟩ = some (.int .i64 0) ∧
    w.cell? ⟨g, 6, none⟩ = some (.int .i64 3) ∧ w.cell? ⟨g, 7, none⟩ = some (.string ⟨#[58]⟩) ∧ w.cell? ⟨g, 8, none⟩ = some (.int .i64 5) ∧
    w.cell? ⟨g, 13, none⟩ = some (.string ⟨#[124]⟩) ∧
    w.cell? ⟨g, 18, none⟩ = some (.int .i64 1) ∧ w.cell? ⟨g, 19, none⟩ = some (.string ⟨#[105, 110]⟩) ∧ w.cell? ⟨g, 20, none⟩ = some (.int .i64 11) :=
  ⟨h.cells 0 _ (by kernel_rfl), h.cells 1 _ (by kernel_rfl), h.cells 2 _ (by kernel_rfl), h.cells 6 _ (by kernel_rfl), h.cells 7 _ (by kernel_rfl), h.cells 8 _ (by kernel_rfl), h.cells 13 _ (by kernel_rfl), h.cells 18 _ (by kernel_rfl), h.cells 19 _ (by kernel_rfl), h.cells 20 _ (by kernel_rfl)⟩
theorem exB_cells {w : World} {g cap : Nat} (h : TokRow w exB exBl g cap) :
    w.cell? ⟨g, 3, none⟩ = some (.int .i64 3) ∧ w.cell? ⟨g, 4, none⟩ = some (.string ⟨#[60, 61, 62]⟩) ∧ w.cell? ⟨g, 5, none⟩ = some (.int .i64 1) :=
  ⟨h.cells 3 _ (by kernel_rfl), h.cells 4 _ (by kernel_rfl), h.cells 5 _ (by kernel_rfl)⟩
theorem exC_cells {w : World} {g cap : Nat} (h : TokRow w exC exCl g cap) :
    w.cell? ⟨g, 4, none⟩ = some (.string ⟨#[43, 43]⟩) ∧ w.cell? ⟨g, 7, none⟩ = some (.string ⟨#[43]⟩) :=
  ⟨h.cells 4 _ (by kernel_rfl), h.cells 7 _ (by kernel_rfl)⟩

set_option maxRecDepth 100000 in
set_option maxHeartbeats 1000000 in
theorem head_calls (w : World) (hy : SymsAt w) : Calls Tryd.prog 11 #[] w fun e w' => e = .returned (.bool true) ∧ w.grownBy w' none := by
  have c1 := lex_calls exA w (by decide) hy
  unfold exA at c1
  go_enter Tryd.func11, Tryd.ntmps11
  go_wp2_with fail
  refine c1.mono ?_
  rintro e w1 h1
  clear c1
  obtain ⟨ga, ca, rfl, ra, g1⟩ := lex_ok_row h1 (by decide) exAl lexA 8 rfl (by decide)
  have hy1 := hy.grown0 g1
  clear h1
  have c2 := lex_calls exB w1 (by decide) hy1
  unfold exB at c2
  have R1 := Lib.hid (And.intro hy1 (And.intro ra g1)); clear hy1 ra g1
  go_wp2_with fail
  refine c2.mono ?_
  rintro e w2 h2
  clear c2
  obtain ⟨hy1, ra, g1⟩ := R1.out
  obtain ⟨gb, cb, rfl, rb, g2⟩ := lex_ok_row h2 (by decide) exBl lexB 3 rfl (by decide)
  have hy2 := hy1.grown0 g2
  clear h2
  have c3 := lex_calls exC w2 (by decide) hy2
  unfold exC at c3
  have R2 := Lib.hid (And.intro hy2 (And.intro (ra.grown g2) (And.intro rb (g1.trans g2)))); clear hy1 hy2 ra rb g1 g2 R1
  go_wp2_with fail
  refine c3.mono ?_
  rintro e w3 h3
  clear c3
  obtain ⟨hy2, ra, rb, g2⟩ := R2.out
  obtain ⟨gc, cc, rfl, rc, g3⟩ := lex_ok_row h3 (by decide) exCl lexC 4 rfl (by decide)
  have hy3 := hy2.grown0 g3
  clear h3
  have c4 := lex_calls exD w3 (by decide) hy3
  unfold exD at c4
  have R3 := Lib.hid (And.intro hy3 (And.intro (ra.grown g3) (And.intro (rb.grown g3) (And.intro rc (g2.trans g3))))); clear hy2 hy3 ra rb rc g2 g3 R2
  go_wp2_with fail
  refine c4.mono ?_
  rintro e w4 h4
  clear c4
  obtain ⟨hy3, ra, rb, rc, g3⟩ := R3.out
  obtain ⟨rfl, g4⟩ := lex_err_row h4 (by decide) 5 lexD
  obtain ⟨a0, a1, a2, a6, a7, a8, a13, a18, a19, a20⟩ := exA_cells (ra.grown g4)
  obtain ⟨b3, b4, b5⟩ := exB_cells (rb.grown g4)
  obtain ⟨d4, d7⟩ := exC_cells (rc.grown g4)
  have R4 := Lib.hid (g3.trans g4)
  clear h4 ra rb rc g3 g4 hy3 R3 hy
  go_wp2_with fail
  go_ret
  exact ⟨rfl, R4.out⟩
end Go.Proofs.YtmcokfalkkjgmaaDoor

/- Common texts of the laws of stage 9, joined: TQ TR TS TU. -/
import Derived.Test.YtbddpjofhddilaaN07
import Derived.Test.YtbddpjofhddilaaN06
import Derived.Sort.LoopGhostIn
import Derived.TacticsInMore
import Derived.LoopNIn
import Derived.Test.YtbddpjofhddilaaN02
import Derived.Test.YtbddpjofhddilaaN04
import Derived.Laws.StructEq
/- What the iterator of free tuples gives. -/
namespace Go.Proofs.Ytbddpjofhddilaa
open Go.RowKit Go.Shelf
attribute [local go_sem] Oper.semAt_some

/-- The free tuples of one bound. -/
def freeX (i : Nat) (x : Bd) : List (Int × Int) := (diffL x.2.2 x.1.2).map fun r => ((i : Int), r)
/-- The free tuples of the first bounds. -/
def freeTo (B : List Bd) : Nat → List (Int × Int)
  | 0 => []
  | i + 1 => freeTo B i ++ (match B[i]? with | some x => freeX i x | none => [])
theorem freeTo_succ {B : List Bd} {i : Nat} {x : Bd} (h : B[i]? = some x) : freeTo B (i + 1) = freeTo B i ++ freeX i x := by rw [freeTo, h]
theorem freeTo_prefix {B : List Bd} {i j : Nat} (h : i ≤ j) : freeTo B i <+: freeTo B j := by
  induction j with
  | zero => have : i = 0 := by omega
            subst this; exact List.prefix_refl _
  | succ j ih =>
    by_cases hij : i = j + 1
    · subst hij; exact List.prefix_refl _
    · exact (ih (by omega)).trans (List.prefix_append _ _)
def pairV (p : Int × Int) : Array Value := #[.int .i64 p.1, .int .i64 p.2]
theorem map_take_prefix {α β : Type} {f : α → β} {l : List α} {j : Nat} {x : α} (h : l[j]? = some x) : (l.take j).map f ++ [f x] = (l.take (j + 1)).map f := by
  rw [List.take_add_one, h, Option.toList_some, List.map_append]; rfl
/-- What lies low stays. -/
def Low (B0 : Nat) (Safe : World → Nat → Prop) (w W : World) : Prop := ∀ b, b < B0 → W.heap[b]? = w.heap[b]? ∧ Safe W b
theorem Low.saved {B0 : Nat} {Safe : World → Nat → Prop} {w W W' : World} (h : Low B0 Safe w W) (hs : Saved Safe W W') : Low B0 Safe w W' := fun b hb => by
  obtain ⟨h1, h2⟩ := h b hb
  obtain ⟨h3, h4⟩ := hs b h2
  exact ⟨h3.trans h1, h4⟩
theorem Low.grown {α : Type} {B0 Bq : Nat} {J : List α → World → Prop} {Safe : World → Nat → Prop} {w W W' : World} {s : List α} (h : Low B0 Safe w W) (hJ : AbideG Bq J Safe) (hj : J s W) (hg : W.grownBy W' none) (hB : B0 ≤ W.heap.size) : Low B0 Safe w W' := fun b hb => by
  obtain ⟨h1, h2⟩ := h b hb
  exact ⟨(hg.block b (Nat.lt_of_lt_of_le hb hB) (by simp)).trans h1, hJ.safe s W W' b hj (.of_none hg) h2⟩
/-- What lies between two bounds stays. -/
def Mid (lo hi : Nat) (Safe : World → Nat → Prop) (w W : World) : Prop := ∀ b, lo ≤ b → b < hi → W.heap[b]? = w.heap[b]? ∧ Safe W b
theorem Mid.saved {lo hi : Nat} {Safe : World → Nat → Prop} {w W W' : World} (h : Mid lo hi Safe w W) (hs : Saved Safe W W') : Mid lo hi Safe w W' := fun b hl hb => by
  obtain ⟨h1, h2⟩ := h b hl hb
  obtain ⟨h3, h4⟩ := hs b h2
  exact ⟨h3.trans h1, h4⟩
theorem Low.size {B0 : Nat} {Safe : World → Nat → Prop} {w W : World} (h : Low B0 Safe w W) (hB : B0 ≤ w.heap.size) : B0 ≤ W.heap.size := by
  rcases Nat.eq_zero_or_pos B0 with h0 | h0
  · omega
  · have h1 := (h (B0 - 1) (by omega)).1
    rw [Array.getElem?_eq_getElem (show B0 - 1 < w.heap.size by omega)] at h1
    have := (Array.getElem?_eq_some_iff.1 h1).1
    omega

set_option maxRecDepth 100000 in
set_option maxHeartbeats 8000000 in
theorem free_gives (B : List Bd) (a : Option Addr) (c bb B0 : Nat) (w : World) (hsp : Span 0 B0 w (fun W => Bds W a c B)) (hb : w.cell? ⟨bb, 0, none⟩ = some (.slice a B.length c)) (hl : B.length ≤ 100000) (hx : ∀ x ∈ B, x.1.2.length ≤ 100000 ∧ x.2.2.length ≤ 100000) :
    GivesG pairV Fence.wide Try.prog 129 #[.pointer (some ⟨bb, 0, none⟩)] (fun b => b < B0) (freeTo B B.length) w := by
  intro n l J Safe hcap hJ hY h0
  obtain ⟨m, hm⟩ : ∃ m, B.length = m := ⟨_, rfl⟩
  rw [hm] at hl hb hY ⊢
  have HH := Lib.hid (And.intro hsp (And.intro hm (And.intro hx (And.intro hJ (And.intro hY hsp.1)))))
  have hlow : Low B0 Safe w w := fun b hb => ⟨rfl, hcap b hb⟩
  have HL := Lib.hid (And.intro hlow h0)
  clear hsp hm hx hJ hY h0 hcap hlow
  refine callsIn_of_wp Try.func129 rfl trivial ?_ rfl
  simp only [Try.ntmps129, List.size_toArray, List.length_cons, List.length_nil, Nat.reduceAdd, Nat.reduceSub, Array.replicate_succ, Array.replicate_zero, List.push_toArray, List.append_toArray, List.nil_append, List.cons_append]
  gi_wp2_with fail
  clear hb
  gi_loopg [9] m (fun g s9 wr => ∃ i : Nat, s9 = .int .i64 (i : Int) ∧ g = m - i ∧ i ≤ m ∧ J (freeTo B i) wr ∧ Low B0 Safe w wr ∧ w.heap.size ≤ w.heap.size)
  case atStart => exact ⟨0, rfl, rfl, Nat.zero_le _, HL.out.2, HL.out.1, Nat.le_refl _⟩
  case round =>
    obtain ⟨i, rfl, hgi, hi, hj, hlow, _⟩ := hrel
    have HI := Lib.hid (And.intro hgi (And.intro hj hlow)); clear hgi hj hlow
    by_cases hin : i < m
    · have hinB : decide (i < m) = true := by simpa using hin
      have hinI : (i : Int) < (m : Int) := by omega
      obtain ⟨x, hx⟩ : ∃ x, B[i]? = some x := ⟨_, List.getElem?_eq_getElem (by rw [HH.out.2.1]; exact hin)⟩
      have hbds : Bds wr a c B := HH.out.1.2 wr (fun b _ hb => (HI.out.2.2 b hb).1)
      obtain ⟨b, o, rfl, hbx⟩ := hbds.2 i x hx
      obtain ⟨a1, k1, a2, k2, x0, x1, x2, x3, i1, i2⟩ := hbx.parts
      have hxl := HH.out.2.2.1 x (List.mem_of_getElem? hx)
      have hga := World.grownBy_alloc wr (.cells #[.int .i64 x.1.1, .slice a1 x.1.2.length k1, .int .i64 x.2.1, .slice a2 x.2.2.length k2] 74) none
      have HD := Lib.hid (And.intro (diff_calls x.2.1 x.1.1 x.2.2 x.1.2 a2 a1 k2 k1 _ (i2.grown hga) (i1.grown hga) hxl.2 hxl.1) (And.intro hga hx))
      have HF := Lib.hid (freeTo_succ hx)
      have HFX : Hid (freeX i x = (diffL x.2.2 x.1.2).map fun r => ((i : Int), r)) := Lib.hid rfl
      obtain ⟨n1, hn1⟩ : ∃ n, x.1.2.length = n := ⟨_, rfl⟩
      obtain ⟨n2, hn2⟩ : ∃ n, x.2.2.length = n := ⟨_, rfl⟩
      obtain ⟨R, hR⟩ : ∃ R, diffL x.2.2 x.1.2 = R := ⟨_, rfl⟩
      obtain ⟨q, hq⟩ : ∃ q, R.length = q := ⟨_, rfl⟩
      have hq1 : q ≤ 200000 := by rw [← hq, ← hR]; exact Nat.le_trans (merge_len (fun x y => x && !y) x.2.2 x.1.2) (by have := hxl.1; have := hxl.2; omega)
      rw [hR] at HFX
      rw [hR, hq, hn1, hn2] at HD
      rw [hn1] at x1
      rw [hn2] at x3
      have HQ := Lib.hid hq
      clear hbds hbx hx i1 i2 hxl hga hn1 hn2 hR hq
      gi_wp2_with fail
      refine ⟨trivial, fun h => (by cases h), (callsIn_wide.2 HD.out.1).mono ?_⟩
      rintro e w1 ⟨ra, rc, rfl, hs, g1⟩
      have hf := field53 x.2.1 ra q rc
      have HG := Lib.hid (HD.out.2.1.trans g1)
      have HS : Hid (∃ lo, wr.heap.size ≤ lo ∧ Span lo w1.heap.size w1 (fun W => IntsW W ra rc R)) := Lib.hid ⟨_, HD.out.2.1.size, hs⟩
      clear hs g1 x0 x1 x2 x3
      obtain ⟨lo, HLO⟩ : ∃ lo, Hid (wr.heap.size ≤ lo ∧ Span lo w1.heap.size w1 (fun W => IntsW W ra rc R)) := by
        obtain ⟨lo, h⟩ := HS.out
        exact ⟨lo, Lib.hid h⟩
      have hJ1 : J (freeTo B i) w1 := HH.out.2.2.2.1.keep _ _ _ HI.out.2.1 (.of_none HG.out)
      have hL1 : Low B0 Safe w w1 := HI.out.2.2.grown HH.out.2.2.2.1 HI.out.2.1 HG.out (HI.out.2.2.size HH.out.2.2.2.2.2)
      have hM1 : Mid lo w1.heap.size Safe w1 w1 := fun b h1 h2 => ⟨rfl, HH.out.2.2.2.1.fresh _ _ _ b HI.out.2.1 (.of_none HG.out) (Nat.le_trans HLO.out.1 h1) h2⟩
      have H1 := Lib.hid (And.intro hJ1 (And.intro hL1 hM1))
      clear hJ1 hL1 hM1
      gi_wp2_with fail
      gi_loopg [21] q (fun g s21 wq => ∃ j : Nat, s21 = .int .i64 (j : Int) ∧ g = q - j ∧ j ≤ q ∧ J (freeTo B i ++ (R.take j).map fun r => ((i : Int), r)) wq ∧ Low B0 Safe w wq ∧ Mid lo w1.heap.size Safe w1 wq)
      case atStart => exact ⟨0, rfl, rfl, Nat.zero_le _, by simpa using H1.out.1, H1.out.2.1, H1.out.2.2⟩
      case round =>
        obtain ⟨j, rfl, hgj, hjq, hj, hlow, hmid⟩ := hrel
        have HJ := Lib.hid (And.intro hgj (And.intro hj (And.intro hlow hmid))); clear hgj hj hlow hmid
        by_cases hjn : j < q
        · have hjB : decide (j < q) = true := by simpa using hjn
          have hjI : (j : Int) < (q : Int) := by omega
          obtain ⟨r, hr⟩ : ∃ r, R[j]? = some r := ⟨_, List.getElem?_eq_getElem (by rw [HQ.out]; exact hjn)⟩
          obtain ⟨rb, ro, rfl, hcell⟩ := (HLO.out.2.2 wr (fun b h1 h2 => (HJ.out.2.2.2 b h1 h2).1)).at hr
          obtain ⟨fn, tmps, assign, body, hy, hRI⟩ := HH.out.2.2.2.2.1 _ ((i : Int), r) wr HJ.out.2.1 (by
            rw [List.append_assoc, map_take_prefix hr]
            refine List.IsPrefix.trans ?_ (freeTo_prefix (show i + 1 ≤ m by omega))
            rw [HF.out, HFX.out]
            exact (List.prefix_append_right_inj _).2 ((List.take_prefix _ _).map _))
          simp only [pairV] at hy
          have HR := Lib.hid hr; clear hr
          have HRI := Lib.hid hRI; clear hRI
          gi_wp2_with fail
          refine ⟨fun h => (by cases h), ?_⟩
          refine HRI.out.mono ?_
          rintro e W3 ⟨rfl, hJ3, hs3⟩
          have H3 := Lib.hid (And.intro hJ3 (And.intro (HJ.out.2.2.1.saved hs3) (HJ.out.2.2.2.saved hs3)))
          clear hJ3 hs3 hcell hy
          gi_wp2_with fail
          gi_roundg (q - (j + 1))
          case measure => rw [HJ.out.1]; omega
          case rel => exact ⟨j + 1, rfl, rfl, by omega, by have := H3.out.1; rw [List.append_assoc, map_take_prefix HR.out] at this; exact this, H3.out.2.1, H3.out.2.2⟩
        · have hje : j = q := by omega
          subst hje
          have hjB : decide (j < j) = false := by simp
          have HJJ : Hid (J (freeTo B (i + 1)) wr) := Lib.hid (by
            have := HJ.out.2.1
            rw [List.take_of_length_le (by rw [HQ.out]; exact Nat.le_refl _)] at this
            rw [HF.out, HFX.out]; exact this)
          gi_wp2_with fail
          gi_roundg (m - (i + 1))
          case measure => rw [HI.out.1]; omega
          case rel => exact ⟨i + 1, rfl, rfl, by omega, HJJ.out, HJ.out.2.2.1, Nat.le_refl _⟩
    · have hie : i = m := by omega
      subst hie
      have hinB : decide (i < i) = false := by simp
      gi_wp2_with fail
      go_end0
      exact ⟨⟨_, rfl⟩, HI.out.2.1⟩
end Go.Proofs.Ytbddpjofhddilaa
/- The free tuples. -/
namespace Go.Proofs.Ytbddpjofhddilaa
open Go.RowKit Go.Shelf
attribute [local go_sem] Oper.semAt_some

/-- A row of pairs that is read. -/
def Prs (w : World) (a : Option Addr) (c : Nat) (l : List (Int × Int)) : Prop :=
  l.length ≤ c ∧ ∀ (j : Nat) (p : Int × Int), l[j]? = some p → ∃ b o, a = some ⟨b, o, none⟩ ∧ w.cell? ⟨b, o + j * 2, none⟩ = some (.int .i64 p.1) ∧ w.cell? ⟨b, o + j * 2 + 1, none⟩ = some (.int .i64 p.2)
theorem Prs.grown {w w' : World} {a : Option Addr} {c : Nat} {l : List (Int × Int)} (h : Prs w a c l) (hg : w.grownBy w' none) : Prs w' a c l :=
  ⟨h.1, fun j x hj => by obtain ⟨b, o, ha, h0, h1⟩ := h.2 j x hj; exact ⟨b, o, ha, hg.cell h0 (by simp), hg.cell h1 (by simp)⟩⟩
def prCells (p : Int × Int) : List Value := [.int .i64 p.1, .int .i64 p.2]
theorem pairs_span {w : World} {B : Nat} {v : Value} {l : List (Int × Int)} (h : w.ownsRow B 79 2 v l.length (l.flatMap prCells)) : ∃ a c, v = .slice a l.length c ∧ Span B w.heap.size w (fun W => Prs W a c l) := by
  have hc := @World.ownsRow.cells w B 79 2 v l.length _ h
  rcases h.2 with ⟨hv, h0⟩ | ⟨g, cap, cur, rfl, hb, hg, hnc, hcm, _⟩
  · have hl : l = [] := List.eq_nil_of_length_eq_zero h0
    subst hl
    exact ⟨none, 0, hv, Nat.le_refl _, fun W _ => ⟨Nat.le_refl _, fun j p hj => by simp at hj⟩⟩
  · have hlt := (Array.getElem?_eq_some_iff.1 hg).1
    refine ⟨_, _, rfl, Nat.le_refl _, fun W hW => ⟨hnc, fun j p hj => ⟨g, 0, rfl, ?_, ?_⟩⟩⟩
    · have := hc (g := g) rfl (j * 2 + 0) (.int .i64 p.1) (by rw [flat_at (k := 2) (cs := prCells) (fun _ => rfl) l j p hj 0 (by omega)]; rfl)
      rw [add_at] at this
      rw [Nat.zero_add, World.cell?_of_block (hW g hb hlt)]; exact this
    · have := hc (g := g) rfl (j * 2 + 1) (.int .i64 p.2) (by rw [flat_at (k := 2) (cs := prCells) (fun _ => rfl) l j p hj 1 (by omega)]; rfl)
      rw [add_at] at this
      rw [Nat.zero_add, World.cell?_of_block (hW g hb hlt)]; exact this
/-- The row of pairs that is being made, in the box b. -/
structure FrB (w wr : World) (b : Nat) (s : List (Int × Int)) : Prop where
  row : ∃ v, wr.cell? ⟨b, 0, none⟩ = some v ∧ wr.ownsRow (b + 1) 79 2 v s.length (s.flatMap prCells)
  fr : wr.frozen? ⟨b, 0, none⟩ = false
  grown : w.grownBy wr none
  low : w.heap.size ≤ b ∧ b + 1 ≤ wr.heap.size
/-- The blocks that a round leaves alone. -/
def Lone (b : Nat) (W : World) (k : Nat) : Prop := k < W.heap.size ∧ k ≠ b ∧ ∃ v, W.cell? ⟨b, 0, none⟩ = some v ∧ v.ownBlock ≠ some k
theorem FrB.quiet {w A A' : World} {b C : Nat} {s : List (Int × Int)} (h : FrB w A b s) (hC : w.heap.size ≤ C) (hq : Quiet C A A') : FrB w A' b s := by
  obtain ⟨v, hv, hown⟩ := h.row
  have hs := hq.size
  have hv' := hq.cell hv
  obtain ⟨row, hg, hr⟩ := hq
  exact ⟨⟨v, hv', row_kept hown hg (fun r e => (hr r e).2)⟩, (frozen_kept (a := ⟨b, 0, none⟩) hv hg (fun r e => (hr r e).2)).trans h.fr, grown_own h.grown hg (fun r e => Nat.le_trans hC (hr r e).1), h.low.1, Nat.le_trans h.low.2 hs⟩
theorem FrB.abide {w : World} {b C : Nat} (hC : w.heap.size ≤ C) : AbideG C (fun s W => FrB w W b s) (Lone b) := by
  refine ⟨fun s A A' h hq => h.quiet hC hq, fun s A A' c h hq hs => ?_, fun s A A' c h hq h1 h2 => ?_⟩
  · obtain ⟨s1, s2, v, hv, hne⟩ := hs
    exact ⟨Nat.lt_of_lt_of_le s1 hq.size, s2, v, hq.cell hv, hne⟩
  · obtain ⟨v, hv, hown⟩ := h.row
    refine ⟨h2, fun e => ?_, v, hq.cell hv, fun e => ?_⟩
    · have := h.low; omega
    · have := (hown.lt c e).2; omega
theorem FrB.start (w : World) : FrB w (w.alloc (.cells #[.slice none 0 0] 67)) w.heap.size [] :=
  ⟨⟨.slice none 0 0, by go_simp, World.ownsRow_nil _ _ _ _⟩, by go_simp, World.grownBy_alloc _ _ none, Nat.le_refl _, by simp⟩
theorem FrB.at_ {w wr w3 : World} {b : Nat} {s : List (Int × Int)} {v : Value} {o : Obj} (h : FrB w wr b s) (hv : wr.cell? ⟨b, 0, none⟩ = some v) (hown : wr.ownsRow (b + 1) 79 2 v s.length (s.flatMap prCells)) (hg : (wr.alloc o).grownBy w3 v.ownBlock) :
    w3.cell? ⟨b, 0, none⟩ = some v ∧ w3.frozen? ⟨b, 0, none⟩ = false := by
  have hne : some b ≠ v.ownBlock := fun e => by have := (hown.lt b e.symm).1; omega
  have ha := World.grownBy_alloc wr o none
  have hlt := World.block_lt_of_cell? wr ⟨b, 0, none⟩ hv
  have e1 := ha.block b hlt (by simp)
  have e2 := hg.block b (Nat.lt_of_lt_of_le hlt ha.size) hne
  exact ⟨hg.cell (ha.cell hv (by simp)) hne, (World.frozen?_of_block (a := ⟨b, 0, none⟩) (e2.trans e1)).trans h.fr⟩
theorem FrB.step {w wr w3 : World} {b : Nat} {s : List (Int × Int)} {x : Int × Int} {v v' : Value} {o : Obj} (h : FrB w wr b s) (hv : wr.cell? ⟨b, 0, none⟩ = some v) (hown : wr.ownsRow (b + 1) 79 2 v s.length (s.flatMap prCells))
    (hg : (wr.alloc o).grownBy w3 v.ownBlock) (hown' : w3.ownsRow (b + 1) 79 2 v' (s.length + 1) (s.flatMap prCells ++ prCells x)) (hat : v'.ownBlock = v.ownBlock ∨ v'.ownBlock = some (wr.alloc o).heap.size) :
    FrB w (w3.setCell ⟨b, 0, none⟩ v') b (s ++ [x]) ∧ Saved (Lone b) wr (w3.setCell ⟨b, 0, none⟩ v') := by
  have hlow := h.low
  have hne : ∀ j, j < b + 1 → some j ≠ v.ownBlock := fun j hj e => by have := (hown.lt j e.symm).1; omega
  have ha := World.grownBy_alloc wr o none
  have hblk : ∀ j, j < wr.heap.size → some j ≠ v.ownBlock → w3.heap[j]? = wr.heap[j]? := fun j hj e => (hg.block j (Nat.lt_of_lt_of_le hj ha.size) e).trans (ha.block j hj (by simp))
  have hv3 := (h.at_ hv hown hg).1
  have hf3 := (h.at_ hv hown hg).2
  have hset : (w3.setCell ⟨b, 0, none⟩ v').cell? ⟨b, 0, none⟩ = some v' := World.cell?_setCell_same' _ _ _ (by rw [hv3]; rfl)
  have hB : b + 1 ≤ w3.heap.size := by have h1 := ha.size; have h2 := hg.size; omega
  have hown2 : (w3.setCell ⟨b, 0, none⟩ v').ownsRow (b + 1) 79 2 v' (s.length + 1) (s.flatMap prCells ++ prCells x) := hown'.kept (grown_set _ _ _ _) (own_ne hown' (by omega))
  refine ⟨⟨⟨v', hset, ?_⟩, ?_, ?_, hlow.1, by simpa [World.setCell] using hB⟩, ?_⟩
  · rw [List.length_append, List.flatMap_append, List.flatMap_cons, List.flatMap_nil, List.append_nil]; exact hown2
  · rw [World.frozen?_setCell]; exact hf3
  · refine grown_own (grown_own (h.grown.trans ha) hg (fun j hj => ?_)) (grown_set _ _ _ _) (fun j hj => ?_)
    · have := (hown.lt j hj).1; omega
    · cases hj; omega
  · rintro j ⟨s1, s2, v0, hv0, hne0⟩
    rw [hv] at hv0
    injection hv0 with hv0
    subst hv0
    refine ⟨(Below.heap_setCell _ _ _ _ s2).trans (hblk j s1 (fun e => hne0 e.symm)), ?_, s2, v', hset, fun e => ?_⟩
    · have h1 := ha.size; have h2 := hg.size; simp [World.setCell]; omega
    · rcases hat with h1 | h1
      · exact hne0 (h1.symm.trans e)
      · rw [h1] at e; injection e with e; simp at e; omega
theorem info79 : (Try.prog.info? 79).map (fun i => (i.zero, i.size, i.bytes)) = some (some (.agg #[.int .i64 0, .int .i64 0]), 2, 16) := by kernel_rfl

set_option maxHeartbeats 1000000 in
theorem free1_calls (a : Option Addr) (n c : Nat) (w : World) : Calls Try.prog 109 #[.slice a n c] w fun e w' => e = .returned (.func (.func 129) #[] #[.pointer (some ⟨w.heap.size, 0, none⟩)]) ∧ w' = w.alloc (.cells #[.slice a n c] 57) := by
  go_enter Try.func109, Try.ntmps109
  go_wp2
  go_ret
  exact ⟨rfl, rfl⟩

/-- What Free answers. -/
def FreeP (B : List Bd) (w : World) (e : Ending) (w' : World) : Prop :=
  ∃ a c, e = .returned (.slice a (freeTo B B.length).length c) ∧ Span w.heap.size w'.heap.size w' (fun W => Prs W a c (freeTo B B.length)) ∧ w.grownBy w' none
set_option maxRecDepth 100000 in
set_option maxHeartbeats 8000000 in
theorem free_calls (B : List Bd) (a : Option Addr) (c : Nat) (w : World) (h : Bds w a c B) (hl : B.length ≤ 100) (hx : ∀ x ∈ B, x.1.2.length ≤ 10000 ∧ x.2.2.length ≤ 10000) (hfl : (freeTo B B.length).length ≤ 1000000) :
    Calls Try.prog 54 #[.slice a B.length c] w (FreeP B w) := by
  obtain ⟨n, hn⟩ : ∃ n, B.length = n := ⟨_, rfl⟩
  obtain ⟨i0, hi0, hz0, hz1, hz2⟩ := info_parts info79
  have HH := Lib.hid (And.intro h (And.intro hn (And.intro hx hfl)))
  rw [hn] at hl ⊢
  clear h hn hx hfl
  refine callsIn_wide (n := 3) |>.1 ?_
  refine callsIn_of_wp_marks Try.func54 rfl trivial ?_ rfl
  simp only [Try.ntmps54, List.size_toArray, List.length_cons, List.length_nil, Nat.reduceAdd, Nat.reduceSub, Array.replicate_succ, Array.replicate_zero, List.push_toArray, List.append_toArray, List.nil_append, List.cons_append]
  refine wpIn_wide.2 ?_
  have HF0 := Lib.hid (FrB.start w)
  obtain ⟨W0, hW0⟩ : ∃ W0, w.alloc (.cells #[.slice none 0 0] 67) = W0 := ⟨_, rfl⟩
  have hs0 : W0.heap.size = w.heap.size + 1 := by rw [← hW0]; simp
  rw [hW0] at HF0
  go_wp2_with fail
  clear hW0
  refine (free1_calls a n c W0).mono ?_
  rintro e w6 ⟨rfl, hw6⟩
  have g6 : W0.grownBy w6 none := by rw [hw6]; exact World.grownBy_alloc _ _ none
  have c6 : w6.cell? ⟨W0.heap.size, 0, none⟩ = some (.slice a n c) := by rw [hw6]; go_simp
  have z6 : w6.heap.size = W0.heap.size + 1 := by rw [hw6]; simp
  have HF6 := Lib.hid (HF0.out.quiet (C := w.heap.size) (Nat.le_refl _) (.of_none g6))
  have HS : Hid (Span 0 w.heap.size w6 (fun W => Bds W a c B)) := Lib.hid ⟨by omega, fun W hW => HH.out.1.agree (fun b hb => by
    rw [hW b (Nat.zero_le _) hb]
    exact (HF6.out.grown.block b hb (by simp)))⟩
  have HZ := Lib.hid (And.intro hs0 (And.intro z6 c6))
  have HG6 := Lib.hid g6
  clear g6 c6 hw6 z6
  rw [hs0]
  clear hs0
  go_wp2_with fail
  refine wpIn_wide.1 (rangeYesG (n := 3) (vals := pairV) (gf := 129) (lb := #[.pointer (some ⟨w.heap.size + 1, 0, none⟩)]) rfl rfl rfl trivial (enters_of Try.func129 (by kernel_rfl) rfl) (fun _ => rfl)
    (caps := fun b => b < w.heap.size) (xs := freeTo B B.length) (fun W g => free_gives B a c (w.heap.size + 1) w.heap.size W (HS.out.grown g) (by
      have := g.cell HZ.out.2.2 (by simp)
      rw [HZ.out.1] at this
      rw [HH.out.2.1]; exact this) (by rw [HH.out.2.1]; omega) (fun x hx => by have := HH.out.2.2.1 x hx; omega))
    (fun s W => FrB w W w.heap.size s) (Lone w.heap.size) (FrB.abide (by have := HF6.out.grown.size; omega)) ?hcap HF6.out ?round ?done)
  case hcap =>
    intro b hb
    obtain ⟨v, hv, hown⟩ := HF6.out.row
    exact ⟨by have := HF6.out.low; omega, by omega, v, hv, fun e => by have := (hown.lt b e).1; omega⟩
  case round =>
    intro l' pre x W hF hpre
    have HPL : Hid (pre.length ≤ 1000000) := Lib.hid (by
      have h1 := hpre.length_le
      have h2 := HH.out.2.2.2
      simp only [List.length_append, List.length_cons, List.length_nil] at h1
      omega)
    clear hF hpre
    simp only [pairV]
    gi_wp2
    refine ⟨trivial, fun W2 hF2 => ?_⟩
    obtain ⟨v, hv, hown⟩ := hF2.row
    obtain ⟨va, vc, rfl⟩ := own_shape hown
    have HO := Lib.hid hown; clear hown
    have HF2 := Lib.hid hF2; clear hF2
    have hpl := HPL.out
    have hB2 := HF2.out.low.2
    gi_wp2_with (gi_at_builtin; refine wpListIn_append_own_at _ rfl _ _ 67 rfl (w.heap.size + 1) 79 i0 (.agg #[.int .i64 0, .int .i64 0]) 2 16 Try.underlying67 hi0 hz0 hz1 hz2 rfl (by decide) _ _ _ rfl (HO.out.alloc _) ⟨W2.heap.size, 0, none⟩ 1 1 [.int .i64 x.1, .int .i64 x.2] rfl rfl (cell_two_new _ _ _ _) (fun u hu => by simp at hu; rcases hu with rfl | rfl <;> rfl) (by unfold maxLen; omega) (by omega) (by simp; omega) ?_; intro v' w3 hown' hgrow3 hnil3 hat3; obtain ⟨g', cap', rfl⟩ := own_shape hown'; obtain ⟨hs1, hs2⟩ := HF2.out.at_ hv HO.out hgrow3)
    exact HF2.out.step hv HO.out hgrow3 hown' hat3
  case done =>
    intro D W hD hF hsD hdef
    obtain ⟨v, hv, hown⟩ := hF.row
    obtain ⟨va, vc, rfl, hsp⟩ := pairs_span hown
    have hDn := hsD.2.1
    have hDb : w.heap.size ≤ D := by have := HF6.out.grown.size; omega
    have HF := Lib.hid (And.intro hF (And.intro hsp (And.intro hdef (And.intro hDn (And.intro hDb hown))))); clear hF hsp hdef hD hsD hDn hDb hown
    obtain ⟨q, hq⟩ : ∃ q, (freeTo B B.length).length = q := ⟨_, rfl⟩
    rw [hq] at hv
    have HQ := Lib.hid hq; clear hq
    go_wp2_with fail
    have hk3 := row_kept HF.out.2.2.2.2.2 (grownBy_putObj' _ D (.deferred none)) (fun r e => by cases e; exact ⟨_, HF.out.2.2.1, rfl⟩)
    obtain ⟨a', c', he, hsp⟩ := pairs_span hk3
    injection he with e1 e2 e3
    subst e1; subst e3
    refine ⟨by simp, .inl ⟨D, _, rfl, run_takeDeferred HF.out.2.2.1, _, results_tmp rfl _ _ _, ?_⟩⟩
    refine ⟨va, vc, by rw [HQ.out]; rfl, hsp.wide (by omega) (Nat.le_refl _) (Nat.le_refl _), ?_⟩
    exact grown_own HF.out.1.grown (grownBy_putObj' _ D _) (fun j hj => by cases hj; exact HF.out.2.2.2.2.1)
end Go.Proofs.Ytbddpjofhddilaa
/- Two rows of pairs are compared; the law's small specification; a set. -/
namespace Go.Proofs.Ytbddpjofhddilaa
open Go.RowKit

theorem und79 : Try.prog.underlying 79 = some (.array 2 3) := by kernel_rfl
theorem siz3 (w : World) : (sizeOf 3).run Try.prog w = .ok 1 w := by go_simp
set_option maxHeartbeats 4000000 in
theorem eqd79 (d : Nat) (x0 x1 y0 y1 : Int) (w : World) : (Op.equalIn (d + 1 + 1) 79 (.agg #[.int .i64 x0, .int .i64 x1]) (.agg #[.int .i64 y0, .int .i64 y1])).run Try.prog w = .ok (decide ((x0, x1) = (y0, y1))) w := by
  simp only [Op.equalIn, Sem.run_bind, run_underlying und79, Result.andThen_ok, siz3]
  by_cases h0 : x0 = y0 <;> by_cases h1 : x1 = y1
  all_goals simp [part, Std.Legacy.Range.forIn_eq_forIn_range', Std.Legacy.Range.size, List.range', go_sem, h0, h1]
theorem eq79 (x y : Int × Int) (w : World) : (Op.equalIn 10000 79 (.agg #[.int .i64 x.1, .int .i64 x.2]) (.agg #[.int .i64 y.1, .int .i64 y.2])).run Try.prog w = .ok (decide (x = y)) w := eqd79 9998 x.1 x.2 y.1 y.2 w
theorem guard79 (op : BinOp) (x y : Operand) (xs ys : Array Value) (w : World) : (eqGuard op 79 x y (.agg xs) (.agg ys)).run Try.prog w = .ok () w := run_eqGuard_agg w op 79 x y xs ys (by kernel_rfl)

set_option maxRecDepth 100000 in
set_option maxHeartbeats 1000000 in
theorem sameFree_calls (xs ys : List (Int × Int)) (a a' : Option Addr) (c c' : Nat) (w : World) (h : Prs w a c xs) (h' : Prs w a' c' ys) (hl : xs.length ≤ 1000000) :
    Calls Try.prog 53 #[.slice a xs.length c, .slice a' ys.length c'] w fun e w' => e = .returned (.bool (decide (xs = ys))) ∧ w.grownBy w' none := by
  obtain ⟨n, hn⟩ : ∃ n, xs.length = n := ⟨_, rfl⟩
  obtain ⟨m, hm⟩ : ∃ m, ys.length = m := ⟨_, rfl⟩
  rw [hn] at hl ⊢
  rw [hm]
  have HN := Lib.hid (And.intro hn hm)
  have HH := Lib.hid (And.intro h h'); clear h h'
  by_cases hnm : n = m
  · have hB : ((n : Int) != (m : Int)) = false := by simp; omega
    subst hnm
    clear hn hm
    go_enter Try.func53, Try.ntmps53
    go_wp2
    go_loopg [5] n (fun g s5 wr => ∃ i : Nat, s5 = .int .i64 (i : Int) ∧ g = n - i ∧ i ≤ n ∧ (∀ j, j < i → xs[j]? = ys[j]?) ∧ ∃ q, wr = w.drewN q)
    case atStart => exact ⟨0, rfl, rfl, Nat.zero_le _, fun j hj => absurd hj (Nat.not_lt_zero _), 0, rfl⟩
    case round =>
      obtain ⟨i, rfl, hgi, hi, hok, q, rfl⟩ := hrel
      have HGI := Lib.hid (And.intro hgi hok); clear hgi hok
      by_cases hin : i < n
      · have hinB : decide (i < n) = true := by simpa using hin
        have hinI : (i : Int) < (n : Int) := by omega
        obtain ⟨x, hx⟩ : ∃ x, xs[i]? = some x := ⟨_, List.getElem?_eq_getElem (by rw [HN.out.1]; exact hin)⟩
        obtain ⟨y, hy⟩ : ∃ y, ys[i]? = some y := ⟨_, List.getElem?_eq_getElem (by rw [HN.out.2]; exact hin)⟩
        obtain ⟨b, o, rfl, c0, c1⟩ := HH.out.1.2 i x hx
        obtain ⟨b', o', rfl, d0, d1⟩ := HH.out.2.2 i y hy
        have HX := Lib.hid (And.intro hx hy); clear hx hy
        by_cases hxy : x = y
        · have he : ∀ W : World, (Op.equalIn 10000 79 (.agg #[.int .i64 x.1, .int .i64 x.2]) (.agg #[.int .i64 y.1, .int .i64 y.2])).run Try.prog W = .ok true W := fun W => by rw [eq79, decide_eq_true hxy]
          have hgd := fun (op : BinOp) (u v : Operand) (W : World) => guard79 op u v #[.int .i64 x.1, .int .i64 x.2] #[.int .i64 y.1, .int .i64 y.2] W
          have HXY := Lib.hid hxy; clear hxy
          go_wp2
          go_quiet (fail)
          go_wp2
          go_roundg (n - (i + 1))
          case measure => rw [HGI.out.1]; omega
          case rel => exact ⟨i + 1, rfl, rfl, by omega, agree_step HGI.out.2 (by rw [HX.out.1, HX.out.2, HXY.out]), _, rfl⟩
        · have he : ∀ W : World, (Op.equalIn 10000 79 (.agg #[.int .i64 x.1, .int .i64 x.2]) (.agg #[.int .i64 y.1, .int .i64 y.2])).run Try.prog W = .ok false W := fun W => by rw [eq79, decide_eq_false hxy]
          have hgd := fun (op : BinOp) (u v : Operand) (W : World) => guard79 op u v #[.int .i64 x.1, .int .i64 x.2] #[.int .i64 y.1, .int .i64 y.2] W
          have HR : Hid (decide (xs = ys) = false) := Lib.hid (decide_eq_false (list_ne HX.out.1 HX.out.2 hxy))
          clear hxy
          go_wp2
          go_quiet (fail)
          go_wp2
          go_ret
          exact ⟨by rw [HR.out]; rfl, (grown_drewN _ _ _).trans (grown_drewN _ _ _)⟩
      · have hie : i = n := by omega
        subst hie
        have hinB : decide (i < i) = false := by simp
        have HR : Hid (decide (xs = ys) = true) := Lib.hid (decide_eq_true (list_eq HN.out.1 HN.out.2 HGI.out.2))
        go_wp2
        go_ret
        exact ⟨by rw [HR.out]; rfl, grown_drewN _ _ _⟩
  · have hB : ((n : Int) != (m : Int)) = true := by simp; omega
    have HR : Hid (decide (xs = ys) = false) := Lib.hid (decide_eq_false (by rintro rfl; omega))
    clear hn hm
    go_enter Try.func53, Try.ntmps53
    go_wp2
    go_ret
    exact ⟨by rw [HR.out]; rfl, grown_refl _ _⟩
end Go.Proofs.Ytbddpjofhddilaa
/- What Full hands back lies in new blocks: the program's and the reference's. -/
namespace Go.Proofs.Ytbddpjofhddilaa
open Go.RowKit Go.Shelf
attribute [local go_sem] Oper.semAt_some

def FullS (w : World) (zs : List Nat) (N : Nat) (ss : List Int) (e : Ending) (w' : World) : Prop :=
  ∃ ra rc, e = .returned (.agg #[.int .i64 (fullK N ss : Nat), .slice ra (fullL zs ss).length rc]) ∧ Span w.heap.size w'.heap.size w' (fun W => Ints W ra rc (fullL zs ss)) ∧ w.grownBy w' none
theorem fullS_zero {w W : World} {zs : List Nat} {N : Nat} {ss : List Int} (hN : zs.length = N) (hf : fits N ss = false) (hg : w.grownBy W none) : FullS w zs N ss (.returned (.agg #[.int .i64 0, .slice none 0 0])) W :=
  ⟨none, 0, by simp [fullK, fullL, hf, hN], ⟨Nat.le_refl _, fun W _ => by simp only [fullL, hN, hf]; exact ⟨Nat.le_refl _, .inl ⟨rfl, rfl, rfl⟩⟩⟩, hg⟩
set_option maxRecDepth 100000 in
set_option maxHeartbeats 4000000 in
theorem fullS_calls (zs : List Nat) (a : Option Addr) (c : Nat) (st : Int) (ss : List Int) (ta : Option Addr) (tc : Nat) (w : World) (h : Nums w a c zs) (hz : ∀ z ∈ zs, z ≤ 5) (hl : zs.length ≤ 4) (ht : Ints w ta tc ss) (htl : ss.length ≤ 1000) :
    Calls Try.prog 65 #[.agg #[.slice a zs.length c, .int .i64 st], .slice ta ss.length tc] w (FullS w zs zs.length ss) := by
  obtain ⟨N, hN⟩ : ∃ N, zs.length = N := ⟨_, rfl⟩
  obtain ⟨k, hk⟩ : ∃ k, ss.length = k := ⟨_, rfl⟩
  have HH := Lib.hid (And.intro h (And.intro hz (And.intro hl (And.intro ht (And.intro hN hk)))))
  rw [hN] at hl ⊢
  rw [hk] at htl ⊢
  clear h hz ht hN hk
  obtain ⟨i0, hi0, hz0, hz1, hz2⟩ := info_parts info3
  refine callsIn_wide (n := 3) |>.1 ?_
  refine callsIn_of_wp_marks Try.func65 rfl trivial ?_ rfl
  simp only [Try.ntmps65, List.size_toArray, List.length_cons, List.length_nil, Nat.reduceAdd, Nat.reduceSub, Array.replicate_succ, Array.replicate_zero, List.push_toArray, List.append_toArray, List.nil_append, List.cons_append]
  refine wpIn_wide.2 ?_
  by_cases hk0 : k = 0
  · have dk : ((k : Int) == 0) = true := by simpa using hk0
    go_wp2_with fail
    exact ⟨_, results28 _ _ (w.heap.size + 1) none 0 0 0 rfl (by go_simp) (by go_simp), fullS_zero HH.out.2.2.2.2.1 (by simp only [fits, HH.out.2.2.2.2.2, hk0]; simp) ((World.grownBy_alloc _ _ none).trans (World.grownBy_alloc _ _ none))⟩
  by_cases hk3 : 3 < k
  · have dk : ((k : Int) == 0) = false := by simpa using hk0
    have dk3 : decide (3 < (k : Int)) = true := by simp; omega
    go_wp2_with fail
    exact ⟨_, results28 _ _ (w.heap.size + 1) none 0 0 0 rfl (by go_simp) (by go_simp), fullS_zero HH.out.2.2.2.2.1 (by simp only [fits, HH.out.2.2.2.2.2, decide_eq_false_iff_not]; intro hq; omega) ((World.grownBy_alloc _ _ none).trans (World.grownBy_alloc _ _ none))⟩
  have dk : ((k : Int) == 0) = false := by simpa using hk0
  have dk3 : decide (3 < (k : Int)) = false := by simp; omega
  go_wp2_with fail
  obtain ⟨b, hb⟩ : ∃ b, w.heap.size = b := ⟨_, rfl⟩
  obtain ⟨W0, hW0⟩ : ∃ W0, (w.alloc (.cells #[.slice a N c, .int .i64 st] 30)).alloc (.cells #[.int .i64 0, .slice none 0 0] 53) = W0 := ⟨_, rfl⟩
  have hg0 : w.grownBy W0 none := by rw [← hW0]; exact (World.grownBy_alloc _ _ none).trans (World.grownBy_alloc _ _ none)
  have c0 : W0.cell? ⟨b, 0, none⟩ = some (.slice a N c) := by rw [← hW0, ← hb]; clear hW0 hb; go_simp
  have c1 : W0.cell? ⟨b, 1, none⟩ = some (.int .i64 st) := by rw [← hW0, ← hb]; clear hW0 hb; go_simp
  have e0 : W0.cell? ⟨b + 1, 0, none⟩ = some (.int .i64 0) := by rw [← hW0, ← hb]; clear hW0 hb; go_simp
  have e1 : W0.cell? ⟨b + 1, 1, none⟩ = some (.slice none 0 0) := by rw [← hW0, ← hb]; clear hW0 hb; go_simp
  have ef : W0.frozen? ⟨b + 1, 0, none⟩ = false := by rw [← hW0, ← hb]; clear hW0 hb; go_simp
  have ef1 : W0.frozen? ⟨b + 1, 1, none⟩ = false := by rw [← hW0, ← hb]; clear hW0 hb; go_simp
  have hs0 : W0.heap.size = b + 2 := by rw [← hW0, ← hb]; simp
  rw [hW0]
  have HW0 := Lib.hid (And.intro hg0 (And.intro hs0 hb))
  rw [hb]
  clear hW0 hg0 hs0 hb
  go_loopg [20] k (fun gk s20 wr => ∃ i : Nat, s20 = .int .i64 (i : Int) ∧ gk = k - i ∧ i ≤ k ∧ wr = W0 ∧ ∀ s ∈ ss.take i, 0 ≤ s ∧ s < (N : Int))
  case atStart => exact ⟨0, rfl, rfl, Nat.zero_le _, rfl, fun s hs => by simp at hs⟩
  case round =>
    obtain ⟨i, rfl, hgk, hik, rfl, hall⟩ := hrel
    have HGK := Lib.hid (And.intro hgk (And.intro hik hall)); clear hgk hall
    by_cases hi : i < k
    · have hiB : decide (i < k) = true := by simpa using hi
      have hiI : (i : Int) < (k : Int) := by omega
      obtain ⟨s, hs⟩ : ∃ s, ss[i]? = some s := ⟨_, List.getElem?_eq_getElem (by have := HH.out.2.2.2.2.2; omega)⟩
      obtain ⟨tb, to, rfl, hcell⟩ : ∃ b o, ta = some ⟨b, o, none⟩ ∧ wr.cell? ⟨b, o + i, none⟩ = some (.int .i64 s) := by
        obtain ⟨_, ⟨h, _⟩ | ⟨b, o, ha, _, hc⟩⟩ := HH.out.2.2.2.1.grown HW0.out.1
        · rw [h] at hs; simp at hs
        · exact ⟨b, o, ha, hc i s hs⟩
      have HS := Lib.hid hs; clear hs
      by_cases hs0 : s < 0
      · have ds : decide (s < 0) = true := by simpa using hs0
        go_wp2_with fail
        have hb0 : (wr.setCell ⟨b + 1, 0, none⟩ (.int .i64 0)).cell? ⟨b + 1, 1, none⟩ = some (.slice none 0 0) := by
          rw [World.cell?_setCell_other _ _ _ _ (by intro e; injection e with _ e1; omega)]; exact e1
        have hb1 : ((wr.setCell ⟨b + 1, 0, none⟩ (.int .i64 0)).setCell ⟨b + 1, 1, none⟩ (.slice none 0 0)).cell? ⟨b + 1, 0, none⟩ = some (.int .i64 0) := by
          rw [World.cell?_setCell_other _ _ _ _ (by intro e; injection e with _ e1; omega)]; exact World.cell?_setCell_same _ _ _ e0
        have hb2 : ((wr.setCell ⟨b + 1, 0, none⟩ (.int .i64 0)).setCell ⟨b + 1, 1, none⟩ (.slice none 0 0)).cell? ⟨b + 1, 1, none⟩ = some (.slice none 0 0) := World.cell?_setCell_same _ _ _ hb0
        exact ⟨_, results28 _ _ (b + 1) none 0 0 0 rfl hb1 hb2, fullS_zero HH.out.2.2.2.2.1 (fits_not (List.mem_of_getElem? HS.out) (by omega)) (grown_own (grown_own HW0.out.1 (grown_set _ _ _ _) (fun j hj => by cases hj; have := HW0.out.2.2; omega)) (grown_set _ _ _ _) (fun j hj => by cases hj; have := HW0.out.2.2; omega))⟩
      have ds : decide (s < 0) = false := by simpa using hs0
      by_cases hsN : (N : Int) ≤ s
      · have dN : decide ((N : Int) ≤ s) = true := by simpa using hsN
        go_wp2_with fail
        have hb0 : (wr.setCell ⟨b + 1, 0, none⟩ (.int .i64 0)).cell? ⟨b + 1, 1, none⟩ = some (.slice none 0 0) := by
          rw [World.cell?_setCell_other _ _ _ _ (by intro e; injection e with _ e1; omega)]; exact e1
        have hb1 : ((wr.setCell ⟨b + 1, 0, none⟩ (.int .i64 0)).setCell ⟨b + 1, 1, none⟩ (.slice none 0 0)).cell? ⟨b + 1, 0, none⟩ = some (.int .i64 0) := by
          rw [World.cell?_setCell_other _ _ _ _ (by intro e; injection e with _ e1; omega)]; exact World.cell?_setCell_same _ _ _ e0
        have hb2 : ((wr.setCell ⟨b + 1, 0, none⟩ (.int .i64 0)).setCell ⟨b + 1, 1, none⟩ (.slice none 0 0)).cell? ⟨b + 1, 1, none⟩ = some (.slice none 0 0) := World.cell?_setCell_same _ _ _ hb0
        exact ⟨_, results28 _ _ (b + 1) none 0 0 0 rfl hb1 hb2, fullS_zero HH.out.2.2.2.2.1 (fits_not (List.mem_of_getElem? HS.out) (by omega)) (grown_own (grown_own HW0.out.1 (grown_set _ _ _ _) (fun j hj => by cases hj; have := HW0.out.2.2; omega)) (grown_set _ _ _ _) (fun j hj => by cases hj; have := HW0.out.2.2; omega))⟩
      have dN : decide ((N : Int) ≤ s) = false := by simpa using hsN
      go_wp2_with fail
      go_roundg (k - (i + 1))
      case measure => rw [HGK.out.1]; omega
      case rel =>
        refine ⟨i + 1, rfl, rfl, by omega, rfl, fun y hy => ?_⟩
        rw [List.take_add_one, HS.out, Option.toList_some, List.mem_append] at hy
        rcases hy with hy | hy
        · exact HGK.out.2.2 y hy
        · simp at hy; subst hy; omega
    · have hie : i = k := by omega
      subst hie
      have hiB : decide (i < i) = false := by simp
      have hall : ∀ s ∈ ss, 0 ≤ s ∧ s < (N : Int) := by
        have h1 := HGK.out.2.2
        rw [List.take_of_length_le (by rw [HH.out.2.2.2.2.2]; exact Nat.le_refl _)] at h1
        exact h1
      have HF0 := Lib.hid (FuB.start w i (b + 1) wr HW0.out.1 (by have := HW0.out.2; omega) ⟨by rw [e0]; rfl, ef⟩ ⟨by rw [e1]; rfl, ef1⟩)
      have hfit : fits N ss = true := by simp only [fits, decide_eq_true_eq, HH.out.2.2.2.2.2]; exact ⟨hk0, by omega, hall⟩
      obtain ⟨qs, hqs⟩ : ∃ qs : List Nat, ss.map Int.toNat = qs := ⟨_, rfl⟩
      have HQ : Hid (qs.length = i ∧ (∀ s ∈ qs, s < zs.length) ∧ Nums wr ta tc qs ∧ fullK N ss = i ∧ fullL zs ss = ints (digs zs 0 qs)) := Lib.hid ⟨by rw [← hqs, List.length_map]; exact HH.out.2.2.2.2.2, fun s hs => by
          rw [← hqs] at hs
          obtain ⟨y, hy, rfl⟩ := List.mem_map.1 hs
          have := hall y hy
          have := HH.out.2.2.2.2.1
          omega, by rw [← hqs]; exact (HH.out.2.2.2.1.grown HW0.out.1).nums (fun z hz => (hall z hz).1), by simp only [fullK, hfit, if_true]; exact HH.out.2.2.2.2.2, by simp only [fullL, HH.out.2.2.2.2.1, hfit, if_true, hqs]⟩
      have ga := World.grownBy_alloc wr (.cells #[.int .i64 (i : Int), .slice none 0 0] 53) none
      have a0 := ga.cell c0 (by simp)
      have a1 := ga.cell c1 (by simp)
      have HCN := Lib.hid (And.intro (HQ.out.2.2.1.grown ga) (HH.out.1.grown (HW0.out.1.trans ga)))
      clear hall hfit hqs e0 e1 ef ef1 c0 c1 ga
      go_wp2_with fail
      refine (ranks_gets 0 a ta N c i tc st _).mono ?_
      rintro e w6 ⟨b6, rfl, g6, k0, k1, k2, k3, k4, k5⟩
      have hN := HH.out.2.2.2.2.1
      have hqi := HQ.out.1
      have HC6 : Hid (Cap w6 zs a c st 0 qs ta tc b6 (b6 + 1) (b6 + 2)) := Lib.hid ⟨by rw [hN]; exact k2, k3, k4, by rw [hqi]; exact k5, HCN.out.2.grown g6, HCN.out.1.grown g6⟩
      have HB6 := Lib.hid (And.intro k0 (And.intro k1 g6))
      have HF6 := Lib.hid (HF0.out.quiet (C := w.heap.size) (Nat.le_refl _) (.of_none g6))
      have hsz : wr.heap.size = b + 2 := HW0.out.2.1
      rw [hsz] at HF0 HF6
      have HB5 : Hid (b + 3 ≤ b6 ∧ b6 + 2 < w6.heap.size) := Lib.hid ⟨by have := HB6.out.1; rw [World.size_alloc, hsz] at this; omega, HB6.out.2.1⟩
      clear k0 k1 k2 k3 k4 k5 g6 a0 a1 hN hqi
      go_wp2_with fail
      clear hsz
      refine wpIn_wide.1 (rangeYes (n := 3) (gf := 130) (lb := #[.pointer (some ⟨b6 + 2, 0, none⟩), .pointer (some ⟨b6 + 1, 0, none⟩), .pointer (some ⟨b6, 0, none⟩)]) rfl rfl rfl trivial (enters_of Try.func130 (by kernel_rfl) rfl)
        (caps := capsOf a ta b6 (b6 + 1) (b6 + 2)) (xs := ints (digs zs 0 qs)) (fun W g => ranks_gives zs a c st HH.out.2.1 HH.out.2.2.1 qs (by have := HQ.out.1; omega) HQ.out.2.1 0 ta tc _ _ _ W (Nat.pow_pos (by omega)) (HC6.out.grown g))
        (fun s W => FuB w W (b + 2) (b + 1) (b + 3) i s) (Alone (b + 2)) (FuB.abide (Nat.le_trans HF0.out.grown.size HB6.out.2.2.size)) ?hcap HF6.out ?round ?done)
      case hcap =>
        intro b' hb'
        simp only [capsOf, List.mem_cons, List.mem_append, Option.mem_toList] at hb'
        have hfr : ∀ b', b + 3 ≤ b' → b' < w6.heap.size → Alone (b + 2) w6 b' := fun b' h1 h2 => (FuB.abide (C := w.heap.size) (Nat.le_refl _)).fresh _ _ _ b' HF0.out (.of_none HB6.out.2.2) (by have := HW0.out.2.1; rw [World.size_alloc, this]; omega) h2
        have hold : ∀ b', b' < b → Alone (b + 2) w6 b' := fun b' h1 => by
          obtain ⟨v, hv, hown⟩ := HF6.out.row
          refine ⟨by have := HB5.out; omega, by omega, v, hv, fun e => ?_⟩
          have := (hown.lt b' e).1
          omega
        have h1 := HB5.out
        have hwb := HW0.out.2.2
        rcases hb' with rfl | rfl | rfl | hb' | hb'
        · exact hfr _ h1.1 (by omega)
        · exact hfr _ (by omega) (by omega)
        · exact hfr _ (by omega) h1.2
        · refine hold b' ?_
          obtain ⟨_, ⟨_, h, _⟩ | ⟨b2, o2, ha, hb2, _⟩⟩ := HH.out.1
          · rw [h] at hb'; cases hb'
          · rw [ha] at hb'; simp at hb'; omega
        · refine hold b' ?_
          obtain ⟨_, ⟨_, h, _⟩ | ⟨b2, o2, ha, hb2, _⟩⟩ := HH.out.2.2.2.1
          · rw [h] at hb'; cases hb'
          · rw [ha] at hb'; simp at hb'; omega
      case round =>
        intro l' pre x W hF hpre
        have HPL : Hid (pre.length ≤ 125) := Lib.hid (by
          have h1 := hpre.length_le
          have h2 := digs_length HH.out.2.1 qs 0
          have h3 : 5 ^ qs.length ≤ 5 ^ 3 := Nat.pow_le_pow_right (by omega) (by have := HQ.out.1; omega)
          simp only [List.length_append, List.length_map, List.length_cons, List.length_nil] at h1
          omega)
        clear hF hpre
        gi_wp2
        refine ⟨trivial, fun W2 hF2 => ?_⟩
        obtain ⟨v, hv, hown⟩ := hF2.row
        obtain ⟨va, vc, rfl⟩ := own_shape hown
        have HO := Lib.hid hown; clear hown
        have HF2 := Lib.hid hF2; clear hF2
        have hpl := HPL.out
        have hB2 := HF2.out.low.2.2.2
        gi_wp2_with (gi_at_builtin; refine wpListIn_append_own_at _ rfl _ _ 28 rfl (b + 3) 3 i0 (.int .i64 0) 1 8 Try.underlying28 hi0 hz0 hz1 hz2 rfl (by decide) _ _ _ rfl (HO.out.alloc _) ⟨W2.heap.size, 0, none⟩ 1 1 [.int .i64 x] rfl rfl (cell_one_new _ _ _) (fun u hu => by simp at hu; subst hu; rfl) (by unfold maxLen; omega) (by omega) (by simp; omega) ?_; intro v' w3 hown' hgrow3 hnil3 hat3; obtain ⟨g', cap', rfl⟩ := own_shape hown'; obtain ⟨hs1, hs2⟩ := HF2.out.at_ hv HO.out hgrow3)
        exact HF2.out.step hv HO.out hgrow3 hown' hat3
      case done =>
        intro D W hD hF hsD hdef
        obtain ⟨v, hv, hown⟩ := hF.row
        obtain ⟨va, vc, rfl, hints⟩ := own_ints hown
        have c0 := hF.c0
        obtain ⟨u0, hu0⟩ := Option.isSome_iff_exists.1 hF.r0.1
        obtain ⟨u1, hu1⟩ := Option.isSome_iff_exists.1 hF.r1.1
        have f0 := hF.r0.2
        have f1 := hF.r1.2
        have HF := Lib.hid hF; clear hF
        have HI := Lib.hid (And.intro hown hints); clear hown hints
        have HD := Lib.hid (And.intro hD hdef); clear hD hdef hsD
        obtain ⟨n, hn⟩ : ∃ n, (ints (digs zs 0 qs)).length = n := ⟨_, rfl⟩
        rw [hn] at hv
        have HN := Lib.hid hn; clear hn
        go_wp2_with fail
        have hb0 : (W.setCell ⟨b + 1, 0, none⟩ (.int .i64 (i : Int))).cell? ⟨b + 1, 1, none⟩ = some u1 := by
          rw [World.cell?_setCell_other _ _ _ _ (by intro e; injection e with _ e1; omega)]; exact hu1
        have hb1 : ((W.setCell ⟨b + 1, 0, none⟩ (.int .i64 (i : Int))).setCell ⟨b + 1, 1, none⟩ (.slice va n vc)).cell? ⟨b + 1, 0, none⟩ = some (.int .i64 (i : Int)) := by
          rw [World.cell?_setCell_other _ _ _ _ (by intro e; injection e with _ e1; omega)]; exact World.cell?_setCell_same _ _ _ hu0
        have hb2 : ((W.setCell ⟨b + 1, 0, none⟩ (.int .i64 (i : Int))).setCell ⟨b + 1, 1, none⟩ (.slice va n vc)).cell? ⟨b + 1, 1, none⟩ = some (.slice va n vc) := World.cell?_setCell_same _ _ _ hb0
        have hDb : b + 1 ≠ D := by have := HD.out.1; have := HB5.out; omega
        have hdef2 : ((W.setCell ⟨b + 1, 0, none⟩ (.int .i64 (i : Int))).setCell ⟨b + 1, 1, none⟩ (.slice va n vc)).heap[D]? = some (.deferred (some [])) :=
          ((Below.heap_setCell _ _ _ _ (fun e => hDb e.symm)).trans (Below.heap_setCell _ _ _ _ (fun e => hDb e.symm))).trans HD.out.2
        have hk1 := HI.out.1.kept (grown_set W (b + 1) 0 (.int .i64 (i : Int))) (own_ne HI.out.1 (by omega))
        have hk2 := hk1.kept (grown_set _ (b + 1) 1 (.slice va n vc)) (own_ne hk1 (by omega))
        have hk3 := row_kept hk2 (grownBy_putObj' _ D (.deferred none)) (fun r e => by cases e; exact ⟨_, hdef2, rfl⟩)
        obtain ⟨a', c', he, hnm⟩ := ints_span hk3
        injection he with e1 e2 e3
        subst e1; subst e3
        refine ⟨by simp, .inl ⟨D, _, rfl, run_takeDeferred hdef2, _, results28 _ _ (b + 1) va n vc i rfl ((World.cell?_of_block (a := ⟨b + 1, 0, none⟩) (World.putObj_heap_other hDb)).trans hb1) ((World.cell?_of_block (a := ⟨b + 1, 1, none⟩) (World.putObj_heap_other hDb)).trans hb2), ?_⟩⟩
        have hq := HQ.out.2.2.2
        have hwb := HW0.out.2.2
        refine ⟨va, vc, by rw [hq.1, hq.2, HN.out], by rw [hq.2]; exact hnm.wide (by omega) (Nat.le_refl _) (Nat.le_refl _), ?_⟩
        exact grown_own (grown_own (grown_own HF.out.grown (grown_set _ _ _ _) (fun j hj => by cases hj; omega)) (grown_set _ _ _ _) (fun j hj => by cases hj; omega)) (grownBy_putObj' _ D _) (fun j hj => by cases hj; have := HD.out.1; have := HB5.out; omega)
set_option maxRecDepth 100000 in
set_option maxHeartbeats 4000000 in
theorem rFullS_calls (zs : List Nat) (a : Option Addr) (c : Nat) (st : Int) (ss : List Int) (ta : Option Addr) (tc : Nat) (w : World) (h : Nums w a c zs) (hz : ∀ z ∈ zs, z ≤ 5) (hl : zs.length ≤ 4) (ht : Ints w ta tc ss) (htl : ss.length ≤ 1000) :
    Calls Try.prog 95 #[.agg #[.slice a zs.length c, .int .i64 st], .slice ta ss.length tc] w (FullS w zs zs.length ss) := by
  obtain ⟨N, hN⟩ : ∃ N, zs.length = N := ⟨_, rfl⟩
  obtain ⟨k, hk⟩ : ∃ k, ss.length = k := ⟨_, rfl⟩
  have HH := Lib.hid (And.intro h (And.intro hz (And.intro hl (And.intro ht (And.intro hN hk)))))
  rw [hN] at hl ⊢
  rw [hk] at htl ⊢
  clear h hz ht hN hk
  obtain ⟨i0, hi0, hz0, hz1, hz2⟩ := info_parts info3
  have gw := World.grownBy_alloc w (.cells #[.slice a N c, .int .i64 st] 30) none
  have gz := gw.trans (World.grownBy_alloc (w.alloc (.cells #[.slice a N c, .int .i64 st] 30)) (.cells #[.int .i64 0, .slice none 0 0] 53) none)
  have HZ := Lib.hid gz; clear gw gz
  by_cases hkb : k = 0 ∨ 3 < k
  · have hcase : decide ((k : Int) < 1) = true ∨ (decide ((k : Int) < 1) = false ∧ decide (3 < (k : Int)) = true) := by
      by_cases h0 : k = 0
      · exact .inl (by simp; omega)
      · exact .inr ⟨by simp; omega, by simp; omega⟩
    have HF : Hid (fits N ss = false) := Lib.hid (by simp only [fits, HH.out.2.2.2.2.2, decide_eq_false_iff_not]; intro hq; omega)
    clear hkb
    rcases hcase with e1 | ⟨e1, e2⟩
    all_goals
      go_enter Try.func95, Try.ntmps95
      go_wp2_with fail
      refine bodyPost_ret (results29 _ _ (w.heap.size + 1) none 0 0 0 rfl (by go_simp) (by go_simp)) rfl ?_
      exact fullS_zero HH.out.2.2.2.2.1 HF.out HZ.out
  have hk1 : 1 ≤ k := by omega
  have hk3 : k ≤ 3 := by omega
  have e1 : decide ((k : Int) < 1) = false := by simp; omega
  have e2 : decide (3 < (k : Int)) = false := by simp; omega
  clear hkb
  go_enter Try.func95, Try.ntmps95
  go_wp2_with fail
  obtain ⟨b, hb⟩ : ∃ b, w.heap.size = b := ⟨_, rfl⟩
  have gr : ∀ W1 : World, w.alloc (.cells #[.slice a N c, .int .i64 st] 30) = W1 → w.grownBy W1 none ∧ W1.heap.size = b + 1 ∧ W1.cell? ⟨b, 0, none⟩ = some (.slice a N c) ∧ W1.cell? ⟨b, 1, none⟩ = some (.int .i64 st) := fun W1 hW => by
    rw [← hW, ← hb]
    exact ⟨World.grownBy_alloc _ _ none, by simp, by clear hW; go_simp, by clear hW; go_simp⟩
  obtain ⟨W1, hW1⟩ : ∃ W1, w.alloc (.cells #[.slice a N c, .int .i64 st] 30) = W1 := ⟨_, rfl⟩
  have gr := gr W1 hW1
  rw [hW1] at HZ ⊢
  rw [hb]
  have HWB := Lib.hid hb
  clear hb hW1
  have gs : ∀ W0 : World, W1.alloc (.cells #[.int .i64 0, .slice none 0 0] 53) = W0 → W1.grownBy W0 none ∧ W0.heap.size = b + 2 ∧ W0.cell? ⟨b + 1, 0, none⟩ = some (.int .i64 0) ∧ W0.cell? ⟨b + 1, 1, none⟩ = some (.slice none 0 0) ∧ W0.frozen? ⟨b + 1, 0, none⟩ = false ∧ W0.frozen? ⟨b + 1, 1, none⟩ = false := fun W0 hW => by
    rw [← hW, ← gr.2.1]
    exact ⟨World.grownBy_alloc _ _ none, by rw [World.size_alloc]; have := gr.2.1; omega, by clear hW; go_simp, by clear hW; go_simp, by clear hW; go_simp, by clear hW; go_simp⟩
  obtain ⟨W0, hW0⟩ : ∃ W0, W1.alloc (.cells #[.int .i64 0, .slice none 0 0] 53) = W0 := ⟨_, rfl⟩
  obtain ⟨hg0, hs0, r0, r1, f0, f1⟩ := gs W0 hW0
  rw [hW0] at HZ ⊢
  clear hW0 gs
  obtain ⟨hg1, hs1, b0, b1⟩ := gr
  have c0 := hg0.cell b0 (by simp)
  have c1 := hg0.cell b1 (by simp)
  have HW := Lib.hid (And.intro hg1 (And.intro hs1 (And.intro hg0 (And.intro hs0 (And.intro b0 b1)))))
  clear hg1 hs1 hg0 hs0 b0 b1
  go_loopg [6] k (fun gk s6 wr => ∃ i : Nat, s6 = .int .i64 (i : Int) ∧ gk = k - i ∧ i ≤ k ∧ (∃ q, wr = W0.drewN q) ∧ ∀ s ∈ ss.take i, 0 ≤ s ∧ s < (N : Int))
  case atStart => exact ⟨0, rfl, rfl, Nat.zero_le _, ⟨0, rfl⟩, fun s hs => by simp at hs⟩
  case round =>
    obtain ⟨i, rfl, hgk, hik, hwr, hall⟩ := hrel
    have hgr : W0.grownBy wr none := by obtain ⟨q, rfl⟩ := hwr; exact grown_drewN _ _ _
    have hfr : wr.frozen? ⟨b + 1, 0, none⟩ = false ∧ wr.frozen? ⟨b + 1, 1, none⟩ = false := by obtain ⟨q, rfl⟩ := hwr; exact ⟨f0, f1⟩
    obtain ⟨g0, g1⟩ := hfr
    have d0 := hgr.cell c0 (by simp)
    have d1 := hgr.cell c1 (by simp)
    have q0 := hgr.cell r0 (by simp)
    have q1 := hgr.cell r1 (by simp)
    have HGK := Lib.hid (And.intro hgk (And.intro hik (And.intro hall (And.intro hgr hwr)))); clear hgk hall hgr hwr
    by_cases hi : i < k
    · have hiB : decide (i < k) = true := by simpa using hi
      have hiI : (i : Int) < (k : Int) := by omega
      obtain ⟨s, hs⟩ : ∃ s, ss[i]? = some s := ⟨_, List.getElem?_eq_getElem (by have := HH.out.2.2.2.2.2; omega)⟩
      obtain ⟨tb, to, rfl, hcell⟩ := (HH.out.2.2.2.1.grown (HZ.out.trans HGK.out.2.2.2.1)).at hs
      have HS := Lib.hid hs; clear hs
      by_cases hbad : s < 0 ∨ (N : Int) ≤ s
      · have hcase : decide (s < 0) = true ∨ (decide (s < 0) = false ∧ decide ((N : Int) ≤ s) = true) := by
          by_cases h0 : s < 0
          · exact .inl (by simpa using h0)
          · exact .inr ⟨by simpa using h0, by simp; omega⟩
        have HF := Lib.hid (fits_not (N := N) (List.mem_of_getElem? HS.out) hbad)
        clear hbad
        rcases hcase with ds | ⟨ds, dN⟩
        all_goals
          go_wp2_with fail
          go_quiet (fail)
          obtain ⟨wq, hwq⟩ : ∃ wq, wr.drewN nq = wq := ⟨_, rfl⟩
          have hgq : wr.grownBy wq none := by rw [← hwq]; exact grown_drewN _ _ _
          have hfq : wq.frozen? ⟨b + 1, 0, none⟩ = false ∧ wq.frozen? ⟨b + 1, 1, none⟩ = false := by rw [← hwq]; exact ⟨g0, g1⟩
          obtain ⟨fq0, fq1⟩ := hfq
          have p0 := hgq.cell q0 (by simp)
          have p1 := hgq.cell q1 (by simp)
          have HGQ := Lib.hid hgq; clear hgq
          rw [hwq]
          clear hwq
          go_wp2
          have hr := res_set (x := 0) (v := .slice none 0 0) p0 p1
          refine bodyPost_ret (results29 _ _ (b + 1) none 0 0 0 rfl hr.1 hr.2) rfl ?_
          exact fullS_zero HH.out.2.2.2.2.1 HF.out (grown_own (grown_own ((HZ.out.trans HGK.out.2.2.2.1).trans HGQ.out) (grown_set _ _ _ _) (fun j hj => by cases hj; have := HWB.out; omega)) (grown_set _ _ _ _) (fun j hj => by cases hj; have := HWB.out; omega))
      have ds : decide (s < 0) = false := by simp; omega
      have dN : decide ((N : Int) ≤ s) = false := by simp; omega
      have HSN : Hid (0 ≤ s ∧ s < (N : Int)) := Lib.hid (by omega)
      clear hbad
      go_wp2_with fail
      go_quiet (fail)
      obtain ⟨wq, hwq⟩ : ∃ wq, wr.drewN nq = wq := ⟨_, rfl⟩
      have HWQ : Hid (∃ q, wq = W0.drewN q) := Lib.hid (by obtain ⟨q, hq⟩ := HGK.out.2.2.2.2; exact ⟨q + nq, by rw [← hwq, hq, World.drewN_drewN]⟩)
      rw [hwq]
      clear hwq
      go_wp2
      go_roundg (k - (i + 1))
      case measure => rw [HGK.out.1]; omega
      case rel =>
        refine ⟨i + 1, rfl, rfl, by omega, HWQ.out, fun y hy => ?_⟩
        rw [List.take_add_one, HS.out, Option.toList_some, List.mem_append] at hy
        rcases hy with hy | hy
        · exact HGK.out.2.2.1 y hy
        · simp at hy; subst hy; exact HSN.out
    · have hie : i = k := by omega
      subst hie
      have hiB : decide (i < i) = false := by simp
      have hall : ∀ s ∈ ss, 0 ≤ s ∧ s < (N : Int) := by
        have h1 := HGK.out.2.2.1
        rw [List.take_of_length_le (by rw [HH.out.2.2.2.2.2]; exact Nat.le_refl _)] at h1
        exact h1
      have hfit : fits N ss = true := by simp only [fits, decide_eq_true_eq, HH.out.2.2.2.2.2]; exact ⟨by omega, by omega, hall⟩
      have hsz : wr.heap.size = b + 2 := by obtain ⟨q, hq⟩ := HGK.out.2.2.2.2; rw [hq]; exact HW.out.2.2.2.1
      have hF0 := FuB.start W1 i (b + 1) wr (HW.out.2.2.1.trans HGK.out.2.2.2.1) (by have := HW.out.2.1; omega) ⟨by rw [q0]; rfl, g0⟩ ⟨by rw [q1]; rfl, g1⟩
      rw [hsz] at hF0
      have HF0 := Lib.hid hF0; clear hF0
      have hsum := sum_le HH.out.2.1
      have hzl := HH.out.2.2.1
      have hM0 : sum zs ^ i ≤ 20 ^ 3 := Nat.le_trans (Nat.pow_le_pow_left (by omega) i) (Nat.pow_le_pow_right (by omega) hk3)
      obtain ⟨M, hM⟩ : ∃ M, sum zs ^ i = M := ⟨_, rfl⟩
      rw [hM] at hM0
      have hM8 : M ≤ 8000 := by omega
      have hsk := HH.out.2.2.2.2.2
      have hRK : ∀ W : World, w.grownBy W none → Calls Try.prog 121 #[.agg #[.slice a N c, .int .i64 st], .int .i64 (i : Int)] W fun e w' => e = .returned (.int .i64 (M : Int)) ∧ W.grownBy w' none := fun W hW => by
        have hf := rRanks_calls zs a c st i W (HH.out.1.grown hW) HH.out.2.1 HH.out.2.2.1 hk3
        rw [HH.out.2.2.2.2.1, hM] at hf
        exact hf
      have hTU : ∀ (m : Nat) (W : World), m < M → w.grownBy W none → Calls Try.prog 122 #[.agg #[.slice a N c, .int .i64 st], .int .i64 (i : Int), .int .i64 (m : Int)] W fun e w' => ∃ a' c', e = .returned (.slice a' i c') ∧ Ints w' a' c' (ints (dig (sum zs) i m)) ∧ W.grownBy w' none := fun m W hm hW => by
        have hf := rTuple_calls zs a c st (i : Int) (m : Int) W (HH.out.1.grown hW) HH.out.2.1 HH.out.2.2.1 (by omega)
        have hN1 : 1 ≤ sum zs := by
          rcases Nat.eq_zero_or_pos (sum zs) with h0 | h0
          · rw [h0, Nat.zero_pow (by omega)] at hM; omega
          · exact h0
        have hlen : (ints (dig (sum zs) i m)).length = i := by rw [List.length_map, dig_length]
        rw [HH.out.2.2.2.2.1, tupI_in hk3 (.inl hN1) (by rw [hM]; exact hm), show (dig (sum zs) i m).map Int.ofNat = ints (dig (sum zs) i m) from rfl, hlen] at hf
        exact hf
      have hFI : ∀ (m : Nat) (W : World) (a' : Option Addr) (c' : Nat), w.grownBy W none → Ints W a' c' (ints (dig (sum zs) i m)) → Calls Try.prog 123 #[.agg #[.slice a N c, .int .i64 st], .slice a' i c', .slice ta i tc] W fun e w' => e = .returned (.bool (fitR zs (ints (dig (sum zs) i m)) ss)) ∧ W.grownBy w' none := fun m W a' c' hW hi => by
        have hlen : (ints (dig (sum zs) i m)).length = i := by rw [List.length_map, dig_length]
        have hf := rFits_calls zs a c st (ints (dig (sum zs) i m)) ss a' ta c' tc W (HH.out.1.grown hW) HH.out.2.1 HH.out.2.2.1 hi (HH.out.2.2.2.1.grown hW) (by rw [hlen, hsk]) (by omega)
        rw [HH.out.2.2.2.2.1, hlen, hsk] at hf
        exact hf
      have HC := Lib.hid (And.intro hRK (And.intro hTU hFI)); clear hRK hTU hFI
      have HRES : Hid (fullK N ss = i ∧ fullL zs ss = ints (fitTo zs ss M)) := Lib.hid ⟨by simp only [fullK, hfit, if_true]; exact hsk, by
        have h1 := fitTo_digs (zs := zs) (fun s hs => (hall s hs).1) (by rw [hsk]; omega)
        rw [hsk, hM] at h1
        simp only [fullL, HH.out.2.2.2.2.1, hfit, if_true]; rw [h1]⟩
      have HSK := Lib.hid hsk
      clear hall hfit hsum hzl hM0 hM hsk
      go_wp2_with fail
      obtain ⟨W5, hW5⟩ : ∃ W5, wr.alloc (.cells #[.int .i64 (i : Int), .slice none 0 0] 53) = W5 := ⟨_, rfl⟩
      rw [hW5] at HF0 ⊢
      clear hW5 hsz d0 d1 q0 q1 c0 c1 r0 r1 f0 f1 g0 g1
      go_loopg [8, 9] M (fun gk s8 s9 wx => ∃ m : Nat, s8 = .int .i64 (m : Int) ∧ gk = M - m ∧ m ≤ M ∧ FuB W1 wx (b + 2) (b + 1) (b + 3) i (ints (fitTo zs ss m)))
      case atStart => exact ⟨0, rfl, rfl, Nat.zero_le _, HF0.out⟩
      case round =>
        obtain ⟨m, rfl, hgm, hm, hF⟩ := hrel
        have d0 := hF.grown.cell HW.out.2.2.2.2.1 (by simp)
        have d1 := hF.grown.cell HW.out.2.2.2.2.2 (by simp)
        have HF := Lib.hid hF; clear hF
        have HGM := Lib.hid hgm; clear hgm
        go_wp2_with fail
        refine (HC.out.1 _ (HW.out.1.trans HF.out.grown)).mono ?_
        rintro e w2 ⟨rfl, g2⟩
        have hF2 := HF.out.quiet (C := W1.heap.size) (Nat.le_refl _) (.of_none g2)
        clear d0 d1 g2
        have d0 := hF2.grown.cell HW.out.2.2.2.2.1 (by simp)
        have d1 := hF2.grown.cell HW.out.2.2.2.2.2 (by simp)
        have HF2 := Lib.hid hF2; clear hF2
        by_cases hmM : m < M
        · have hmB : decide (m < M) = true := by simpa using hmM
          go_wp2_with fail
          refine (HC.out.2.1 m _ hmM (HW.out.1.trans HF2.out.grown)).mono ?_
          rintro e w3 ⟨a3, c3, rfl, hi3, g3⟩
          have hF3 := HF2.out.quiet (C := W1.heap.size) (Nat.le_refl _) (.of_none g3)
          clear d0 d1 g3
          have d0 := hF3.grown.cell HW.out.2.2.2.2.1 (by simp)
          have d1 := hF3.grown.cell HW.out.2.2.2.2.2 (by simp)
          have HF3 := Lib.hid (And.intro hF3 hi3); clear hF3 hi3
          go_wp2_with fail
          refine (HC.out.2.2 m _ a3 c3 (HW.out.1.trans HF3.out.1.grown) HF3.out.2).mono ?_
          rintro e w4 ⟨rfl, g4⟩
          have hF4 := HF3.out.1.quiet (C := W1.heap.size) (Nat.le_refl _) (.of_none g4)
          have hB4 := hF4.low.2.2.2
          obtain ⟨v, hv, hown⟩ := hF4.row
          have hfr4 := hF4.fr
          clear d0 d1 g4
          have HF4 := Lib.hid hF4; clear hF4
          have HNX := Lib.hid (fitTo_succ zs ss m)
          rw [HSK.out] at HNX
          have hpl := fitTo_length zs ss m
          obtain ⟨B, hB⟩ : ∃ B, fitR zs (ints (dig (sum zs) i m)) ss = B := ⟨_, rfl⟩
          rw [hB] at HNX ⊢
          clear hB
          cases B with
          | true =>
            have hlen : (ints (fitTo zs ss m)).length = (fitTo zs ss m).length := List.length_map _
            rw [← hlen] at hpl
            obtain ⟨P, hP⟩ : ∃ P, ints (fitTo zs ss m) = P := ⟨_, rfl⟩
            rw [hP] at hown hpl HF4
            have HP := Lib.hid hP
            clear hP hlen
            obtain ⟨va, vc, rfl⟩ := own_shape hown
            have HO := Lib.hid hown; clear hown
            go_wp2_with (at_builtin; refine wpList_append_own_at _ rfl _ _ 28 rfl (b + 3) 3 i0 (.int .i64 0) 1 8 Try.underlying28 hi0 hz0 hz1 hz2 rfl (by decide) _ _ _ rfl (HO.out.alloc _) ⟨w4.heap.size, 0, none⟩ 1 1 [.int .i64 (m : Int)] rfl rfl (cell_one_new _ _ _) (fun u hu => by simp at hu; subst hu; rfl) (by unfold maxLen; omega) (by omega) (by simp; omega) ?_; intro v' w5 hown' hgrow5 hnil5 hat5; obtain ⟨g', cap', rfl⟩ := own_shape hown'; obtain ⟨hs1, hs2⟩ := HF4.out.at_ hv HO.out hgrow5)
            have HS := Lib.hid (HF4.out.step hv HO.out hgrow5 hown' hat5).1
            clear hown' hgrow5 hnil5 hat5
            go_wp2
            go_roundg (M - (m + 1))
            case measure => rw [HGM.out]; omega
            case rel => exact ⟨m + 1, rfl, rfl, by omega, by rw [HNX.out, if_pos (by simp), show ints (fitTo zs ss m ++ [m]) = ints (fitTo zs ss m) ++ [(m : Int)] by rw [ints, List.map_append]; rfl, HP.out]; exact HS.out⟩
          | false =>
            clear hown
            go_wp2_with fail
            go_roundg (M - (m + 1))
            case measure => rw [HGM.out]; omega
            case rel => exact ⟨m + 1, rfl, rfl, by omega, by rw [HNX.out, if_neg (by simp)]; exact HF4.out⟩
        · have hme : m = M := by omega
          subst hme
          have hmB : decide (m < m) = false := by simp
          obtain ⟨v, hv, hown⟩ := HF2.out.row
          obtain ⟨va, vc, rfl, hints⟩ := own_ints hown
          have q0 := HF2.out.c0
          obtain ⟨u0, hu0⟩ := Option.isSome_iff_exists.1 HF2.out.r0.1
          obtain ⟨u1, hu1⟩ := Option.isSome_iff_exists.1 HF2.out.r1.1
          have f0 := HF2.out.r0.2
          have f1 := HF2.out.r1.2
          have HI := Lib.hid (And.intro hown hints); clear hown hints
          obtain ⟨n, hn⟩ : ∃ n, (ints (fitTo zs ss m)).length = n := ⟨_, rfl⟩
          rw [hn] at hv
          have HN := Lib.hid hn; clear hn
          go_wp2_with fail
          have hr := res_set (x := (i : Int)) (v := .slice va n vc) hu0 hu1
          refine bodyPost_ret (results29 _ _ (b + 1) va n vc i rfl hr.1 hr.2) rfl ?_
          have hk1' := HI.out.1.kept (grown_set w2 (b + 1) 0 (.int .i64 (i : Int))) (own_ne HI.out.1 (by omega))
          have hk2 := hk1'.kept (grown_set _ (b + 1) 1 (.slice va n vc)) (own_ne hk1' (by omega))
          obtain ⟨a', c', he, hnm⟩ := ints_span hk2
          injection he with e1 e2 e3
          subst e1; subst e3
          have hwb := HWB.out
          refine ⟨va, vc, by rw [HRES.out.1, HRES.out.2, HN.out], by rw [HRES.out.2]; exact hnm.wide (by omega) (Nat.le_refl _) (Nat.le_refl _), ?_⟩
          exact grown_own (grown_own (HW.out.1.trans HF2.out.grown) (grown_set _ _ _ _) (fun j hj => by cases hj; omega)) (grown_set _ _ _ _) (fun j hj => by cases hj; omega)
end Go.Proofs.Ytbddpjofhddilaa

/- Texts of the proof: KI QN. -/
import Derived.Test.YthdhmflodiincaaCD08
import Derived.Test.YthdhmflodiincaaCD09
import Derived.StillTailTactics
set_option maxRecDepth 100000
set_option maxHeartbeats 8000000
namespace Go.Proofs.Ythdhmflodiincaa

theorem foldP_map {σ α β : Type} (f : σ → β → Pr σ) (g : α → β) : ∀ (l : List α) (s : σ), foldP f (l.map g) s = foldP (fun s x => f s (g x)) l s
 | [], _ => rfl
 | x :: l, s => by
  show (f s (g x)).bind _ = (f s (g x)).bind _
  congr 1
  funext t
  exact foldP_map f g l t
theorem foldP_congr {σ β : Type} {f g : σ → β → Pr σ} : ∀ {l : List β} (s : σ), (∀ s, ∀ x ∈ l, f s x = g s x) → foldP f l s = foldP g l s
 | [], _, _ => rfl
 | x :: l, s, h => by
  show (f s x).bind _ = (g s x).bind _
  rw [h s x (by simp)]
  congr 1
  funext t
  exact foldP_congr t (fun s y hy => h s y (by simp [hy]))
end Go.Proofs.Ythdhmflodiincaa
namespace Go.Proofs.Ythdhmflodiincaa
open Go.RowKit Go.Shelf
set_option maxRecDepth 100000

abbrev Mg := Int × Int × Int × Bool × Bool
def mgF : Nat → List Cl → List Cl → List Mg
 | 0, _, _ => []
 | _ + 1, [], [] => []
 | f + 1, x :: a, [] => (x.1, x.2, 1, true, false) :: mgF f a []
 | f + 1, [], y :: b => (y.1, 1, y.2, false, true) :: mgF f [] b
 | f + 1, x :: a, y :: b => if x.1 < y.1 then (x.1, x.2, 1, true, false) :: mgF f a (y :: b) else if y.1 < x.1 then (y.1, 1, y.2, false, true) :: mgF f (x :: a) b else (x.1, x.2, y.2, true, true) :: mgF f a b
def mg (a b : List Cl) : List Mg := mgF (a.length + b.length) a b
def mgOf (a b : List Cl) (k : Int) : Mg := (k, atM a k, atM b k, inM a k, inM b k)
theorem atM_head {x : Cl} {a : List Cl} : atM (x :: a) x.1 = x.2 := by unfold atM; simp
theorem inM_head {x : Cl} {a : List Cl} : inM (x :: a) x.1 = true := by unfold inM; simp
theorem atM_tail {x : Cl} {a : List Cl} {k : Int} (h : x.1 ≠ k) : atM (x :: a) k = atM a k := by unfold atM; rw [List.find?_cons_of_neg (by simpa using h)]
theorem inM_tail {x : Cl} {a : List Cl} {k : Int} (h : x.1 ≠ k) : inM (x :: a) k = inM a k := by unfold inM; rw [List.any_cons]; simp [h]
theorem at_low {a : List Cl} {k : Int} (h : ∀ c ∈ a, k < c.1) : atM a k = 1 ∧ inM a k = false :=
 ⟨atM_not (fun c hc e => by have := h c hc; omega), by unfold inM; rw [List.any_eq_false]; intro c hc; have := h c hc; simp; omega⟩
theorem mgF_rk : ∀ (f : Nat) (a b : List Cl), a.length + b.length ≤ f → UpM a → UpM b → mgF f a b = (rkF f a b).map (mgOf a b)
 | 0, a, b, h, _, _ => by simp [mgF, rkF]
 | f + 1, [], [], _, _, _ => by simp [mgF, rkF]
 | f + 1, x :: a, [], h, ha, hb => by
  obtain ⟨h1, h2⟩ := upM_cons.1 ha
  have ih := mgF_rk f a [] (by simp at h ⊢; omega) h2 hb
  have hs := (rk_spec f a [] (by simp at h ⊢; omega) h2 hb).2
  show (x.1, x.2, 1, true, false) :: mgF f a [] = (x.1 :: rkF f a []).map (mgOf (x :: a) [])
  rw [List.map_cons, ih]
  congr 1
  · unfold mgOf; rw [atM_head, inM_head]; rfl
  ·
   refine List.map_congr_left fun k hk => ?_
   have hlt : x.1 < k := by
    rcases (hs k).1 hk with ⟨c, hc, rfl⟩ | ⟨c, hc, _⟩
    · exact h1 c hc
    · cases hc
   unfold mgOf; rw [atM_tail (by omega), inM_tail (by omega)]
 | f + 1, [], y :: b, h, ha, hb => by
  obtain ⟨h1, h2⟩ := upM_cons.1 hb
  have ih := mgF_rk f [] b (by simp at h ⊢; omega) ha h2
  have hs := (rk_spec f [] b (by simp at h ⊢; omega) ha h2).2
  show (y.1, 1, y.2, false, true) :: mgF f [] b = (y.1 :: rkF f [] b).map (mgOf [] (y :: b))
  rw [List.map_cons, ih]
  congr 1
  · unfold mgOf; rw [atM_head, inM_head]; rfl
  ·
   refine List.map_congr_left fun k hk => ?_
   have hlt : y.1 < k := by
    rcases (hs k).1 hk with ⟨c, hc, _⟩ | ⟨c, hc, rfl⟩
    · cases hc
    · exact h1 c hc
   unfold mgOf; rw [atM_tail (by omega), inM_tail (by omega)]
 | f + 1, x :: a, y :: b, h, ha, hb => by
  obtain ⟨h1, h2⟩ := upM_cons.1 ha
  obtain ⟨h3, h4⟩ := upM_cons.1 hb
  by_cases hxy : x.1 < y.1
  ·
   have ih := mgF_rk f a (y :: b) (by simp at h ⊢; omega) h2 hb
   have hs := (rk_spec f a (y :: b) (by simp at h ⊢; omega) h2 hb).2
   have hl := at_low (a := y :: b) (k := x.1) (fun c hc => by
    rcases List.mem_cons.1 hc with rfl | hc
    · exact hxy
    · exact Int.lt_trans hxy (h3 c hc))
   unfold mgF rkF
   rw [if_pos hxy, if_pos hxy, List.map_cons, ih]
   congr 1
   · unfold mgOf; rw [atM_head, inM_head, hl.1, hl.2]
   ·
    refine List.map_congr_left fun k hk => ?_
    have hlt : x.1 < k := by
     rcases (hs k).1 hk with ⟨c, hc, rfl⟩ | ⟨c, hc, rfl⟩
     · exact h1 c hc
     ·
      rcases List.mem_cons.1 hc with rfl | hc
      · exact hxy
      · exact Int.lt_trans hxy (h3 c hc)
    unfold mgOf; rw [atM_tail (x := x) (by omega), inM_tail (x := x) (by omega)]
  ·
   by_cases hyx : y.1 < x.1
   ·
    have ih := mgF_rk f (x :: a) b (by simp at h ⊢; omega) ha h4
    have hs := (rk_spec f (x :: a) b (by simp at h ⊢; omega) ha h4).2
    have hl := at_low (a := x :: a) (k := y.1) (fun c hc => by
     rcases List.mem_cons.1 hc with rfl | hc
     · exact hyx
     · exact Int.lt_trans hyx (h1 c hc))
    unfold mgF rkF
    rw [if_neg hxy, if_neg hxy, if_pos hyx, if_pos hyx, List.map_cons, ih]
    congr 1
    · unfold mgOf; rw [atM_head, inM_head, hl.1, hl.2]
    ·
     refine List.map_congr_left fun k hk => ?_
     have hlt : y.1 < k := by
      rcases (hs k).1 hk with ⟨c, hc, rfl⟩ | ⟨c, hc, rfl⟩
      ·
       rcases List.mem_cons.1 hc with rfl | hc
       · exact hyx
       · exact Int.lt_trans hyx (h1 c hc)
      · exact h3 c hc
     unfold mgOf; rw [atM_tail (x := y) (by omega), inM_tail (x := y) (by omega)]
   ·
    have e : x.1 = y.1 := by omega
    have ih := mgF_rk f a b (by simp at h ⊢; omega) h2 h4
    have hs := (rk_spec f a b (by simp at h ⊢; omega) h2 h4).2
    unfold mgF rkF
    rw [if_neg hxy, if_neg hxy, if_neg hyx, if_neg hyx, List.map_cons, ih]
    congr 1
    · unfold mgOf; rw [atM_head, inM_head, e, atM_head, inM_head]
    ·
     refine List.map_congr_left fun k hk => ?_
     have hlt : x.1 < k := by
      rcases (hs k).1 hk with ⟨c, hc, rfl⟩ | ⟨c, hc, rfl⟩
      · exact h1 c hc
      · rw [e]; exact h3 c hc
     unfold mgOf; rw [atM_tail (x := x) (by omega), inM_tail (x := x) (by omega), atM_tail (x := y) (by omega), inM_tail (x := y) (by omega)]
theorem mg_rk {a b : List Cl} (ha : UpM a) (hb : UpM b) : mg a b = (rk a b).map (mgOf a b) := mgF_rk _ a b (Nat.le_refl _) ha hb
theorem mg_len {a b : List Cl} (ha : UpM a) (hb : UpM b) : (mg a b).length ≤ a.length + b.length := by rw [mg_rk ha hb, List.length_map]; exact rk_len (a.length + b.length) a b
abbrev mgV (z : Mg) : Array Value := #[.int .i64 z.1, .agg #[.int .i64 z.2.1, .int .i64 z.2.2.1, .bool z.2.2.2.1, .bool z.2.2.2.2]]
theorem merged_calls (k j : Int) (xa ya : Option Addr) (lx ly xc yc : Nat) (w : World) :
  Calls Try.prog 73 #[.agg #[.int .i64 k, .slice xa lx xc], .agg #[.int .i64 j, .slice ya ly yc]] w fun e w' =>
   e = .returned (.func (.func 114) #[] #[.pointer (some ⟨w.heap.size, 0, none⟩), .pointer (some ⟨w.heap.size + 1, 0, none⟩)]) ∧
   w' = (w.alloc (.cells #[.int .i64 k, .slice xa lx xc] 26)).alloc (.cells #[.int .i64 j, .slice ya ly yc] 26) := by
 go_enter Try.func73, Try.ntmps73
 go_wp2
 go_ret
 exact ⟨rfl, rfl⟩
theorem merged_cells (k j : Int) (xa ya : Option Addr) (lx ly xc yc : Nat) (w : World) :
  ((w.alloc (.cells #[.int .i64 k, .slice xa lx xc] 26)).alloc (.cells #[.int .i64 j, .slice ya ly yc] 26)).cell? ⟨w.heap.size, 1, none⟩ = some (.slice xa lx xc) ∧
  ((w.alloc (.cells #[.int .i64 k, .slice xa lx xc] 26)).alloc (.cells #[.int .i64 j, .slice ya ly yc] 26)).cell? ⟨w.heap.size + 1, 1, none⟩ = some (.slice ya ly yc) ∧
  ((w.alloc (.cells #[.int .i64 k, .slice xa lx xc] 26)).alloc (.cells #[.int .i64 j, .slice ya ly yc] 26)).heap.size = w.heap.size + 2 := by
 refine ⟨by go_simp, by go_simp, by simp⟩
theorem still_skip {P : Program} {ops : Array Oper} {w : World} {Q : Act → Prop} {a : Act} {o : Oper} {rest : List Oper} (h1 : Region.wanted o (yielded ops a.tmps) = false) (h : wpStill P ops w Q rest (a.put o.dst undef)) : wpStill P ops w Q (o :: rest) a := by
 unfold wpStill; rw [h1]; exact h
theorem still_do {P : Program} {ops : Array Oper} {w : World} {Q : Act → Prop} {a : Act} {o : Oper} {rest : List Oper} (h1 : Region.wanted o (yielded ops a.tmps) = true) (h : ∀ K : Act → Prop, (∀ a, wpStill P ops w Q rest a → K a) → o.still P a w K) : wpStill P ops w Q (o :: rest) a := by
 unfold wpStill; rw [h1]; exact h _ (fun _ h => h)
structure PB (w : World) (b : Nat) (r s : Int) (i j : Bool) : Prop where
 c0 : w.cell? ⟨b, 0, none⟩ = some (.int .i64 r)
 c1 : w.cell? ⟨b, 1, none⟩ = some (.int .i64 s)
 c2 : w.cell? ⟨b, 2, none⟩ = some (.bool i)
 c3 : w.cell? ⟨b, 3, none⟩ = some (.bool j)
 fr : ∀ o, w.frozen? ⟨b, o, none⟩ = false
theorem PB.new (w : World) (r s : Int) (i j : Bool) : PB (w.alloc (.cells #[.int .i64 r, .int .i64 s, .bool i, .bool j] 83)) w.heap.size r s i j :=
 ⟨by go_simp, by go_simp, by go_simp, by go_simp, fun o => by go_simp⟩
theorem PB.grown {w w' : World} {b : Nat} {r s : Int} {i j : Bool} (h : PB w b r s i j) (hg : w.grownBy w' none) : PB w' b r s i j :=
 ⟨hg.cell h.c0 (by simp), hg.cell h.c1 (by simp), hg.cell h.c2 (by simp), hg.cell h.c3 (by simp), fun o => (grown_frozen hg (lies_lt h.c0) o).trans (h.fr o)⟩
theorem PB.s0 {w : World} {b : Nat} {r s : Int} {i j : Bool} (h : PB w b r s i j) (x : Int) : PB (w.setCell ⟨b, 0, none⟩ (.int .i64 x)) b x s i j :=
 ⟨World.cell?_setCell_same _ _ _ h.c0, by rw [World.cell?_setCell_other _ _ _ _ (ne_at (by decide))]; exact h.c1, by rw [World.cell?_setCell_other _ _ _ _ (ne_at (by decide))]; exact h.c2, by rw [World.cell?_setCell_other _ _ _ _ (ne_at (by decide))]; exact h.c3, fun o => by rw [World.frozen?_setCell]; exact h.fr o⟩
theorem PB.s1 {w : World} {b : Nat} {r s : Int} {i j : Bool} (h : PB w b r s i j) (x : Int) : PB (w.setCell ⟨b, 1, none⟩ (.int .i64 x)) b r x i j :=
 ⟨by rw [World.cell?_setCell_other _ _ _ _ (ne_at (by decide))]; exact h.c0, World.cell?_setCell_same _ _ _ h.c1, by rw [World.cell?_setCell_other _ _ _ _ (ne_at (by decide))]; exact h.c2, by rw [World.cell?_setCell_other _ _ _ _ (ne_at (by decide))]; exact h.c3, fun o => by rw [World.frozen?_setCell]; exact h.fr o⟩
theorem PB.s2 {w : World} {b : Nat} {r s : Int} {i j : Bool} (h : PB w b r s i j) (x : Bool) : PB (w.setCell ⟨b, 2, none⟩ (.bool x)) b r s x j :=
 ⟨by rw [World.cell?_setCell_other _ _ _ _ (ne_at (by decide))]; exact h.c0, by rw [World.cell?_setCell_other _ _ _ _ (ne_at (by decide))]; exact h.c1, World.cell?_setCell_same _ _ _ h.c2, by rw [World.cell?_setCell_other _ _ _ _ (ne_at (by decide))]; exact h.c3, fun o => by rw [World.frozen?_setCell]; exact h.fr o⟩
theorem PB.s3 {w : World} {b : Nat} {r s : Int} {i j : Bool} (h : PB w b r s i j) (x : Bool) : PB (w.setCell ⟨b, 3, none⟩ (.bool x)) b r s i x :=
 ⟨by rw [World.cell?_setCell_other _ _ _ _ (ne_at (by decide))]; exact h.c0, by rw [World.cell?_setCell_other _ _ _ _ (ne_at (by decide))]; exact h.c1, by rw [World.cell?_setCell_other _ _ _ _ (ne_at (by decide))]; exact h.c2, World.cell?_setCell_same _ _ _ h.c3, fun o => by rw [World.frozen?_setCell]; exact h.fr o⟩
theorem cells_tail {b o p cap : Nat} (h : p + 1 ≤ cap) : ∃ a' c', (∀ w, (Instr.slice 24 (.slice (some ⟨b, o, none⟩) (p + 1) cap) (some (.int .i64 1)) none none).run Try.prog w = .ok (.slice a' p c') w) ∧ ∀ (W : World) (c : Cl) (l : List Cl), l.length = p → CellsW W (some ⟨b, o, none⟩) cap (c :: l) → CellsW W a' c' l := by
 by_cases hq : cap = 1
 ·
  obtain rfl : p = 0 := by omega
  subst hq
  exact ⟨some ⟨b, o, none⟩, 0, fun w => by go_simp, fun W c l hl _ => ⟨by omega, .inl (List.eq_nil_of_length_eq_zero hl)⟩⟩
 ·
  have a3 : (1 : Int) ≤ (p : Int) + 1 := by omega
  have a4 : 1 ≤ p + 1 := by omega
  refine ⟨some ⟨b, o + 2, none⟩, cap - 1, fun w => ?_, fun W c l hl hc => ?_⟩
  · go_simp
  ·
   refine ⟨by omega, .inr ⟨b, o + 2, rfl, fun j x hj => ?_⟩⟩
   obtain ⟨b', o', e, h1⟩ := hc.at (i := j + 1) (x := x) (by simpa using hj)
   cases e
   rw [show o + 2 + j * 2 = o + (j + 1) * 2 by omega]
   exact h1
end Go.Proofs.Ythdhmflodiincaa

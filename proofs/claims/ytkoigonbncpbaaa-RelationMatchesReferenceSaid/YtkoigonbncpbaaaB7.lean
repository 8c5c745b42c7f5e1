/- Join. -/
import Derived.Test.YtkoigonbncpbaaaB6
namespace Go.Proofs.Ytkoigonbncpbaaa
open Go.RowKit Go.Shelf

attribute [local go_sem] Oper.semAt_some

set_option maxHeartbeats 1000000 in
theorem joined_calls (n : Int) (k j : Int) (xa ya : Option Addr) (lx ly xc yc : Nat) (w : World) :
    Calls Try.prog 44 #[.int .i64 n, .agg #[.int .i64 k, .slice xa lx xc], .agg #[.int .i64 j, .slice ya ly yc]] w fun e w' =>
      e = .returned (.func (.func 55) #[] #[.pointer (some ⟨w.heap.size, 0, none⟩), .pointer (some ⟨w.heap.size + 2, 0, none⟩), .pointer (some ⟨w.heap.size + 1, 0, none⟩)]) ∧
      w' = ((w.alloc (.cells #[.int .i64 n] 3)).alloc (.cells #[.int .i64 k, .slice xa lx xc] 27)).alloc (.cells #[.int .i64 j, .slice ya ly yc] 27) := by
  go_enter Try.func44, Try.ntmps44
  go_wp2
  go_ret
  exact ⟨rfl, rfl⟩
theorem joined_cells (n : Int) (k j : Int) (xa ya : Option Addr) (lx ly xc yc : Nat) (w : World) :
    (((w.alloc (.cells #[.int .i64 n] 3)).alloc (.cells #[.int .i64 k, .slice xa lx xc] 27)).alloc (.cells #[.int .i64 j, .slice ya ly yc] 27)).cell? ⟨w.heap.size, 0, none⟩ = some (.int .i64 n) ∧
    (((w.alloc (.cells #[.int .i64 n] 3)).alloc (.cells #[.int .i64 k, .slice xa lx xc] 27)).alloc (.cells #[.int .i64 j, .slice ya ly yc] 27)).cell? ⟨w.heap.size + 2, 0, none⟩ = some (.int .i64 j) ∧
    (((w.alloc (.cells #[.int .i64 n] 3)).alloc (.cells #[.int .i64 k, .slice xa lx xc] 27)).alloc (.cells #[.int .i64 j, .slice ya ly yc] 27)).cell? ⟨w.heap.size + 2, 1, none⟩ = some (.slice ya ly yc) ∧
    (((w.alloc (.cells #[.int .i64 n] 3)).alloc (.cells #[.int .i64 k, .slice xa lx xc] 27)).alloc (.cells #[.int .i64 j, .slice ya ly yc] 27)).cell? ⟨w.heap.size + 1, 1, none⟩ = some (.slice xa lx xc) ∧
    (((w.alloc (.cells #[.int .i64 n] 3)).alloc (.cells #[.int .i64 k, .slice xa lx xc] 27)).alloc (.cells #[.int .i64 j, .slice ya ly yc] 27)).heap.size = w.heap.size + 3 := by
  refine ⟨by go_simp, by go_simp, by go_simp, by go_simp, by simp⟩

theorem results15 (tmps : Array Value) (w : World) (b : Nat) (a : Option Addr) (n c : Nat) (x e : Int) (ht : tmps.getD 6 undef = .pointer (some ⟨b, 0, none⟩)) (he : tmps.getD 7 undef = .int .i64 e) (h0 : w.cell? ⟨b, 0, none⟩ = some (.int .i64 x)) (h1 : w.cell? ⟨b, 1, none⟩ = some (.slice a n c)) :
    (results Try.f15 tmps).run Try.prog w = .ok (.tuple #[.agg #[.int .i64 x, .slice a n c], .int .i64 e]) w := by
  have ht' : tmps[6]?.getD undef = .pointer (some ⟨b, 0, none⟩) := by simpa using ht
  have he' : tmps[7]?.getD undef = .int .i64 e := by simpa using he
  simp [results, ht', he', go_sem, h0, h1, Result.andThen]

/-- Between two rounds: the set holds what has come. -/
structure JoinI (W0 : World) (M : Nat) (s : List Int) (W : World) : Prop where
  set : SetM W M s
  wf : ∀ x ∈ s, (Lit.int .i64 x).wf = true
  box : W.cell? ⟨M + 1, 0, none⟩ = some (.map (some M))
  grown : W0.grownBy W none
  low : W0.heap.size ≤ M
/-- The rounds write the set's block alone. -/
def JoinS (M : Nat) (W : World) (b : Nat) : Prop := b < W.heap.size ∧ b ≠ M
theorem joinI_abide (W0 : World) (M B : Nat) (hB : M < B) (hB0 : W0.heap.size ≤ B) : AbideG B (JoinI W0 M) (JoinS M) := by
  refine ⟨?_, ?_, ?_⟩
  · rintro s A A' h ⟨row, hg, hr⟩
    exact ⟨h.set.grown hg (fun e => by have := (hr _ e.symm).1; omega), h.wf, Quiet.cell ⟨row, hg, hr⟩ h.box, grown_own h.grown hg (fun k hk => by have := (hr _ hk).1; omega), h.low⟩
  · rintro s A A' b h ⟨row, hg, hr⟩ ⟨h1, h2⟩
    exact ⟨Nat.lt_of_lt_of_le h1 hg.size, h2⟩
  · rintro s A A' b h ⟨row, hg, hr⟩ h1 h2
    have := h.set.lt
    exact ⟨h2, by omega⟩

set_option maxRecDepth 100000 in
set_option maxHeartbeats 4000000 in
theorem join_odd (n k j : Nat) (xs ys : List Int) (xa ya : Option Addr) (xc yc : Nat) (w : World) (hkj : k + j ≤ 2 ∨ 6 ≤ k + j) (hk : k ≤ 3) (hj : j ≤ 3) :
    Calls Try.prog 15 #[.int .i64 (n : Int), .agg #[.int .i64 (k : Int), .slice xa xs.length xc], .agg #[.int .i64 (j : Int), .slice ya ys.length yc]] w fun e w' => e = .returned (.tuple #[.agg #[.int .i64 0, .slice none 0 0], .int .i64 42]) ∧ w.grownBy w' none := by
  obtain ⟨lx, hnx⟩ : ∃ l, xs.length = l := ⟨_, rfl⟩
  obtain ⟨ly, hny⟩ : ∃ l, ys.length = l := ⟨_, rfl⟩
  rw [hnx, hny]
  obtain ⟨S, hS⟩ : ∃ S, k + j = S := ⟨_, rfl⟩
  obtain ⟨A, hA⟩ : ∃ A : Int, (S : Int) - 2 = A := ⟨_, rfl⟩
  have hwS : IntKind.i64.wrap ((k : Int) + (j : Int)) = (S : Int) := by rw [IntWalk.i64_in _ (by omega)]; omega
  have hwA : IntKind.i64.wrap ((S : Int) - 2) = A := by rw [IntWalk.i64_in _ (by omega)]; omega
  have hg1 := World.grownBy_alloc w (.cells #[.int .i64 (k : Int), .slice xa lx xc] 27) none
  have hg2 := World.grownBy_alloc (w.alloc (.cells #[.int .i64 (k : Int), .slice xa lx xc] 27)) (.cells #[.int .i64 (j : Int), .slice ya ly yc] 27) none
  have hg3 := World.grownBy_alloc ((w.alloc (.cells #[.int .i64 (k : Int), .slice xa lx xc] 27)).alloc (.cells #[.int .i64 (j : Int), .slice ya ly yc] 27)) (.cells #[.int .i64 0, .slice none 0 0] 27) none
  have hg := (hg1.trans hg2).trans hg3
  have hc := six_cells w (.int .i64 (k : Int)) (.slice xa lx xc) (.int .i64 (j : Int)) (.slice ya ly yc) (.int .i64 0) (.slice none 0 0) 27 27 27
  have hsz : (((w.alloc (.cells #[.int .i64 (k : Int), .slice xa lx xc] 27)).alloc (.cells #[.int .i64 (j : Int), .slice ya ly yc] 27)).alloc (.cells #[.int .i64 0, .slice none 0 0] 27)).heap.size = w.heap.size + 3 := by simp
  obtain ⟨W, hW⟩ : ∃ W, ((w.alloc (.cells #[.int .i64 (k : Int), .slice xa lx xc] 27)).alloc (.cells #[.int .i64 (j : Int), .slice ya ly yc] 27)).alloc (.cells #[.int .i64 0, .slice none 0 0] 27) = W := ⟨_, rfl⟩
  rw [hW] at hg hc hsz
  have HG := Lib.hid (And.intro hg hsz)
  have HC := Lib.hid hc
  clear hg hg1 hg2 hg3 hsz
  obtain ⟨hlt, c0, c1, d0, d1, e0, e1, ef0, ef1⟩ := hc
  go_enter Try.func15, Try.ntmps15
  by_cases h1 : k + j ≤ 2
  · have hlt1 : decide ((A : Int) < 1) = true := by simp; omega
    go_wp2_with fail
    exact bodyPost_ret (results15 _ _ (w.heap.size + 2) none 0 0 0 42 rfl rfl (by rw [World.cell?_setCell_other _ _ _ _ (by intro e; injection e with _ e; cases e)]; exact World.cell?_setCell_same _ _ _ e0) (World.cell?_setCell_same _ _ _ (by rw [World.cell?_setCell_other _ _ _ _ (by intro e; injection e with _ e; cases e)]; exact e1))) rfl ⟨rfl, grown_own (grown_own HG.out.1 (grown_set _ (w.heap.size + 2) 0 _) (fun k hk => by cases hk; omega)) (grown_set _ (w.heap.size + 2) 1 _) (fun k hk => by cases hk; omega)⟩
  · have hlt1 : decide ((A : Int) < 1) = false := by simp; omega
    have hgt : decide (3 < (A : Int)) = true := by simp; omega
    go_wp2_with fail
    exact bodyPost_ret (results15 _ _ (w.heap.size + 2) none 0 0 0 42 rfl rfl (by rw [World.cell?_setCell_other _ _ _ _ (by intro e; injection e with _ e; cases e)]; exact World.cell?_setCell_same _ _ _ e0) (World.cell?_setCell_same _ _ _ (by rw [World.cell?_setCell_other _ _ _ _ (by intro e; injection e with _ e; cases e)]; exact e1))) rfl ⟨rfl, grown_own (grown_own HG.out.1 (grown_set _ (w.heap.size + 2) 0 _) (fun k hk => by cases hk; omega)) (grown_set _ (w.heap.size + 2) 1 _) (fun k hk => by cases hk; omega)⟩

set_option maxRecDepth 100000 in
set_option maxHeartbeats 8000000 in
theorem join_calls (n k j : Nat) (xs ys : List Int) (xa ya : Option Addr) (xc yc : Nat) (w : World) (h : IntsW w xa xc xs) (h' : IntsW w ya yc ys) (hl : xs.length ≤ 300) (hl' : ys.length ≤ 300) (hn1 : 1 ≤ n) (hn2 : n ≤ 12) (hj : 1 ≤ j) (hj3 : j ≤ 3) (hkj : 3 ≤ k + j) (hkj2 : k + j ≤ 5)
    (hx : ∀ x ∈ xs, 0 ≤ x ∧ x ≤ 2000) (hy : ∀ y ∈ ys, 0 ≤ y ∧ y ≤ 2000) (hwf : ∀ v ∈ joinP n (n ^ (j - 1)) xs ys, (Lit.int .i64 v).wf = true) :
    Calls Try.prog 15 #[.int .i64 (n : Int), .agg #[.int .i64 (k : Int), .slice xa xs.length xc], .agg #[.int .i64 (j : Int), .slice ya ys.length yc]] w fun e w' => ∃ a c, e = .returned (.tuple #[.agg #[.int .i64 ((k + j - 2 : Nat) : Int), .slice a (uniq (joinP n (n ^ (j - 1)) xs ys)).length c], .int .i64 0]) ∧ IntsW w' a c (uniq (joinP n (n ^ (j - 1)) xs ys)) ∧ w.grownBy w' none := by
  have hxw := intsW_span h
  have hyw := intsW_span h'
  obtain ⟨lx, hnx⟩ : ∃ l, xs.length = l := ⟨_, rfl⟩
  obtain ⟨ly, hny⟩ : ∃ l, ys.length = l := ⟨_, rfl⟩
  rw [hnx, hny]
  obtain ⟨S, hS⟩ : ∃ S, k + j = S := ⟨_, rfl⟩
  obtain ⟨A, hA⟩ : ∃ A : Int, (S : Int) - 2 = A := ⟨_, rfl⟩
  have hwS : IntKind.i64.wrap ((k : Int) + (j : Int)) = (S : Int) := by rw [IntWalk.i64_in _ (by omega)]; omega
  have hwA : IntKind.i64.wrap ((S : Int) - 2) = A := by rw [IntWalk.i64_in _ (by omega)]; omega
  have hg1 := World.grownBy_alloc w (.cells #[.int .i64 (k : Int), .slice xa lx xc] 27) none
  have hg2 := World.grownBy_alloc (w.alloc (.cells #[.int .i64 (k : Int), .slice xa lx xc] 27)) (.cells #[.int .i64 (j : Int), .slice ya ly yc] 27) none
  have hg3 := World.grownBy_alloc ((w.alloc (.cells #[.int .i64 (k : Int), .slice xa lx xc] 27)).alloc (.cells #[.int .i64 (j : Int), .slice ya ly yc] 27)) (.cells #[.int .i64 0, .slice none 0 0] 27) none
  have hg := (hg1.trans hg2).trans hg3
  have hc := six_cells w (.int .i64 (k : Int)) (.slice xa lx xc) (.int .i64 (j : Int)) (.slice ya ly yc) (.int .i64 0) (.slice none 0 0) 27 27 27
  have hsz : (((w.alloc (.cells #[.int .i64 (k : Int), .slice xa lx xc] 27)).alloc (.cells #[.int .i64 (j : Int), .slice ya ly yc] 27)).alloc (.cells #[.int .i64 0, .slice none 0 0] 27)).heap.size = w.heap.size + 3 := by simp
  obtain ⟨W, hW⟩ : ∃ W, ((w.alloc (.cells #[.int .i64 (k : Int), .slice xa lx xc] 27)).alloc (.cells #[.int .i64 (j : Int), .slice ya ly yc] 27)).alloc (.cells #[.int .i64 0, .slice none 0 0] 27) = W := ⟨_, rfl⟩
  rw [hW] at hg hc hsz
  have HG := Lib.hid (And.intro hg hsz)
  have HC := Lib.hid hc
  clear hg hg1 hg2 hg3 hsz
  obtain ⟨hlt, c0, c1, d0, d1, e0, e1, ef0, ef1⟩ := hc
  have hAe : A = ((k + j - 2 : Nat) : Int) := by omega
  rw [← hAe]
  clear hAe
  have hlt1 : decide ((A : Int) < 1) = false := by simp; omega
  have hgt : decide (3 < (A : Int)) = false := by simp; omega
  obtain ⟨r, hr⟩ : ∃ r, n ^ (j - 1) = r := ⟨_, rfl⟩
  rw [hr] at hwf ⊢
  obtain ⟨p, hp⟩ : ∃ p, (uniq (joinP n r xs ys)).length = p := ⟨_, rfl⟩
  rw [hp]
  have HP := Lib.hid hp; clear hp
  have hjl := joinP_len n r ys xs
  rw [hnx, hny] at hjl
  have hjl2 : lx * ly ≤ 300 * 300 := Nat.mul_le_mul (by omega) (by omega)
  have HJL := Lib.hid (Nat.le_trans hjl hjl2)
  have HWF := Lib.hid hwf
  clear hwf hjl hjl2
  have hga := World.grownBy_alloc W (.map #[] 0) none
  have hnew := SetM.new W
  have hmm := @run_makeMap Try.prog
  obtain ⟨W2, hW2⟩ : ∃ W2, W.alloc (.map #[] 0) = W2 := ⟨_, rfl⟩
  have hs2 : W2.heap.size = W.heap.size + 1 := by rw [← hW2]; simp
  rw [hW2] at hga hnew
  have hgb := World.grownBy_alloc W2 (.cells #[.map (some W.heap.size)] 52) none
  have hbox : (W2.alloc (.cells #[.map (some W.heap.size)] 52)).cell? ⟨W2.heap.size, 0, none⟩ = some (.map (some W.heap.size)) := by go_simp
  obtain ⟨W3, hW3⟩ : ∃ W3, W2.alloc (.cells #[.map (some W.heap.size)] 52) = W3 := ⟨_, rfl⟩
  have hs3 : W3.heap.size = W.heap.size + 2 := by rw [← hW3]; simp; omega
  rw [hW3] at hgb hbox
  have HS := Lib.hid (And.intro hs2 hs3)
  have HW3 := Lib.hid (And.intro (hga.trans hgb) (And.intro (hnew.grown hgb (by simp)) hbox))
  have k0 := HW3.out.1.cell c0 (by simp)
  have k1 := HW3.out.1.cell c1 (by simp)
  have kd0 := HW3.out.1.cell d0 (by simp)
  have kd1 := HW3.out.1.cell d1 (by simp)
  clear hga hgb hnew hbox
  have HXY := Lib.hid (And.intro hxw (And.intro hyw (And.intro hnx (And.intro hny (And.intro hx hy)))))
  clear hxw hyw hx hy h h'
  refine (callsIn_wide (n := 3)).1 ?_
  refine callsIn_of_wp_marks Try.func15 rfl trivial ?_ rfl
  simp only [Try.ntmps15, List.size_toArray, List.length_cons, List.length_nil, Nat.reduceAdd, Nat.reduceSub, Array.replicate_succ, Array.replicate_zero, List.push_toArray, List.append_toArray, List.nil_append, List.cons_append]
  refine wpIn_wide.2 ?_
  go_wp2_with fail
  refine (joined_calls _ _ _ _ _ _ _ _ _ W3).mono ?_
  rintro e w6 ⟨rfl, hw6⟩
  have hc6 := joined_cells (n : Int) (k : Int) (j : Int) xa ya lx ly xc yc W3
  have g6 : W3.grownBy w6 none := by rw [hw6]; exact ((World.grownBy_alloc _ _ none).trans (World.grownBy_alloc _ _ none)).trans (World.grownBy_alloc _ _ none)
  rw [← hw6, hs3] at hc6
  have HC6 := Lib.hid (And.intro hc6 g6)
  clear hw6 hc6 g6 hmm hW hW2 hW3 k0 k1 kd0 kd1 c0 c1 d0 d1 e0 e1 ef0 ef1 hlt1 hgt hwS hwA
  go_wp2_with fail
  have HIN : Hid (JoinI W W.heap.size [] w6) := Lib.hid ⟨HW3.out.2.1.grown HC6.out.2 (by simp), (fun x hx => by cases hx), by have := HC6.out.2.cell HW3.out.2.2 (by simp); rw [HS.out.1] at this; exact this, HW3.out.1.trans HC6.out.2, Nat.le_refl _⟩
  refine wpIn_wide.1 (rangeYesG (n := 3) (vals := oneV) (gf := 55) (lb := #[.pointer (some ⟨W.heap.size + 2, 0, none⟩), .pointer (some ⟨W.heap.size + 2 + 2, 0, none⟩), .pointer (some ⟨W.heap.size + 2 + 1, 0, none⟩)]) rfl rfl rfl trivial (enters_of Try.func55 (by kernel_rfl) rfl) (fun _ => rfl)
    (caps := fun b => b < w6.heap.size ∧ b ≠ W.heap.size) (xs := joinP n r xs ys) (fun U g => joined_gives n j r xs ys xa ya xc yc (W.heap.size + 2) (W.heap.size + 2 + 2) (W.heap.size + 2 + 1) w.heap.size W.heap.size w6.heap.size U hn1 hn2 hj hj3 hr.symm
      ⟨by have := HG.out.2; have := HS.out.2; have := HC6.out.1.2.2.2.2; omega, by have := HG.out.2; omega, g.size⟩ (((HXY.out.1.grown HG.out.1).grown (HW3.out.1.trans HC6.out.2)).grown g) (((HXY.out.2.1.grown HG.out.1).grown (HW3.out.1.trans HC6.out.2)).grown g)
      ⟨⟨by have := HC6.out.1.2.2.2.2; omega, by have := HS.out.2; omega⟩, ⟨by have := HC6.out.1.2.2.2.2; omega, by have := HS.out.2; omega⟩, ⟨by have := HC6.out.1.2.2.2.2; omega, by have := HS.out.2; omega⟩⟩
      (g.cell HC6.out.1.1 (by simp)) (g.cell HC6.out.1.2.1 (by simp)) (by rw [HXY.out.2.2.2.1]; exact g.cell HC6.out.1.2.2.1 (by simp)) (by rw [HXY.out.2.2.1]; exact g.cell HC6.out.1.2.2.2.1 (by simp)) (by rw [HXY.out.2.2.1]; omega) (by rw [HXY.out.2.2.2.1]; omega) HXY.out.2.2.2.2.1 HXY.out.2.2.2.2.2)
    (JoinI W W.heap.size) (JoinS W.heap.size) (joinI_abide W W.heap.size _ (by have := HS.out.2; have := HC6.out.1.2.2.2.2; omega) (by have := HS.out.2; have := HC6.out.1.2.2.2.2; omega)) (fun b hb => hb) HIN.out ?round ?done)
  case round =>
    intro l' pre x V hF hpre
    have HPL := Lib.hid (show pre.length ≤ 100000 by
      have h1 := hpre.length_le
      have h2 := HJL.out
      simp only [List.length_append, List.length_cons, List.length_nil] at h1
      omega)
    have HXW := Lib.hid (HWF.out x (hpre.subset (by simp)))
    clear hF hpre
    simp only [oneV]
    gi_wp2
    refine ⟨trivial, fun W2 hF2 => ?_⟩
    have hb := hF2.box
    have HF2 := Lib.hid hF2; clear hF2
    have hlt2 := HF2.out.set.lt
    gi_wp2_with (gi_at_mapUpdate; refine wpListIn_mapUpdate_own _ rfl _ _ _ 52 rfl 3 4 (Maps.int_keyed Try.underlying3) Try.underlying52 _ W.heap.size pre.length _ rfl HF2.out.set.1 (by have := HPL.out; unfold maxLen; omega) _ _ _ rfl rfl (Maps.keyOf_int_mk Try.underlying3 HXW.out) _ [] (plainElem_bool Try.underlying4 true) ?_; intro w1 hown1 hgrow1)
    refine ⟨⟨⟨?_, ?_⟩, ?_, cell_kept hb hgrow1 (fun r e => by cases e; obtain ⟨es, ck, hh, _⟩ := HF2.out.set.1; exact ⟨_, hh, rfl⟩), grown_own HF2.out.grown hgrow1 (fun k hk => by cases hk; exact Nat.le_refl _), Nat.le_refl _⟩, fun b hb => ⟨hgrow1.block b hb.1 (by simp [hb.2]), Nat.lt_of_lt_of_le hb.1 hgrow1.size, hb.2⟩⟩
    · rw [List.map_append, List.map_singleton, Maps.setOf_snoc, List.length_append]
      exact hown1
    all_goals
      intro z hz
      rcases List.mem_append.1 hz with hz | hz
      · exact HF2.out.wf z hz
      · rw [List.mem_singleton.1 hz]; exact HXW.out
  case done =>
    intro D V hD hF hsD hdef
    have hb := hF.box
    have HF := Lib.hid (And.intro hF (And.intro hsD (And.intro hdef hD)))
    clear hF hsD hdef hD
    have HFS := Lib.hid (fromSet_calls A W.heap.size (joinP n r xs ys) V HF.out.1.set (by have := HJL.out; omega))
    rw [HP.out] at HFS
    go_wp2_with fail
    refine HFS.out.mono ?_
    rintro e w8 ⟨a', c', rfl, hi, g8⟩
    have g := HF.out.1.grown.trans g8
    have m0 := g.cell HC.out.2.2.2.2.2.1 (by simp)
    have m1 := g.cell HC.out.2.2.2.2.2.2.1 (by simp)
    have f0 := (grown_frozen g HC.out.1 0).trans HC.out.2.2.2.2.2.2.2.1
    have f1 := (grown_frozen g HC.out.1 1).trans HC.out.2.2.2.2.2.2.2.2
    have HI := Lib.hid hi
    have HG8 := Lib.hid (And.intro g8 g)
    clear hi g8 g
    go_wp2_with fail
    have hDV : D < V.heap.size := HF.out.2.1.1
    have hDlow : w.heap.size + 3 ≤ D := by have h1 := HF.out.2.2.2; have h2 := HC6.out.2.size; have h3 := HW3.out.1.size; have h4 := HG.out.2; omega
    have hd8 : w8.heap[D]? = some (.deferred (some [])) := (HG8.out.1.block D hDV (by simp)).trans HF.out.2.2.1
    have hne : D ≠ w.heap.size + 2 := by omega
    have hdX : ((w8.setCell ⟨w.heap.size + 2, 0, none⟩ (.int .i64 A)).setCell ⟨w.heap.size + 2, 1, none⟩ (.slice a' p c')).heap[D]? = some (.deferred (some [])) :=
      ((Below.heap_setCell _ _ _ _ hne).trans (Below.heap_setCell _ _ _ _ hne)).trans hd8
    have hx0 : ((w8.setCell ⟨w.heap.size + 2, 0, none⟩ (.int .i64 A)).setCell ⟨w.heap.size + 2, 1, none⟩ (.slice a' p c')).cell? ⟨w.heap.size + 2, 0, none⟩ = some (.int .i64 A) := by
      rw [World.cell?_setCell_other _ _ _ _ (by intro e; injection e with _ e; cases e)]; exact World.cell?_setCell_same _ _ _ m0
    have hx1 : ((w8.setCell ⟨w.heap.size + 2, 0, none⟩ (.int .i64 A)).setCell ⟨w.heap.size + 2, 1, none⟩ (.slice a' p c')).cell? ⟨w.heap.size + 2, 1, none⟩ = some (.slice a' p c') :=
      World.cell?_setCell_same _ _ _ (by rw [World.cell?_setCell_other _ _ _ _ (by intro e; injection e with _ e; cases e)]; exact m1)
    have hVs : w.heap.size + 2 < V.heap.size := by omega
    have hsp := (((HI.out.off (grown_set _ (w.heap.size + 2) 0 (.int .i64 A)) (fun x e => by cases e; exact .inl hVs)).off (grown_set _ (w.heap.size + 2) 1 (.slice a' p c')) (fun x e => by cases e; exact .inl hVs)).off (grownBy_putObj' _ D (.deferred none)) (fun x e => by cases e; exact .inl hDV)).here
    have hgw := grown_own (grown_own (grown_own (HG.out.1.trans HG8.out.2) (grown_set w8 (w.heap.size + 2) 0 (.int .i64 A)) (fun k hk => by cases hk; omega)) (grown_set _ (w.heap.size + 2) 1 (.slice a' p c')) (fun k hk => by cases hk; omega)) (grownBy_putObj' _ D (.deferred none)) (fun k hk => by cases hk; omega)
    refine ⟨by simp, .inl ⟨D, _, rfl, run_takeDeferred hdX, _, results15 _ _ (w.heap.size + 2) a' p c' A 0 rfl rfl ((grownBy_putObj' _ D _).cell hx0 (by simp; omega)) ((grownBy_putObj' _ D _).cell hx1 (by simp; omega)), ?_⟩⟩
    exact ⟨a', c', rfl, hsp, hgw⟩
end Go.Proofs.Ytkoigonbncpbaaa

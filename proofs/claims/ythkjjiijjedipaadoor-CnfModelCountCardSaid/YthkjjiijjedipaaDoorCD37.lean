/- Texts of the proof: M10. -/
import Derived.Test.YthkjjiijjedipaaDoorCD36
import Derived.Deep.DeepCutAuto
import Derived.Laws.EntriesVeiled
namespace Go.Proofs.YthkjjiijjedipaaDoor
open Go.RowKit

/-- The variables of the gates below a place. -/
def vList (gs : List Gt) (m : Nat) (N : List Bool) (n k : Nat) : List Int := (List.range n).map fun i => if i < k then vOf gs m N i else 0
theorem vList_len (gs : List Gt) (m : Nat) (N : List Bool) (n k : Nat) : (vList gs m N n k).length = n := by simp [vList]
theorem vList_get {gs : List Gt} {m : Nat} {N : List Bool} {n k i : Nat} (h : i < n) : (vList gs m N n k)[i]? = some (if i < k then vOf gs m N i else 0) := by simp [vList, h]
theorem vList_zero (gs : List Gt) (m : Nat) (N : List Bool) (n : Nat) : vList gs m N n 0 = List.replicate n 0 := by
  apply List.ext_getElem?
  intro i
  by_cases h : i < n
  · rw [vList_get h, List.getElem?_replicate, if_pos h, if_neg (Nat.not_lt_zero i)]
  · rw [List.getElem?_eq_none (by rw [vList_len]; omega), List.getElem?_eq_none (by simp; omega)]
theorem vList_set {gs : List Gt} {m : Nat} {N : List Bool} {n k : Nat} (_hk : k < n) {x : Int} (hx : x = vOf gs m N k) : (vList gs m N n k).set k x = vList gs m N n (k + 1) := by
  apply List.ext_getElem?
  intro i
  by_cases h : i < n
  · by_cases e : k = i
    · subst e
      rw [List.getElem?_set_self (by rw [vList_len]; exact h), vList_get h, if_pos (by omega), hx]
    · rw [List.getElem?_set_ne e, vList_get h, vList_get h]
      by_cases h2 : i < k
      · rw [if_pos h2, if_pos (by omega)]
      · rw [if_neg h2, if_neg (by omega)]
  · rw [List.getElem?_eq_none (by rw [List.length_set, vList_len]; omega), List.getElem?_eq_none (by rw [vList_len]; omega)]
theorem vList_same {gs : List Gt} {m : Nat} {N : List Bool} {n k : Nat} (hk : k < n) (h0 : vOf gs m N k = 0) : vList gs m N n (k + 1) = vList gs m N n k := by
  apply List.ext_getElem?
  intro i
  by_cases h : i < n
  · rw [vList_get h, vList_get h]
    by_cases h2 : i < k
    · rw [if_pos h2, if_pos (by omega)]
    · by_cases e : i = k
      · subst e; rw [if_pos (by omega), if_neg (by omega), h0]
      · rw [if_neg h2, if_neg (by omega)]
  · rw [List.getElem?_eq_none (by rw [vList_len]; omega), List.getElem?_eq_none (by rw [vList_len]; omega)]
theorem vList_lit {gs : List Gt} {m : Nat} {N : List Bool} {n k : Nat} {r : Int} (hk : (r / 2).toNat < k) (hn : (r / 2).toNat < n) : litV' (vList gs m N n k) r = litN gs m N r := by
  unfold litV' litN vget
  rw [vList_get hn, if_pos hk]
  rfl
theorem vOf_bound {gs : List Gt} (hG : Good gs) {m : Nat} (hm : m ≤ 100) {N : List Bool} (hN : N.length ≤ 1000) (i : Nat) : -1000000 ≤ vOf gs m N i ∧ vOf gs m N i ≤ 1000000 := by
  unfold vOf
  split
  · rename_i h
    have h1 := rank_le N i
    have h2 := (List.getElem?_eq_some_iff.1 h).1
    omega
  · split
    · rename_i g hg
      split
      · rename_i h1
        rcases Nat.eq_zero_or_pos i with e | e
        · subst e; rw [hG.zero] at hg; cases hg; simp at h1
        · rcases hG.form i g e hg with h | h <;> omega
      · omega
    · omega
theorem vList_bound {gs : List Gt} (hG : Good gs) {m : Nat} (hm : m ≤ 100) {N : List Bool} (hN : N.length ≤ 1000) (n k : Nat) : ∀ x ∈ vList gs m N n k, -1000000 ≤ x ∧ x ≤ 1000000 := by
  intro x hx
  unfold vList at hx
  obtain ⟨i, _, rfl⟩ := List.mem_map.1 hx
  split
  · exact vOf_bound hG hm hN i
  · omega
theorem vOf_input {gs : List Gt} {m : Nat} {N : List Bool} {i : Nat} {g : Gt} (hg : gs[i]? = some g) (hn : N[i]? = some false) (hk : g.1 = 1) : vOf gs m N i = g.2.1 := by
  unfold vOf
  rw [if_neg (by rw [hn]; simp), hg]
  simp [hk]
theorem vOf_none {gs : List Gt} {m : Nat} {N : List Bool} {i : Nat} {g : Gt} (hg : gs[i]? = some g) (hn : N[i]? = some false) (hk : ¬ g.1 = 1) : vOf gs m N i = 0 := by
  unfold vOf
  rw [if_neg (by rw [hn]; simp), hg]
  simp [hk]
theorem vOf_need {gs : List Gt} {m : Nat} {N : List Bool} {i : Nat} (hn : N[i]? = some true) : vOf gs m N i = ((m + rankN N i : Nat) : Int) + 1 := by
  unfold vOf
  rw [if_pos hn]
  omega
theorem cls_no {gs : List Gt} {m : Nat} {N : List Bool} {k : Nat} (h : N[k]? = some false) : clsGo gs m N (k + 1) = clsGo gs m N k ∧ rankN N (k + 1) = rankN N k := by
  refine ⟨?_, by rw [rank_succ h]; rfl⟩
  show (if N[k]? = some true then _ else _) = _
  rw [if_neg (by rw [h]; simp)]
theorem cls_yes {gs : List Gt} {m : Nat} {N : List Bool} {k : Nat} (h : N[k]? = some true) : clsGo gs m N (k + 1) = clsGo gs m N k ++ triAt gs m N k ∧ rankN N (k + 1) = rankN N k + 1 := by
  refine ⟨?_, by rw [rank_succ h]; rfl⟩
  show (if N[k]? = some true then _ else _) = _
  rw [if_pos h]

/-- A post that lets nothing by but the normal end. -/
def onlyN (Q : Exit → Act → World → Prop) : Exit → Act → World → Prop
  | .normal, a, w => Q .normal a w
  | _, _, _ => False
theorem wp_onlyN {P : Program} {c : Code} {Q : Exit → Act → World → Prop} {a : Act} {w : World} (h : c.wp P (onlyN Q) a w) : c.wp P Q a w :=
  wp_mono h fun e a w hq => by
    cases e with
    | normal => exact hq
    | _ => exact hq.elim
theorem sets2 {w : World} {b : Nat} {u0 u1 : Value} (h0 : w.cell? ⟨b, 0, none⟩ = some u0) (h1 : w.cell? ⟨b, 1, none⟩ = some u1) (y z : Value) :
    ((w.setCell ⟨b, 0, none⟩ y).setCell ⟨b, 1, none⟩ z).cell? ⟨b, 0, none⟩ = some y ∧ ((w.setCell ⟨b, 0, none⟩ y).setCell ⟨b, 1, none⟩ z).cell? ⟨b, 1, none⟩ = some z := by
  have b0 := World.cell?_setCell_same w ⟨b, 0, none⟩ y h0
  have b1 : (w.setCell ⟨b, 0, none⟩ y).cell? ⟨b, 1, none⟩ = some u1 := by rw [World.cell?_setCell_other _ _ _ _ (ne_at (by decide))]; exact h1
  exact ⟨by rw [World.cell?_setCell_other _ _ _ _ (ne_at (by decide))]; exact b0, World.cell?_setCell_same _ _ _ b1⟩
/-- The loop's state. -/
structure TsL (T : TsB) (gs : List Gt) (m : Nat) (wr : World) (k : Nat) (D : List Dc) : Prop where
  st : ∃ v, TsS T wr ((m + rankN T.N k : Nat) : Int) (vList gs m T.N T.n k) v D
  cls : D.map (·.1) = clsGo gs m T.N k
  len : D.length ≤ 3 * k
set_option maxRecDepth 100000 in
set_option maxHeartbeats 8000000 in
theorem tse2_span (gs : List Gt) (r : Int) (m : Nat) (a : Option Addr) (c : Nat) (w : World) (h : GatesW w a c gs) (hG : Good gs) (hl : gs.length ≤ 1000) (hr : Ok gs r) (hr2 : 2 ≤ r) (hm : m ≤ 100) :
    Calls Tryd.prog 12 #[.agg #[.slice a gs.length c], .int .i64 r, .int .i64 (m : Int)] w fun e w' => ∃ a' c', e = .returned (cnfV ((tseP gs r m).1 : Int) a' (tseP gs r m).2.length c') ∧ Span w.heap.size w'.heap.size w' (fun W => ClsW W a' c' (tseP gs r m).2) ∧ w.grownBy w' none := by
  obtain ⟨n, hn⟩ : ∃ n, gs.length = n := ⟨_, rfl⟩
  have hq : (r / 2).toNat < gs.length := by have := hr.1; have := hr.2; omega
  obtain ⟨N, hN⟩ : ∃ N, needL gs (r / 2).toNat = N := ⟨_, rfl⟩
  have HND : Hid (Need gs (r / 2).toNat N) := Lib.hid (by rw [← hN]; exact need_of hG hq)
  have HTP : Hid (tseP gs r m = (m + cntN N, clsGo gs m N n ++ [[litN gs m N r]])) := Lib.hid (by unfold tseP; rw [if_neg (by omega), if_neg (by omega), hN, hn])
  rw [HTP.out]
  have HNN : Hid (N.length = n) := Lib.hid (by rw [HND.out.len, hn])
  have HNE : Hid (∀ U, w.grownBy U none → Calls Tryd.prog 31 #[.agg #[.slice a n c], .int .i64 r] U fun e w' => ∃ b, e = .returned (.slice (some ⟨b, 0, none⟩) n n) ∧ BArr w' b N ∧ U.heap.size ≤ b ∧ U.grownBy w' none) := Lib.hid (fun U hU => by
    have := needed_calls gs r a c U (h.grown hU) hG hl hr
    rw [hn, hN] at this
    exact this)
  have HA := Lib.hid h
  have HGD := Lib.hid (And.intro hG hr)
  have HN := Lib.hid hn
  rw [hn] at hl ⊢
  have hrn : r < 2 * (n : Int) := by rw [← hn]; exact hr.2
  have hg1 := World.grownBy_alloc w (.cells #[.slice a n c] 27) none
  have e1 := one_cell w (.slice a n c) 27
  obtain ⟨W1, hW1⟩ : ∃ W, w.alloc (.cells #[.slice a n c] 27) = W := ⟨_, rfl⟩
  rw [hW1] at hg1 e1
  have hg2 := World.grownBy_alloc W1 (.cells #[.int .i64 0, .slice none 0 0] 35) none
  have e2 := one_cells W1 (.int .i64 0) (.slice none 0 0) 35
  have ff2 : ∀ o, (W1.alloc (.cells #[.int .i64 0, .slice none 0 0] 35)).frozen? ⟨W1.heap.size, o, none⟩ = false := fun o => World.frozen?_alloc_new W1 _ _ o
  obtain ⟨W2, hW2⟩ : ∃ W, W1.alloc (.cells #[.int .i64 0, .slice none 0 0] 35) = W := ⟨_, rfl⟩
  rw [hW2] at hg2 e2 ff2
  have hmf := hmf
  have hlt : decide (r < 2) = false := decide_eq_false (by omega)
  have HZ := Lib.hid (And.intro hg1.size (And.intro e1.1 e2.1))
  obtain ⟨_, q0, q1, f0, f1⟩ := e2
  have HQ1 := Lib.hid (And.intro q0 q1)
  have c2 := hg2.cell e1.2.1 (by simp)
  have hpc : w.heap.size ≠ W1.heap.size := Nat.ne_of_lt e1.1
  have HG3 := Lib.hid (grown_own (World.grownBy.trans hg1 hg2) (grown_set W2 W1.heap.size 0 (.int .i64 (m : Int))) (fun k e => by cases e; exact hg1.size))
  have HC3 : Hid ((W2.setCell ⟨W1.heap.size, 0, none⟩ (.int .i64 (m : Int))).cell? ⟨w.heap.size, 0, none⟩ = some (.slice a n c)) := Lib.hid ((grown_set W2 W1.heap.size 0 (.int .i64 (m : Int))).cell c2 (some_ne hpc))
  have HF3 : Hid ((W2.setCell ⟨W1.heap.size, 0, none⟩ (.int .i64 (m : Int))).cell? ⟨W1.heap.size, 0, none⟩ = some (.int .i64 (m : Int)) ∧ (W2.setCell ⟨W1.heap.size, 0, none⟩ (.int .i64 (m : Int))).cell? ⟨W1.heap.size, 1, none⟩ = some (.slice none 0 0) ∧ ∀ o, (W2.setCell ⟨W1.heap.size, 0, none⟩ (.int .i64 (m : Int))).frozen? ⟨W1.heap.size, o, none⟩ = false) := Lib.hid ⟨World.cell?_setCell_same _ _ _ q0, by rw [World.cell?_setCell_other _ _ _ _ (ne_at (by decide))]; exact q1, fun o => by rw [World.frozen?_setCell]; exact ff2 o⟩
  have HS2 : Hid (W2.heap.size ≤ (W2.setCell ⟨W1.heap.size, 0, none⟩ (.int .i64 (m : Int))).heap.size) := Lib.hid (grown_set W2 W1.heap.size 0 (.int .i64 (m : Int))).size
  clear h hG hr hn hN hg1 hg2 e1 ff2 hq c2 hpc
  go_enter_defers Tryd.func12, Tryd.ntmps12
  go_upto_region 7 with fail
  obtain ⟨W3, hW3⟩ : ∃ z, W2.setCell ⟨W1.heap.size, 0, none⟩ (.int .i64 (m : Int)) = z := ⟨_, rfl⟩
  rw [hW3] at HG3 HC3 HF3 HS2 ⊢
  have HP : Hid (w.heap.size < W1.heap.size ∧ W1.heap.size < W3.heap.size) := Lib.hid ⟨HZ.out.2.1, by have := HZ.out.2.2; have := HS2.out; omega⟩
  clear hW3 hW2 hW1 q0 q1 f0 f1 hlt
  have c3 := HC3.out
  obtain ⟨i0, hi0, hz0, hz1, hz2⟩ := info_parts info3
  have hmk0 := run_make (P := Tryd.prog) W3 28 3 i0 (.int .i64 0) Tryd.underlying28 hi0 hz0 .i64 .i64 (n : Int) (n : Int) (by omega) (Int.le_refl _) (by rw [hz2]; omega) (by omega)
  rw [Int.toNat_natCast, hz1, Nat.mul_one, show (Value.int .i64 0).cells = #[Value.int .i64 0] from rfl] at hmk0
  have hia := IArr.made W3 n
  have hgm := World.grownBy_alloc W3 (.cells (madeCells #[.int .i64 0] n) 3) none
  obtain ⟨WM, hWM⟩ : ∃ z, W3.alloc (.cells (madeCells #[.int .i64 0] n) 3) = z := ⟨_, rfl⟩
  rw [hWM] at hmk0 hia hgm
  have hg4 := World.grownBy_alloc WM (.cells #[.slice (some ⟨W3.heap.size, 0, none⟩) n n] 28) none
  have e4 := one_cell WM (.slice (some ⟨W3.heap.size, 0, none⟩) n n) 28
  obtain ⟨W4, hW4⟩ : ∃ z, WM.alloc (.cells #[.slice (some ⟨W3.heap.size, 0, none⟩) n n] 28) = z := ⟨_, rfl⟩
  rw [hW4] at hg4 e4
  have hg5 := World.grownBy_alloc W4 (.cells #[.func (.func 29) #[] #[.pointer (some ⟨WM.heap.size, 0, none⟩)]] 45) none
  have e5 := one_cell W4 (.func (.func 29) #[] #[.pointer (some ⟨WM.heap.size, 0, none⟩)]) 45
  obtain ⟨W5, hW5⟩ : ∃ z, W4.alloc (.cells #[.func (.func 29) #[] #[.pointer (some ⟨WM.heap.size, 0, none⟩)]] 45) = z := ⟨_, rfl⟩
  rw [hW5] at hg5 e5
  have HGM := Lib.hid (And.intro hgm (And.intro hg4 hg5))
  have HIA := Lib.hid hia
  have H45 := Lib.hid (And.intro e4 e5)
  have HG35 : Hid (W3.grownBy W5 none) := Lib.hid (World.grownBy.trans hgm (World.grownBy.trans hg4 hg5))
  have HG5 : Hid (w.grownBy W5 none) := Lib.hid (World.grownBy.trans HG3.out HG35.out)
  have c5 := HG35.out.cell c3 (by simp)
  clear hia hgm hg4 e4 hg5 e5 hWM
  go_wp2_with fail
  refine (HNE.out W5 HG5.out).mono ?_
  rintro e W6 ⟨bN, rfl, hN6, hbN, hg6⟩
  clear hmk0 hW4 hW5 c3 c5
  obtain ⟨pc, hpc⟩ : ∃ z, w.heap.size = z := ⟨_, rfl⟩
  obtain ⟨pf, hpf⟩ : ∃ z, W1.heap.size = z := ⟨_, rfl⟩
  obtain ⟨bv, hbv⟩ : ∃ z, W3.heap.size = z := ⟨_, rfl⟩
  obtain ⟨pv, hpv⟩ : ∃ z, WM.heap.size = z := ⟨_, rfl⟩
  obtain ⟨pl, hpl⟩ : ∃ z, W4.heap.size = z := ⟨_, rfl⟩
  obtain ⟨B, hB⟩ : ∃ z, W6.heap.size = z := ⟨_, rfl⟩
  obtain ⟨T, hT⟩ : ∃ T : TsB, T = ⟨w, pc, pf, pv, pl, bv, bN, B, n, a, c, N⟩ := ⟨_, rfl⟩
  have HTE : Hid (T.W0 = w ∧ T.pc = pc ∧ T.pf = pf ∧ T.pv = pv ∧ T.pl = pl ∧ T.n = n ∧ T.N = N ∧ T.ga = a ∧ T.gc = c ∧ T.bv = bv ∧ T.bN = bN ∧ T.B = B) := Lib.hid (by subst hT; exact ⟨rfl, rfl, rfl, rfl, rfl, rfl, rfl, rfl, rfl, rfl, rfl, rfl⟩)
  have HOK : Hid T.Ok := Lib.hid (by
    subst hT
    have h1 := HP.out.1; have h2 := HP.out.2; have h3 := HGM.out.1.size; have h4 := H45.out.1.1; have h5 := H45.out.2.1
    have h6 : W3.heap.size < WM.heap.size := HIA.out.low
    have h7 := hN6.low
    exact ⟨by show w.heap.size ≤ pc; omega, by show pc < pf; omega, by show pf < bv; omega, by show bv < pv; omega, by show pv < pl; omega, by show pl < bN; omega, by show bN < B; omega⟩)
  have HL6 : Hid (TsL T gs m W6 0 []) := Lib.hid (by
    subst hT
    have g16 := World.grownBy.trans HG35.out hg6
    have gm6 := World.grownBy.trans HGM.out.2.1 (World.grownBy.trans HGM.out.2.2 hg6)
    have g46 := World.grownBy.trans HGM.out.2.2 hg6
    refine ⟨⟨.slice none 0 0, World.grownBy.trans HG5.out hg6, Nat.le_of_eq hB.symm, ?_, ?_, ?_, fun o => ?_, ?_, ?_, ?_, vList_len _ _ _ _ _, hN6, Out.start W6 B 28⟩, rfl, Nat.zero_le _⟩
    · show W6.cell? ⟨pc, 0, none⟩ = _; rw [← hpc]; exact g16.cell HC3.out (by simp)
    · show W6.cell? ⟨pf, 0, none⟩ = _
      rw [← hpf, show rankN N 0 = 0 from by simp [rankN]]; exact g16.cell HF3.out.1 (by simp)
    · show W6.cell? ⟨pf, 1, none⟩ = _; rw [← hpf]; exact g16.cell HF3.out.2.1 (by simp)
    · show W6.frozen? ⟨pf, o, none⟩ = _; rw [← hpf]; exact (grown_frozen g16 (lies_lt HF3.out.1) o).trans (HF3.out.2.2 o)
    · show W6.cell? ⟨pv, 0, none⟩ = some (.slice (some ⟨bv, 0, none⟩) n n); rw [← hpv, ← hbv]; exact g46.cell H45.out.1.2.1 (by simp)
    · show W6.cell? ⟨pl, 0, none⟩ = some (.func (.func 29) #[] #[.pointer (some ⟨pv, 0, none⟩)]); rw [← hpl, ← hpv]; exact hg6.cell H45.out.2.2.1 (by simp)
    · show IArr W6 bv (vList gs m N n 0)
      rw [← hbv, vList_zero]; exact HIA.out.grown gm6 (by simp))
  rw [hpc, hpf, hpv, hpl] at *
  clear hN6 hbN hg6 hpc hpf hbv hpv hpl hB hT
  go_wp2_with fail
  go_loopg [33] n (fun gk s33 wr => ∃ (k : Nat) (D : List Dc), s33 = .int .i64 (k : Int) ∧ gk = n - k ∧ k ≤ n ∧ TsL T gs m wr k D)
  case atStart => exact ⟨0, [], rfl, rfl, Nat.zero_le _, HL6.out⟩
  case round =>
    obtain ⟨k, D, rfl, hgk, hk, hL⟩ := hrel
    obtain ⟨wo, hwo⟩ : ∃ z, z = wr := ⟨_, rfl⟩
    rw [← hwo] at hL ⊢
    clear hwo
    obtain ⟨⟨v, hs⟩, hcl, hDl⟩ := hL
    have HI := Lib.hid (And.intro hgk (And.intro hcl hDl)); clear hgk hcl hDl
    obtain ⟨tW, tpc, tpf, tpv, tpl, tn, tN, tga, tgc, tbv, tbN, tB⟩ := HTE.out
    have c0 := hs.c0
    rw [tpc, tga, tn, tgc] at c0
    have n0 := hs.nd
    rw [tbN, tN] at n0
    have HGW : Hid (GatesW wo a c gs) := Lib.hid (by have := hs.grow; rw [tW] at this; exact HA.out.grown this)
    rw [tN] at hs HI
    have HS0 := Lib.hid hs
    by_cases hkn : k < n
    · have hkB : decide (k < n) = true := by simpa using hkn
      have hkI : (k : Int) < (n : Int) := by omega
      have hk0 : (0 : Int) ≤ (k : Int) := by omega
      obtain ⟨z, hz⟩ : ∃ z, N[k]? = some z := ⟨_, List.getElem?_eq_getElem (by rw [HNN.out]; exact hkn)⟩
      have n1 := n0.cells k z hz
      obtain ⟨g, hg⟩ : ∃ g, gs[k]? = some g := ⟨_, List.getElem?_eq_getElem (by rw [HN.out]; exact hkn)⟩
      obtain ⟨ba, oa, hae, x0, x1, x2⟩ := HGW.out.at hg
      have HZG := Lib.hid (And.intro hz hg)
      cases z with
      | true =>
        have HKG := Lib.hid (low_lt HGD.out.1 hg (HND.out.ands k hz))
        have kk : (g.1 == 1) = false := by rw [HKG.out.1]; rfl
        have hrk := rank_le N k
        have HEM := emit_calls T HOK.out gs wo _ _ v D hs (by rw [tW, tga, tgc]; exact HA.out) (by rw [HN.out, tn]) (by rw [tn]; exact hl) k g hg (by rw [tn]; have := HKG.out; omega) (by rw [tn]; have := HKG.out; omega) (by omega)
          (by rw [tn, vList_set hkn (vOf_need hz).symm]; exact vList_bound HGD.out.1 hm (by rw [HNN.out]; exact hl) n (k + 1)) (by have := HI.out.2.2; omega)
        rw [tn, vList_set hkn (vOf_need hz).symm, tpc, tpf, tpv, tpl] at HEM
        have HEM := Lib.hid HEM
        have HCY := Lib.hid (cls_yes (gs := gs) (m := m) hz)
        have HLA : Hid (litV' (vList gs m N n (k + 1)) g.2.1 = litN gs m N (gateA gs k) ∧ litV' (vList gs m N n (k + 1)) g.2.2 = litN gs m N (gateB gs k)) := Lib.hid (by
          unfold gateA gateB
          rw [hg]
          exact ⟨vList_lit (by have := HKG.out; omega) (by have := HKG.out; omega), vList_lit (by have := HKG.out; omega) (by have := HKG.out; omega)⟩)
        subst hae
        clear hs n0 hz hg tW tpc tpf tpv tpl tn tN tga tgc tbv tbN tB hrk
        go_wp2_with fail
        refine HEM.out.mono ?_
        rintro e w7 ⟨rfl, v7, D7, hs7, hD7⟩
        have HS7 : Hid (TsL T gs m w7 (k + 1) (D ++ D7)) := Lib.hid ⟨⟨v7, by rw [HTE.out.2.2.2.2.2.1, HTE.out.2.2.2.2.2.2.1, HCY.out.2, show ((m + (rankN N k + 1) : Nat) : Int) = ((m + rankN N k : Nat) : Int) + 1 by omega]; exact hs7⟩, by
          rw [List.map_append, hD7, HI.out.2.1, HTE.out.2.2.2.2.2.2.1, HCY.out.1, HLA.out.1, HLA.out.2]
          unfold triAt
          rw [show (((m + rankN N k + 1 : Nat) : Int)) = ((m + rankN N k : Nat) : Int) + 1 by omega], by
          have := HI.out.2.2
          have h7 : D7.length = 3 := by rw [← List.length_map (f := (·.1)), hD7]; rfl
          rw [List.length_append]; omega⟩
        clear hs7 hD7
        go_wp2_with fail
        go_roundg (n - (k + 1))
        case measure => rw [HI.out.1]; omega
        case rel => exact ⟨k + 1, D ++ D7, rfl, rfl, by omega, HS7.out⟩
      | false =>
        have HCN := Lib.hid (cls_no (gs := gs) (m := m) hz)
        by_cases hk1 : g.1 = 1
        · have kk : (g.1 == 1) = true := by simpa using hk1
          have HV : Hid (g.2.1 = vOf gs m N k) := Lib.hid (vOf_input hg hz hk1).symm
          have v0 := hs.v0
          rw [tpv, tbv, tn] at v0
          obtain ⟨z0, hz0⟩ : ∃ z, (vList gs m N T.n k)[k]? = some z := ⟨_, List.getElem?_eq_getElem (by rw [vList_len, tn]; exact hkn)⟩
          have a1 := hs.arr.cells k z0 hz0
          have a2 := hs.arr.fr k
          have hp := hs.put HOK.out (i := k) (by rw [tn]; exact hkn) g.2.1
          rw [tbv] at a1 a2 hp
          have HP7 : Hid (TsL T gs m (wo.setCell ⟨bv, k, none⟩ (.int .i64 g.2.1)).drew (k + 1) D) := Lib.hid ⟨⟨v, by
            have hp2 := hp.grown (grown_drew _ none)
            rw [tn, vList_set hkn HV.out] at hp2
            rw [tn, tN, HCN.out.2]
            exact hp2⟩, by rw [HI.out.2.1, tN, HCN.out.1], by have := HI.out.2.2; omega⟩
          subst hae
          clear hs n0 hz hg tW tpc tpf tpv tpl tn tN tga tgc tbv tbN tB hz0 hp hk1
          go_upto_region 14 with fail
          go_region
          obtain ⟨w7, hw7⟩ : ∃ z, (wo.setCell ⟨bv, k, none⟩ (.int .i64 g.2.1)).drew = z := ⟨_, rfl⟩
          rw [hw7] at HP7 ⊢
          clear hw7 a1 a2 v0 x0 x1 x2 c0 n1
          go_wp2_with fail
          go_roundg (n - (k + 1))
          case measure => rw [HI.out.1]; omega
          case rel => exact ⟨k + 1, D, rfl, rfl, by omega, HP7.out⟩
        · have kk : (g.1 == 1) = false := by simpa using hk1
          have HV := Lib.hid (vList_same (gs := gs) (m := m) hkn (vOf_none hg hz hk1))
          have HP7 : Hid (TsL T gs m wo (k + 1) D) := Lib.hid ⟨⟨v, by rw [tn, tN, HCN.out.2, HV.out]; rw [tn] at hs; exact hs⟩, by rw [HI.out.2.1, tN, HCN.out.1], by have := HI.out.2.2; omega⟩
          subst hae
          clear hs n0 hz hg tW tpc tpf tpv tpl tn tN tga tgc tbv tbN tB hk1
          go_wp2_with fail
          go_roundg (n - (k + 1))
          case measure => rw [HI.out.1]; omega
          case rel => exact ⟨k + 1, D, rfl, rfl, by omega, HP7.out⟩
    · have hie : k = n := by omega
      subst hie
      have hkB : decide (k < k) = false := by simp
      have hrq : (r / 2).toNat < k := by omega
      have HLR : Hid (litV' (vList gs m N k k) r = litN gs m N r) := Lib.hid (vList_lit hrq hrq)
      have f1 := hs.f1
      rw [tpf] at f1
      have l0 := hs.l0
      rw [tpl, tpv] at l0
      have HFL := Lib.hid (And.intro f1 l0)
      have HLI : Hid (∀ U, wo.grownBy U none → Calls Tryd.prog 29 #[.int .i64 r, .pointer (some ⟨pv, 0, none⟩)] U fun e w' => e = .returned (.int .i64 (litN gs m N r)) ∧ U.grownBy w' none) := Lib.hid (fun U hU => by
        have h1 := hs.grown hU
        have h2 := literal_calls (vList gs m N T.n k) T.pv T.bv T.n r U h1.v0 h1.arr (by rw [vList_len]) (by rw [tn]; exact hl) (by rw [tn]; omega) (vList_bound HGD.out.1 hm (by rw [HNN.out]; exact hl) _ _)
        rw [tn, tpv, HLR.out] at h2
        exact h2.mono (fun _ _ h => ⟨h.1, by rw [h.2]; exact grown_refl _ _⟩))
      have HPL : Hid (∀ Wh : World, T.W0.grownBy Wh none → True) := Lib.hid (fun _ _ => trivial)
      obtain ⟨lr, hlr⟩ : ∃ z, litN gs m N r = z := ⟨_, rfl⟩
      rw [hlr] at HLI
      have HLRE := Lib.hid hlr
      obtain ⟨p, hp⟩ : ∃ p, D.length = p := ⟨_, rfl⟩
      obtain ⟨Dc0, hDc⟩ : ∃ z, D.flatMap clC = z := ⟨_, rfl⟩
      have HPD := Lib.hid (And.intro hp hDc)
      have hpl : p ≤ 100000 := by have := HI.out.2.2; omega
      obtain ⟨j0, hj0, hy0, hy1, hy2⟩ := info_parts info28
      have HTT := Lib.hid (And.intro tpf (And.intro tpl (And.intro tpv (And.intro tn (And.intro tN tW)))))
      clear hs n0 tW tpc tpf tpv tpl tn tN tga tgc tbv tbN tB hrq hlr hp hDc f1 l0 c0
      go_upto_region 18 with fail
      refine wp_onlyN ?_
      have HS := Lib.hid (fun (Wh : World) (hWh : wo.grownBy Wh none) => (hWh.cell HFL.out.2 (by simp) : (fun Wh : World => Wh.cell? ⟨pl, 0, none⟩ = some (.func (.func 29) #[] #[.pointer (some ⟨pv, 0, none⟩)])) Wh))
      have HT := Lib.hid (fun (Wh : World) (hWh : wo.grownBy Wh none) => (hWh.cell HFL.out.1 (by simp) : (fun Wh : World => Wh.cell? ⟨pf, 1, none⟩ = some v) Wh))
      have hdr : wo.grownBy wo.drew none := ⟨rfl, rfl, rfl, Nat.le_refl _, fun _ _ _ => rfl⟩
      refine wp_region_gone_drew (S := (fun Wh : World => Wh.cell? ⟨pl, 0, none⟩ = some (.func (.func 29) #[] #[.pointer (some ⟨pv, 0, none⟩)]))) (T := (fun Wh : World => Wh.cell? ⟨pf, 1, none⟩ = some v)) (m := 9) (by kernel_rfl) ⟨HS.out _ hdr, HT.out _ hdr⟩ (fun hHeld => ?_)
      refine wpAnyG_take (i := 0) (oi := { dst := some 59, op := Op.fieldAddr 35 (Operand.tmp 6) 1, type := 0, pos := "cnf.go:98", after := #[], guard := none }) (v := ?_) rfl (by decide) (by kernel_rfl) (by kernel_rfl) (by kernel_rfl) (fun _ _ _ h => h) (Or.inl ⟨by rfl, ?_⟩) (by assumption) ?_
      rotate_left 1
      · (intro W hSW; (try dsimp only at hSW); first | (go_simp; done) | (go_simp; with_reducible rfl))
      try simp only [Act.put, List.setIfInBounds_toArray, List.set_cons_zero, List.set_cons_succ]
      refine wpAnyG_takeT (i := 1) (oi := { dst := some 60, op := Op.load 33 (Operand.tmp 59), type := 33, pos := "cnf.go:98", after := #[{ on := 0, ground := Ground.data }], guard := none }) (v := ?_) rfl rfl (by kernel_rfl) (by decide) (by kernel_rfl) (by kernel_rfl) (by kernel_rfl) (by kernel_rfl) (fun _ _ _ h => h) (Or.inl ⟨by rfl, ?_⟩) (by assumption) ?_
      rotate_left 1
      · (intro W hSW; (try dsimp only at hSW); first | (go_simp; done) | (go_simp; with_reducible rfl))
      try simp only [Act.put, List.setIfInBounds_toArray, List.set_cons_zero, List.set_cons_succ]
      refine wpAnyG_take (i := 2) (oi := { dst := some 61, op := Op.load 45 (Operand.tmp 8), type := 45, pos := "cnf.go:98", after := #[], guard := none }) (v := ?_) rfl (by decide) (by kernel_rfl) (by kernel_rfl) (by kernel_rfl) (fun _ _ _ h => h) (Or.inl ⟨by rfl, ?_⟩) (by assumption) ?_
      rotate_left 1
      · (intro W hSW; (try dsimp only at hSW); first | (go_simp; done) | (go_simp; with_reducible rfl))
      try simp only [Act.put, List.setIfInBounds_toArray, List.set_cons_zero, List.set_cons_succ]
      refine wpAnyG_take (i := 3) (oi := { dst := some 62, op := Op.move (Operand.tmp 1), type := 3, pos := "cnf.go:98", after := #[], guard := none }) (v := ?_) rfl (by decide) (by kernel_rfl) (by kernel_rfl) (by kernel_rfl) (fun _ _ _ h => h) (Or.inl ⟨by rfl, ?_⟩) (by assumption) ?_
      rotate_left 1
      · (intro W hSW; (try dsimp only at hSW); first | (go_simp; done) | (go_simp; with_reducible rfl))
      try simp only [Act.put, List.setIfInBounds_toArray, List.set_cons_zero, List.set_cons_succ]
      refine wpAnyG_ready (rs := [4]) (by kernel_rfl) (by simp) ?_
      refine (AllReadyG.cons (o := { dst := some 63, op := Op.call { callee := Callee.value (Operand.tmp 61), args := #[Operand.tmp 62], argTypes := #[3] }, type := 3, pos := "cnf.go:98", after := #[{ on := 2, ground := Ground.data }, { on := 3, ground := Ground.data }], guard := none }) rfl (fun K hK => ?_) AllReadyG.nil)
      rw [if_pos (by rfl)]
      go_simp
      go_at_call 29
      refine (HLI.out _ hdr).mono ?_
      rintro e wc1 ⟨rfl, gc1⟩
      have hgr1 := World.grownBy.trans hdr gc1
      go_wp2_with fail
      refine hK.out _ _ ⟨HS.out _ hgr1, .inr (HT.out _ hgr1)⟩ (fun hHeld => ?_)
      clear hK K
      try simp only [Act.put, List.setIfInBounds_toArray, List.set_cons_zero, List.set_cons_succ]
      refine wpAnyG_ready (rs := [5]) (by kernel_rfl) (by simp) ?_
      refine (AllReadyG.cons (o := { dst := some 64, op := Op.buildSlice 28 1 #[(0, Operand.tmp 63)], type := 28, pos := "cnf.go:98", after := #[{ on := 4, ground := Ground.data }], guard := none }) rfl (fun K hK => ?_) AllReadyG.nil)
      rw [if_pos (by rfl)]
      go_simp
      have s5 := row_span wc1 [lr] 1 rfl
      have g5 := World.grownBy.trans hgr1 (World.grownBy_alloc wc1 (.cells (intCells [lr]).toArray 3) none)
      have g5a := World.grownBy_alloc wc1 (.cells (intCells [lr]).toArray 3) none
      obtain ⟨E5, hE5⟩ : ∃ z, wc1.alloc (.cells #[.int .i64 lr] 3) = z := ⟨_, rfl⟩
      rw [show wc1.alloc (.cells (intCells [lr]).toArray 3) = E5 from hE5] at s5 g5 g5a
      rw [hE5]
      refine hK.out _ _ ⟨HS.out _ g5, .inr (HT.out _ g5)⟩ (fun hHeld => ?_)
      clear hK K
      try simp only [Act.put, List.setIfInBounds_toArray, List.set_cons_zero, List.set_cons_succ]
      refine wpAnyG_ready (rs := [6]) (by kernel_rfl) (by simp) ?_
      refine (AllReadyG.cons (o := { dst := some 65, op := Op.buildSlice 33 1 #[(0, Operand.tmp 64)], type := 33, pos := "cnf.go:98", after := #[{ on := 5, ground := Ground.data }], guard := none }) rfl (fun K hK => ?_) AllReadyG.nil)
      rw [if_pos (by rfl)]
      go_simp
      have nw6 := cell_one_new E5 (.slice (some ⟨wc1.heap.size, 0, none⟩) 1 1) 28
      have g6a := World.grownBy_alloc E5 (.cells #[(.slice (some ⟨wc1.heap.size, 0, none⟩) 1 1)] 28) none
      have g6 := World.grownBy.trans g5 g6a
      obtain ⟨E6, hE6⟩ : ∃ z, E5.alloc (.cells #[(.slice (some ⟨wc1.heap.size, 0, none⟩) 1 1)] 28) = z := ⟨_, rfl⟩
      rw [hE6] at nw6 g6 g6a ⊢
      refine hK.out _ _ ⟨HS.out _ g6, .inr (HT.out _ g6)⟩ (fun hHeld => ?_)
      clear hK K
      try simp only [Act.put, List.setIfInBounds_toArray, List.set_cons_zero, List.set_cons_succ]
      refine wpAnyG_ready (rs := [7]) (by kernel_rfl) (by simp) ?_
      refine (AllReadyG.cons (o := { dst := some 66, op := Op.call { callee := Callee.builtin Builtin.append, args := #[Operand.tmp 60, Operand.tmp 65], argTypes := #[33, 33] }, type := 33, pos := "cnf.go:98", after := #[{ on := 1, ground := Ground.data }, { on := 6, ground := Ground.data }, { on := 4, ground := Ground.chain }], guard := none }) rfl (fun K hK => ?_) AllReadyG.nil)
      have hs6 := HS0.out.grown g6
      have hrw := hs6.row.own
      rw [HPD.out.1, HPD.out.2] at hrw
      refine ready_append_g 33 28 (.tmp 60) (.tmp 65) rfl rfl Tryd.underlying33 hj0 hy0 hy1 hy2 rfl (by decide) (by omega) T.B v p Dc0 rfl hrw ⟨E5.heap.size, 0, none⟩ [.slice (some ⟨wc1.heap.size, 0, none⟩) 1 1] rfl rfl nw6 (fun u hu => by simp at hu; subst hu; rfl) (by omega) hs6.size (fun v7 w7 hown7 hgrow7 hat7 => ?_)
      obtain ⟨rgA, rcA, rfl⟩ := own_shape hown7
      have ne7 : some pf ≠ v.ownBlock := fun e => by have h1 := (HS0.out.row.own.lt pf e.symm).1; have h2 := HTT.out.1; have h3 := HOK.out.o2; have h4 := HOK.out.o3; have h5 := HOK.out.o4; have h6 := HOK.out.o5; have h7 := HOK.out.o6; omega
      have ne8 : some pl ≠ v.ownBlock := fun e => by have h1 := (HS0.out.row.own.lt pl e.symm).1; have h2 := HTT.out.2.1; have h6 := HOK.out.o5; have h7 := HOK.out.o6; omega
      have r1 := hgrow7.cell (g6.cell HFL.out.1 (by simp)) ne7
      have r2 : w7.frozen? ⟨pf, 1, none⟩ = false := (World.frozen?_of_block (a := ⟨pf, 1, none⟩) (hgrow7.block pf (lies_lt (g6.cell HFL.out.1 (by simp))) ne7)).trans (by have := hs6.ff 1; rw [HTT.out.1] at this; exact this)
      have r3 := hgrow7.cell (g6.cell HFL.out.2 (by simp)) ne8
      have hpush := HS0.out.push HOK.out g6 (ds := [([lr], some ⟨wc1.heap.size, 0, none⟩, 1)]) (fun d hd => by simp only [List.mem_cons, List.not_mem_nil, or_false] at hd; subst hd; exact ⟨_, _, s5.grown g6a, World.grownBy.size hgr1⟩) (by rw [HPD.out.1, HPD.out.2]; exact hown7) hgrow7 hat7
      rw [HTT.out.1] at hpush
      refine hK.out _ _ ⟨r3, .inr r1⟩ (fun hHeld => ?_)
      clear hK K
      try simp only [Act.put, List.setIfInBounds_toArray, List.set_cons_zero, List.set_cons_succ]
      refine wpAnyG_take (i := 8) (oi := { dst := some 67, op := Op.fieldAddr 35 (Operand.tmp 6) 1, type := 0, pos := "cnf.go:98", after := #[{ on := 0, ground := Ground.phase }, { on := 1, ground := Ground.phase }, { on := 2, ground := Ground.phase }, { on := 3, ground := Ground.phase }, { on := 4, ground := Ground.phase }, { on := 5, ground := Ground.phase }, { on := 6, ground := Ground.phase }, { on := 7, ground := Ground.phase }], guard := none }) (v := ?_) rfl (by decide) (by kernel_rfl) (by kernel_rfl) (by kernel_rfl) (fun _ _ _ h => h) (Or.inl ⟨by rfl, ?_⟩) (by assumption) ?_
      rotate_left 1
      · (intro W hSW; (try dsimp only at hSW); first | (go_simp; done) | (go_simp; with_reducible rfl))
      try simp only [Act.put, List.setIfInBounds_toArray, List.set_cons_zero, List.set_cons_succ]
      refine wpAnyG_ready (rs := [9]) (by kernel_rfl) (by simp) ?_
      refine (AllReadyG.cons (o := { dst := none, op := Op.store 33 (Operand.tmp 67) (Operand.tmp 66), type := 0, pos := "cnf.go:98", after := #[{ on := 8, ground := Ground.data }, { on := 7, ground := Ground.data }, { on := 7, ground := Ground.chain }, { on := 0, ground := Ground.phase }, { on := 1, ground := Ground.phase }, { on := 2, ground := Ground.phase }, { on := 3, ground := Ground.phase }, { on := 4, ground := Ground.phase }, { on := 5, ground := Ground.phase }, { on := 6, ground := Ground.phase }, { on := 7, ground := Ground.phase }], guard := none }) rfl (fun K hK => ?_) AllReadyG.nil)
      rw [if_pos (by rfl)]
      go_simp
      obtain ⟨WF, hWF⟩ : ∃ z, w7.setCell ⟨pf, 1, none⟩ (.slice rgA (p + 1) rcA) = z := ⟨_, rfl⟩
      have gWF : w7.grownBy WF (some pf) := by rw [← hWF]; exact grown_set _ _ _ _
      rw [hWF] at hpush ⊢
      have n9 : pl ≠ pf := by have h1 := HTT.out.1; have h2 := HTT.out.2.1; have h3 := HOK.out.o2; have h4 := HOK.out.o3; have h5 := HOK.out.o4; omega
      have r4 := gWF.cell r3 (some_ne n9)
      refine hK.out _ _ ⟨r4, .inl (by kernel_rfl)⟩ (fun hHeld => ?_)
      clear hK K
      try simp only [Act.put, List.setIfInBounds_toArray, List.set_cons_zero, List.set_cons_succ]
      refine wpAnyG_done (by kernel_rfl) ?_ _
      have hEND := g6
      clear hHeld
      simp only [onlyN]
      have HPU := Lib.hid hpush
      have u0 := hpush.f0
      have u1 := hpush.f1
      have uf := hpush.ff
      rw [HTT.out.1] at u0 u1 uf
      have uf0 := uf 0
      have uf1 := uf 1
      obtain ⟨ac, cc, ev, hcw⟩ := OutC.cls hpush.row
      have HCW := Lib.hid hcw
      have HEV := Lib.hid ev
      have HGW7 := Lib.hid hpush.grow
      clear hpush hcw ev uf r1 r2 r3 r4 HS HT hEND hrw hs6 nw6
      obtain ⟨tot, htot⟩ : ∃ q, m + rankN N k = q := ⟨_, rfl⟩
      rw [htot] at u0
      have HTOT := Lib.hid htot
      clear htot
      have HFF := Lib.hid (sets2 u0 u1 (.int .i64 (tot : Int)) (.slice rgA (p + 1) rcA))
      have HLO : Hid (w.heap.size ≤ pf ∧ pf < T.B) := Lib.hid (by have h0 := HOK.out.lo; rw [HTT.out.2.2.2.2.2] at h0; have h1 := HTT.out.1; have h2 := HOK.out.o1; have h3 := HOK.out.o2; have h4 := HOK.out.o3; have h5 := HOK.out.o4; have h6 := HOK.out.o5; have h7 := HOK.out.o6; omega)
      have HMP : Hid ((D ++ [(([lr], some ⟨wc1.heap.size, 0, none⟩, 1) : Dc)]).map (fun x => x.1) = clsGo gs m N k ++ [[litN gs m N r]]) := Lib.hid (by rw [List.map_append, HI.out.2.1, HLRE.out]; rfl)
      rw [HMP.out] at HCW HEV
      have HCN : Hid (m + cntN N = tot) := Lib.hid (by unfold cntN; rw [HNN.out]; exact HTOT.out)
      go_wp2_with fail
      obtain ⟨WZ, hWZ⟩ : ∃ z, (WF.setCell ⟨pf, 0, none⟩ (.int .i64 (tot : Int))).setCell ⟨pf, 1, none⟩ (.slice rgA (p + 1) rcA) = z := ⟨_, rfl⟩
      have HGZ : Hid (WF.grownBy WZ (some pf)) := Lib.hid (by rw [← hWZ]; exact (grown_set _ _ _ _).trans (grown_set _ _ _ _))
      rw [hWZ] at HFF ⊢
      refine leaves_cons (f := 28) (args := #[.pointer (some ⟨pf, 0, none⟩)]) (by simp) (by simp [go_sem]) ?_
      refine (catch28_idle _ _).mono ?_
      rintro e u' w'' ⟨rfl, rfl, rfl⟩
      have hev := HEV.out
      injection hev with h1 h2 h3
      subst h1 h3
      refine ⟨_, res12 _ _ pf _ rgA (p + 1) rcA rfl HFF.out.1 HFF.out.2, rgA, rcA, by rw [h2, HCN.out], ?_, ?_⟩
      · exact (HCW.out.off HGZ.out (fun x e => by cases e; exact .inl HLO.out.2)).wide (by have := HLO.out; omega) HGZ.out.size (Nat.le_refl _)
      · have h9 := HGW7.out
        rw [HTT.out.2.2.2.2.2] at h9
        exact grown_own h9 HGZ.out (fun x e => by cases e; exact HLO.out.1)
end Go.Proofs.YthkjjiijjedipaaDoor

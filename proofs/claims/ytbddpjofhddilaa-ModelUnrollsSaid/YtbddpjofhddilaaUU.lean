/- Full. -/
import Derived.Test.YtbddpjofhddilaaUT
namespace Go.Proofs.Ytbddpjofhddilaa
open Go.RowKit Go.Shelf
attribute [local go_sem] Oper.semAt_some

/-- Full's columns fit: between one and three sorts. -/
def fits (m : Nat) (ss : List Int) : Bool := decide (ss.length ≠ 0 ∧ ss.length ≤ 3 ∧ ∀ s ∈ ss, 0 ≤ s ∧ s < (m : Int))
def fullK (m : Nat) (ss : List Int) : Nat := if fits m ss then ss.length else 0
def fullL (zs : List Nat) (ss : List Int) : List Int := if fits zs.length ss then ints (digs zs 0 (ss.map Int.toNat)) else []

theorem results28 (tmps : Array Value) (w : World) (b : Nat) (a : Option Addr) (n c : Nat) (x : Int) (ht : tmps.getD 4 undef = .pointer (some ⟨b, 0, none⟩)) (h0 : w.cell? ⟨b, 0, none⟩ = some (.int .i64 x)) (h1 : w.cell? ⟨b, 1, none⟩ = some (.slice a n c)) :
    (results Try.f65 tmps).run Try.prog w = .ok (.agg #[.int .i64 x, .slice a n c]) w := by
  have ht' : tmps[4]?.getD undef = .pointer (some ⟨b, 0, none⟩) := by simpa using ht
  simp [results, ht', go_sem, h0, h1, Result.andThen]

theorem fits_not {N : Nat} {ss : List Int} {s : Int} (hs : s ∈ ss) (h : s < 0 ∨ (N : Int) ≤ s) : fits N ss = false := by
  simp only [fits, decide_eq_false_iff_not]
  intro hq
  have := hq.2.2 s hs
  omega
/-- What Full answers of these columns. -/
def FullR (w : World) (zs : List Nat) (N : Nat) (ss : List Int) (e : Ending) (w' : World) : Prop :=
  ∃ ra rc, e = .returned (.agg #[.int .i64 (fullK N ss : Nat), .slice ra (fullL zs ss).length rc]) ∧ Ints w' ra rc (fullL zs ss) ∧ w.grownBy w' none
theorem full_zero {w W : World} {zs : List Nat} {N : Nat} {ss : List Int} (hN : zs.length = N) (hf : fits N ss = false) (hg : w.grownBy W none) : FullR w zs N ss (.returned (.agg #[.int .i64 0, .slice none 0 0])) W :=
  ⟨none, 0, by simp [fullK, fullL, hf, hN], by simp only [fullL, hN, hf]; exact ⟨Nat.le_refl _, .inl ⟨rfl, rfl, rfl⟩⟩, hg⟩
set_option maxRecDepth 100000 in
set_option maxHeartbeats 4000000 in
theorem full_calls (zs : List Nat) (a : Option Addr) (c : Nat) (st : Int) (ss : List Int) (ta : Option Addr) (tc : Nat) (w : World) (h : Nums w a c zs) (hz : ∀ z ∈ zs, z ≤ 5) (hl : zs.length ≤ 4) (ht : Ints w ta tc ss) (htl : ss.length ≤ 1000) :
    Calls Try.prog 65 #[.agg #[.slice a zs.length c, .int .i64 st], .slice ta ss.length tc] w (FullR w zs zs.length ss) := by
  obtain ⟨N, hN⟩ : ∃ N, zs.length = N := ⟨_, rfl⟩
  obtain ⟨k, hk⟩ : ∃ k, ss.length = k := ⟨_, rfl⟩
  have HH := Lib.hid (And.intro h (And.intro hz (And.intro hl (And.intro ht (And.intro hN hk)))))
  rw [hN] at hl ⊢
  rw [hk] at htl ⊢
  clear h hz ht hN hk
  obtain ⟨i0, hi0, hz0, hz1, hz2⟩ := info_parts info3
  refine callsIn_wide (n := 3) |>.1 ?_
  refine callsIn_of_wp_marks Try.func65 rfl trivial ?_ rfl
  simp only [Try.ntmps65, List.size_toArray, List.length_cons, List.length_nil, Nat.reduceAdd, Nat.reduceSub, Array.replicate_succ, Array.replicate_zero, List.push_toArray, List.append_toArray, List.nil_append, List.cons_append]
  refine wpIn_wide.2 ?_
  by_cases hk0 : k = 0
  · have dk : ((k : Int) == 0) = true := by simpa using hk0
    go_wp2_with fail
    exact ⟨_, results28 _ _ (w.heap.size + 1) none 0 0 0 rfl (by go_simp) (by go_simp), full_zero HH.out.2.2.2.2.1 (by simp only [fits, HH.out.2.2.2.2.2, hk0]; simp) ((World.grownBy_alloc _ _ none).trans (World.grownBy_alloc _ _ none))⟩
  by_cases hk3 : 3 < k
  · have dk : ((k : Int) == 0) = false := by simpa using hk0
    have dk3 : decide (3 < (k : Int)) = true := by simp; omega
    go_wp2_with fail
    exact ⟨_, results28 _ _ (w.heap.size + 1) none 0 0 0 rfl (by go_simp) (by go_simp), full_zero HH.out.2.2.2.2.1 (by simp only [fits, HH.out.2.2.2.2.2, decide_eq_false_iff_not]; intro hq; omega) ((World.grownBy_alloc _ _ none).trans (World.grownBy_alloc _ _ none))⟩
  have dk : ((k : Int) == 0) = false := by simpa using hk0
  have dk3 : decide (3 < (k : Int)) = false := by simp; omega
  go_wp2_with fail
  obtain ⟨b, hb⟩ : ∃ b, w.heap.size = b := ⟨_, rfl⟩
  obtain ⟨W0, hW0⟩ : ∃ W0, (w.alloc (.cells #[.slice a N c, .int .i64 st] 30)).alloc (.cells #[.int .i64 0, .slice none 0 0] 53) = W0 := ⟨_, rfl⟩
  have hg0 : w.grownBy W0 none := by rw [← hW0]; exact (World.grownBy_alloc _ _ none).trans (World.grownBy_alloc _ _ none)
  have c0 : W0.cell? ⟨b, 0, none⟩ = some (.slice a N c) := by rw [← hW0, ← hb]; clear hW0 hb; go_simp
  have c1 : W0.cell? ⟨b, 1, none⟩ = some (.int .i64 st) := by rw [← hW0, ← hb]; clear hW0 hb; go_simp
  have e0 : W0.cell? ⟨b + 1, 0, none⟩ = some (.int .i64 0) := by rw [← hW0, ← hb]; clear hW0 hb; go_simp
  have e1 : W0.cell? ⟨b + 1, 1, none⟩ = some (.slice none 0 0) := by rw [← hW0, ← hb]; clear hW0 hb; go_simp
  have ef : W0.frozen? ⟨b + 1, 0, none⟩ = false := by rw [← hW0, ← hb]; clear hW0 hb; go_simp
  have ef1 : W0.frozen? ⟨b + 1, 1, none⟩ = false := by rw [← hW0, ← hb]; clear hW0 hb; go_simp
  have hs0 : W0.heap.size = b + 2 := by rw [← hW0, ← hb]; simp
  rw [hW0]
  have HW0 := Lib.hid (And.intro hg0 (And.intro hs0 hb))
  rw [hb]
  clear hW0 hg0 hs0 hb
  go_loopg [20] k (fun gk s20 wr => ∃ i : Nat, s20 = .int .i64 (i : Int) ∧ gk = k - i ∧ i ≤ k ∧ wr = W0 ∧ ∀ s ∈ ss.take i, 0 ≤ s ∧ s < (N : Int))
  case atStart => exact ⟨0, rfl, rfl, Nat.zero_le _, rfl, fun s hs => by simp at hs⟩
  case round =>
    obtain ⟨i, rfl, hgk, hik, rfl, hall⟩ := hrel
    have HGK := Lib.hid (And.intro hgk (And.intro hik hall)); clear hgk hall
    by_cases hi : i < k
    · have hiB : decide (i < k) = true := by simpa using hi
      have hiI : (i : Int) < (k : Int) := by omega
      obtain ⟨s, hs⟩ : ∃ s, ss[i]? = some s := ⟨_, List.getElem?_eq_getElem (by have := HH.out.2.2.2.2.2; omega)⟩
      obtain ⟨tb, to, rfl, hcell⟩ : ∃ b o, ta = some ⟨b, o, none⟩ ∧ wr.cell? ⟨b, o + i, none⟩ = some (.int .i64 s) := by
        obtain ⟨_, ⟨h, _⟩ | ⟨b, o, ha, _, hc⟩⟩ := HH.out.2.2.2.1.grown HW0.out.1
        · rw [h] at hs; simp at hs
        · exact ⟨b, o, ha, hc i s hs⟩
      have HS := Lib.hid hs; clear hs
      by_cases hs0 : s < 0
      · have ds : decide (s < 0) = true := by simpa using hs0
        go_wp2_with fail
        have hb0 : (wr.setCell ⟨b + 1, 0, none⟩ (.int .i64 0)).cell? ⟨b + 1, 1, none⟩ = some (.slice none 0 0) := by
          rw [World.cell?_setCell_other _ _ _ _ (by intro e; injection e with _ e1; omega)]; exact e1
        have hb1 : ((wr.setCell ⟨b + 1, 0, none⟩ (.int .i64 0)).setCell ⟨b + 1, 1, none⟩ (.slice none 0 0)).cell? ⟨b + 1, 0, none⟩ = some (.int .i64 0) := by
          rw [World.cell?_setCell_other _ _ _ _ (by intro e; injection e with _ e1; omega)]; exact World.cell?_setCell_same _ _ _ e0
        have hb2 : ((wr.setCell ⟨b + 1, 0, none⟩ (.int .i64 0)).setCell ⟨b + 1, 1, none⟩ (.slice none 0 0)).cell? ⟨b + 1, 1, none⟩ = some (.slice none 0 0) := World.cell?_setCell_same _ _ _ hb0
        exact ⟨_, results28 _ _ (b + 1) none 0 0 0 rfl hb1 hb2, full_zero HH.out.2.2.2.2.1 (fits_not (List.mem_of_getElem? HS.out) (by omega)) (grown_own (grown_own HW0.out.1 (grown_set _ _ _ _) (fun j hj => by cases hj; have := HW0.out.2.2; omega)) (grown_set _ _ _ _) (fun j hj => by cases hj; have := HW0.out.2.2; omega))⟩
      have ds : decide (s < 0) = false := by simpa using hs0
      by_cases hsN : (N : Int) ≤ s
      · have dN : decide ((N : Int) ≤ s) = true := by simpa using hsN
        go_wp2_with fail
        have hb0 : (wr.setCell ⟨b + 1, 0, none⟩ (.int .i64 0)).cell? ⟨b + 1, 1, none⟩ = some (.slice none 0 0) := by
          rw [World.cell?_setCell_other _ _ _ _ (by intro e; injection e with _ e1; omega)]; exact e1
        have hb1 : ((wr.setCell ⟨b + 1, 0, none⟩ (.int .i64 0)).setCell ⟨b + 1, 1, none⟩ (.slice none 0 0)).cell? ⟨b + 1, 0, none⟩ = some (.int .i64 0) := by
          rw [World.cell?_setCell_other _ _ _ _ (by intro e; injection e with _ e1; omega)]; exact World.cell?_setCell_same _ _ _ e0
        have hb2 : ((wr.setCell ⟨b + 1, 0, none⟩ (.int .i64 0)).setCell ⟨b + 1, 1, none⟩ (.slice none 0 0)).cell? ⟨b + 1, 1, none⟩ = some (.slice none 0 0) := World.cell?_setCell_same _ _ _ hb0
        exact ⟨_, results28 _ _ (b + 1) none 0 0 0 rfl hb1 hb2, full_zero HH.out.2.2.2.2.1 (fits_not (List.mem_of_getElem? HS.out) (by omega)) (grown_own (grown_own HW0.out.1 (grown_set _ _ _ _) (fun j hj => by cases hj; have := HW0.out.2.2; omega)) (grown_set _ _ _ _) (fun j hj => by cases hj; have := HW0.out.2.2; omega))⟩
      have dN : decide ((N : Int) ≤ s) = false := by simpa using hsN
      go_wp2_with fail
      go_roundg (k - (i + 1))
      case measure => rw [HGK.out.1]; omega
      case rel =>
        refine ⟨i + 1, rfl, rfl, by omega, rfl, fun y hy => ?_⟩
        rw [List.take_add_one, HS.out, Option.toList_some, List.mem_append] at hy
        rcases hy with hy | hy
        · exact HGK.out.2.2 y hy
        · simp at hy; subst hy; omega
    · have hie : i = k := by omega
      subst hie
      have hiB : decide (i < i) = false := by simp
      have hall : ∀ s ∈ ss, 0 ≤ s ∧ s < (N : Int) := by
        have h1 := HGK.out.2.2
        rw [List.take_of_length_le (by rw [HH.out.2.2.2.2.2]; exact Nat.le_refl _)] at h1
        exact h1
      have HF0 := Lib.hid (FuB.start w i (b + 1) wr HW0.out.1 (by have := HW0.out.2; omega) ⟨by rw [e0]; rfl, ef⟩ ⟨by rw [e1]; rfl, ef1⟩)
      have hfit : fits N ss = true := by simp only [fits, decide_eq_true_eq, HH.out.2.2.2.2.2]; exact ⟨hk0, by omega, hall⟩
      obtain ⟨qs, hqs⟩ : ∃ qs : List Nat, ss.map Int.toNat = qs := ⟨_, rfl⟩
      have HQ : Hid (qs.length = i ∧ (∀ s ∈ qs, s < zs.length) ∧ Nums wr ta tc qs ∧ fullK N ss = i ∧ fullL zs ss = ints (digs zs 0 qs)) := Lib.hid ⟨by rw [← hqs, List.length_map]; exact HH.out.2.2.2.2.2, fun s hs => by
          rw [← hqs] at hs
          obtain ⟨y, hy, rfl⟩ := List.mem_map.1 hs
          have := hall y hy
          have := HH.out.2.2.2.2.1
          omega, by rw [← hqs]; exact (HH.out.2.2.2.1.grown HW0.out.1).nums (fun z hz => (hall z hz).1), by simp only [fullK, hfit, if_true]; exact HH.out.2.2.2.2.2, by simp only [fullL, HH.out.2.2.2.2.1, hfit, if_true, hqs]⟩
      have ga := World.grownBy_alloc wr (.cells #[.int .i64 (i : Int), .slice none 0 0] 53) none
      have a0 := ga.cell c0 (by simp)
      have a1 := ga.cell c1 (by simp)
      have HCN := Lib.hid (And.intro (HQ.out.2.2.1.grown ga) (HH.out.1.grown (HW0.out.1.trans ga)))
      clear hall hfit hqs e0 e1 ef ef1 c0 c1 ga
      go_wp2_with fail
      refine (ranks_gets 0 a ta N c i tc st _).mono ?_
      rintro e w6 ⟨b6, rfl, g6, k0, k1, k2, k3, k4, k5⟩
      have hN := HH.out.2.2.2.2.1
      have hqi := HQ.out.1
      have HC6 : Hid (Cap w6 zs a c st 0 qs ta tc b6 (b6 + 1) (b6 + 2)) := Lib.hid ⟨by rw [hN]; exact k2, k3, k4, by rw [hqi]; exact k5, HCN.out.2.grown g6, HCN.out.1.grown g6⟩
      have HB6 := Lib.hid (And.intro k0 (And.intro k1 g6))
      have HF6 := Lib.hid (HF0.out.quiet (C := w.heap.size) (Nat.le_refl _) (.of_none g6))
      have hsz : wr.heap.size = b + 2 := HW0.out.2.1
      rw [hsz] at HF0 HF6
      have HB5 : Hid (b + 3 ≤ b6 ∧ b6 + 2 < w6.heap.size) := Lib.hid ⟨by have := HB6.out.1; rw [World.size_alloc, hsz] at this; omega, HB6.out.2.1⟩
      clear k0 k1 k2 k3 k4 k5 g6 a0 a1 hN hqi
      go_wp2_with fail
      clear hsz
      refine wpIn_wide.1 (rangeYes (n := 3) (gf := 130) (lb := #[.pointer (some ⟨b6 + 2, 0, none⟩), .pointer (some ⟨b6 + 1, 0, none⟩), .pointer (some ⟨b6, 0, none⟩)]) rfl rfl rfl trivial (enters_of Try.func130 (by kernel_rfl) rfl)
        (caps := capsOf a ta b6 (b6 + 1) (b6 + 2)) (xs := ints (digs zs 0 qs)) (fun W g => ranks_gives zs a c st HH.out.2.1 HH.out.2.2.1 qs (by have := HQ.out.1; omega) HQ.out.2.1 0 ta tc _ _ _ W (Nat.pow_pos (by omega)) (HC6.out.grown g))
        (fun s W => FuB w W (b + 2) (b + 1) (b + 3) i s) (Alone (b + 2)) (FuB.abide (Nat.le_trans HF0.out.grown.size HB6.out.2.2.size)) ?hcap HF6.out ?round ?done)
      case hcap =>
        intro b' hb'
        simp only [capsOf, List.mem_cons, List.mem_append, Option.mem_toList] at hb'
        have hfr : ∀ b', b + 3 ≤ b' → b' < w6.heap.size → Alone (b + 2) w6 b' := fun b' h1 h2 => (FuB.abide (C := w.heap.size) (Nat.le_refl _)).fresh _ _ _ b' HF0.out (.of_none HB6.out.2.2) (by have := HW0.out.2.1; rw [World.size_alloc, this]; omega) h2
        have hold : ∀ b', b' < b → Alone (b + 2) w6 b' := fun b' h1 => by
          obtain ⟨v, hv, hown⟩ := HF6.out.row
          refine ⟨by have := HB5.out; omega, by omega, v, hv, fun e => ?_⟩
          have := (hown.lt b' e).1
          omega
        have h1 := HB5.out
        have hwb := HW0.out.2.2
        rcases hb' with rfl | rfl | rfl | hb' | hb'
        · exact hfr _ h1.1 (by omega)
        · exact hfr _ (by omega) (by omega)
        · exact hfr _ (by omega) h1.2
        · refine hold b' ?_
          obtain ⟨_, ⟨_, h, _⟩ | ⟨b2, o2, ha, hb2, _⟩⟩ := HH.out.1
          · rw [h] at hb'; cases hb'
          · rw [ha] at hb'; simp at hb'; omega
        · refine hold b' ?_
          obtain ⟨_, ⟨_, h, _⟩ | ⟨b2, o2, ha, hb2, _⟩⟩ := HH.out.2.2.2.1
          · rw [h] at hb'; cases hb'
          · rw [ha] at hb'; simp at hb'; omega
      case round =>
        intro l' pre x W hF hpre
        have HPL : Hid (pre.length ≤ 125) := Lib.hid (by
          have h1 := hpre.length_le
          have h2 := digs_length HH.out.2.1 qs 0
          have h3 : 5 ^ qs.length ≤ 5 ^ 3 := Nat.pow_le_pow_right (by omega) (by have := HQ.out.1; omega)
          simp only [List.length_append, List.length_map, List.length_cons, List.length_nil] at h1
          omega)
        clear hF hpre
        gi_wp2
        refine ⟨trivial, fun W2 hF2 => ?_⟩
        obtain ⟨v, hv, hown⟩ := hF2.row
        obtain ⟨va, vc, rfl⟩ := own_shape hown
        have HO := Lib.hid hown; clear hown
        have HF2 := Lib.hid hF2; clear hF2
        have hpl := HPL.out
        have hB2 := HF2.out.low.2.2.2
        gi_wp2_with (gi_at_builtin; refine wpListIn_append_own_at _ rfl _ _ 28 rfl (b + 3) 3 i0 (.int .i64 0) 1 8 Try.underlying28 hi0 hz0 hz1 hz2 rfl (by decide) _ _ _ rfl (HO.out.alloc _) ⟨W2.heap.size, 0, none⟩ 1 1 [.int .i64 x] rfl rfl (cell_one_new _ _ _) (fun u hu => by simp at hu; subst hu; rfl) (by unfold maxLen; omega) (by omega) (by simp; omega) ?_; intro v' w3 hown' hgrow3 hnil3 hat3; obtain ⟨g', cap', rfl⟩ := own_shape hown'; obtain ⟨hs1, hs2⟩ := HF2.out.at_ hv HO.out hgrow3)
        exact HF2.out.step hv HO.out hgrow3 hown' hat3
      case done =>
        intro D W hD hF hsD hdef
        obtain ⟨v, hv, hown⟩ := hF.row
        obtain ⟨va, vc, rfl, hints⟩ := own_ints hown
        have c0 := hF.c0
        obtain ⟨u0, hu0⟩ := Option.isSome_iff_exists.1 hF.r0.1
        obtain ⟨u1, hu1⟩ := Option.isSome_iff_exists.1 hF.r1.1
        have f0 := hF.r0.2
        have f1 := hF.r1.2
        have HF := Lib.hid hF; clear hF
        have HI := Lib.hid (And.intro hown hints); clear hown hints
        have HD := Lib.hid (And.intro hD hdef); clear hD hdef hsD
        obtain ⟨n, hn⟩ : ∃ n, (ints (digs zs 0 qs)).length = n := ⟨_, rfl⟩
        rw [hn] at hv
        have HN := Lib.hid hn; clear hn
        go_wp2_with fail
        have hb0 : (W.setCell ⟨b + 1, 0, none⟩ (.int .i64 (i : Int))).cell? ⟨b + 1, 1, none⟩ = some u1 := by
          rw [World.cell?_setCell_other _ _ _ _ (by intro e; injection e with _ e1; omega)]; exact hu1
        have hb1 : ((W.setCell ⟨b + 1, 0, none⟩ (.int .i64 (i : Int))).setCell ⟨b + 1, 1, none⟩ (.slice va n vc)).cell? ⟨b + 1, 0, none⟩ = some (.int .i64 (i : Int)) := by
          rw [World.cell?_setCell_other _ _ _ _ (by intro e; injection e with _ e1; omega)]; exact World.cell?_setCell_same _ _ _ hu0
        have hb2 : ((W.setCell ⟨b + 1, 0, none⟩ (.int .i64 (i : Int))).setCell ⟨b + 1, 1, none⟩ (.slice va n vc)).cell? ⟨b + 1, 1, none⟩ = some (.slice va n vc) := World.cell?_setCell_same _ _ _ hb0
        have hDb : b + 1 ≠ D := by have := HD.out.1; have := HB5.out; omega
        have hdef2 : ((W.setCell ⟨b + 1, 0, none⟩ (.int .i64 (i : Int))).setCell ⟨b + 1, 1, none⟩ (.slice va n vc)).heap[D]? = some (.deferred (some [])) :=
          ((Below.heap_setCell _ _ _ _ (fun e => hDb e.symm)).trans (Below.heap_setCell _ _ _ _ (fun e => hDb e.symm))).trans HD.out.2
        have hk1 := HI.out.1.kept (grown_set W (b + 1) 0 (.int .i64 (i : Int))) (own_ne HI.out.1 (by omega))
        have hk2 := hk1.kept (grown_set _ (b + 1) 1 (.slice va n vc)) (own_ne hk1 (by omega))
        have hk3 := row_kept hk2 (grownBy_putObj' _ D (.deferred none)) (fun r e => by cases e; exact ⟨_, hdef2, rfl⟩)
        obtain ⟨a', c', he, hnm⟩ := own_ints hk3
        injection he with e1 e2 e3
        subst e1; subst e3
        refine ⟨by simp, .inl ⟨D, _, rfl, run_takeDeferred hdef2, _, results28 _ _ (b + 1) va n vc i rfl ((World.cell?_of_block (a := ⟨b + 1, 0, none⟩) (World.putObj_heap_other hDb)).trans hb1) ((World.cell?_of_block (a := ⟨b + 1, 1, none⟩) (World.putObj_heap_other hDb)).trans hb2), ?_⟩⟩
        have hq := HQ.out.2.2.2
        refine ⟨va, vc, by rw [hq.1, hq.2, HN.out], by rw [hq.2]; exact hnm, ?_⟩
        have hwb := HW0.out.2.2
        exact grown_own (grown_own (grown_own HF.out.grown (grown_set _ _ _ _) (fun j hj => by cases hj; omega)) (grown_set _ _ _ _) (fun j hj => by cases hj; omega)) (grownBy_putObj' _ D _) (fun j hj => by cases hj; have := HD.out.1; have := HB5.out; omega)
end Go.Proofs.Ytbddpjofhddilaa

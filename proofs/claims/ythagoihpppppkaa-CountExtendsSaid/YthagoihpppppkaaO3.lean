/- Sorter: its beginning, its network, its answer. -/
import Derived.Test.YthagoihpppppkaaO2
import Derived.Deep.DeepCutAuto
namespace Go.Proofs.Ythagoihpppppkaa
open Go.RowKit Go.Maps

set_option maxHeartbeats 1000000 in
theorem gcircuit2_calls (hs : List Gt) (p : Nat) (M : Nat → Prop) (w : World) (hi : Int) (h : GX p M w hs hi) (_hl : hs.length ≤ 1000) :
    Calls Try.prog 40 #[.pointer (some ⟨p, 0, none⟩)] w fun e w' => ∃ a c, e = .returned (.agg #[.slice a hs.length c]) ∧ Span (p + 1) w'.heap.size w' (fun W => GatesW W a c hs) ∧ Off (fun k => k = p) w w' := by
  obtain ⟨o, va, vc, mb, vis, g1, g2, _⟩ := h
  have hc := one_cell w (.slice none 0 0) 32
  have hg := World.grownBy_alloc w (.cells #[.slice none 0 0] 32) none
  obtain ⟨W, hW⟩ : ∃ W, w.alloc (.cells #[.slice none 0 0] 32) = W := ⟨_, rfl⟩
  rw [hW] at hc hg
  have HSP : o = true → Hid (Span (p + 1) w.heap.size w (fun W => GatesW W va hs.length hs)) := fun ho => by
    subst ho
    have hr := g1.row
    unfold GRow at hr
    simp only [if_true] at hr
    obtain ⟨a, c, e, hs1⟩ := gates_span hr
    cases e
    exact Lib.hid (hs1.map fun W (hW : GatesW W va vc hs) => ⟨Nat.le_refl _, hW.2⟩)
  have HB := Lib.hid (show p < w.heap.size from lies_lt g1.c0)
  have HG1 := Lib.hid hg
  have HGW := Lib.hid (g1.grown hg)
  have HG := Lib.hid hg
  have HC := Lib.hid hc
  have HL := Lib.hid _hl
  have hcs := hc
  obtain ⟨_, r0, rf⟩ := hcs
  obtain ⟨n, hn⟩ : ∃ n, hs.length = n := ⟨_, rfl⟩
  have HN := Lib.hid hn
  clear hg g1 g2 hc hn _hl
  rw [HN.out]
  have k0 := HGW.out.c0; have k1 := HGW.out.c1; have kf := HGW.out.fr 1
  rw [HN.out] at k0
  cases o with
  | false =>
    go_enter Try.func40, Try.ntmps40
    go_wp2_with fail
    have HX := Lib.hid (clone_calls hs va vc W HGW.out.row.gates (by have := HL.out; omega))
    rw [HN.out] at HX
    refine HX.out.mono ?_
    rintro e w2 ⟨a', c', rfl, hs2, hg2⟩
    have HG2 := Lib.hid hg2
    have r1 := hg2.cell r0 (by simp)
    have r2 : w2.frozen? ⟨w.heap.size, 0, none⟩ = false := (grown_frozen hg2 HC.out.1 0).trans rf
    have HS := Lib.hid hs2
    clear r0 rf k0 k1 kf hg2 hs2 HX
    go_wp2_with fail
    refine bodyPost_ret (results36 _ _ w.heap.size a' n c' rfl (World.cell?_setCell_same _ _ _ r1)) rfl ⟨a', c', rfl, ?_, ?_⟩
    · exact (HS.out.off (grown_set w2 w.heap.size 0 _) (fun x e => by cases e; exact .inl HC.out.1)).wide (by have h1 := HB.out; have h2 := HC.out.1; omega) (grown_set w2 w.heap.size 0 _).size (Nat.le_refl _)
    · exact Off.of (grown_own (World.grownBy.trans HG.out HG2.out) (grown_set w2 w.heap.size 0 _) (fun k e => by cases e; exact Nat.le_refl _)) (fun k e => by cases e)
  | true =>
    have HS := (HSP rfl)
    clear HSP
    rw [HN.out] at HS
    have hvc : n ≤ vc := by rw [← HN.out]; exact HGW.out.row.gates.1
    go_enter Try.func40, Try.ntmps40
    go_wp2_with fail
    have hpn : w.heap.size ≠ p := by have := HB.out; omega
    have k0' : (W.setCell ⟨p, 1, none⟩ (.bool false)).cell? ⟨p, 0, none⟩ = some (.slice va n vc) := by rw [World.cell?_setCell_other _ _ _ _ (ne_at (by decide))]; exact k0
    have r0' : (W.setCell ⟨p, 1, none⟩ (.bool false)).cell? ⟨w.heap.size, 0, none⟩ = some (.slice none 0 0) := by rw [World.cell?_setCell_other _ _ _ _ (by intro e; injection e with e _; exact hpn e.symm)]; exact r0
    have rf' : (W.setCell ⟨p, 1, none⟩ (.bool false)).frozen? ⟨w.heap.size, 0, none⟩ = false := by rw [World.frozen?_setCell]; exact rf
    have HS1 := Lib.hid ((HS.out.grown HG1.out).off (grown_set W p 1 (.bool false)) (fun x e => by cases e; exact .inl (by omega)))
    have HG1b := Lib.hid (Off.own (Off.of (M := fun k => k = p) HG.out (fun k e => by cases e)) (grown_set W p 1 (.bool false)) (fun k e => by cases e; exact .inl rfl))
    clear k0 k1 kf r0 rf hpn HGW HC HG HG1 HS
    obtain ⟨W1, hW1⟩ : ∃ W1, W.setCell ⟨p, 1, none⟩ (.bool false) = W1 := ⟨_, rfl⟩
    rw [hW1] at k0' r0' rf' HS1 HG1b ⊢
    clear hW1
    go_wp2_with (go_at_call 56; refine (clip_calls va n vc _ hvc).mono ?_; rintro e w2 ⟨rfl, hw2⟩; rw [hw2]; clear hw2 w2)
    refine bodyPost_ret (results36 _ _ w.heap.size va n n rfl (World.cell?_setCell_same _ _ _ r0')) rfl ⟨va, n, rfl, ?_, ?_⟩
    · exact (HS1.out.off (grown_set W1 w.heap.size 0 _) (fun x e => by cases e; exact .inr (Nat.le_refl _))).wide (Nat.le_refl _) (Nat.le_trans HS1.out.1 (grown_set W1 w.heap.size 0 _).size) (Nat.le_refl _)
    · exact Off.own HG1b.out (grown_set W1 w.heap.size 0 _) (fun k e => by cases e; exact .inr (Nat.le_refl _))
set_option maxRecDepth 100000 in
set_option maxHeartbeats 1000000 in
theorem cloneI_calls (zs : List Int) (a : Option Addr) (c : Nat) (w : World) (h : IntsW w a c zs) (hl : zs.length ≤ 100000) :
    Calls Try.prog 35 #[.slice a zs.length c] w fun e w' => ∃ a' c', e = .returned (.slice a' zs.length c') ∧ w'.ownsRow w.heap.size 3 1 (.slice a' zs.length c') zs.length (intCells zs) ∧ w.grownBy w' none := by
  obtain ⟨n, hn⟩ : ∃ n, zs.length = n := ⟨_, rfl⟩
  rw [hn] at hl ⊢
  have HN := Lib.hid hn; clear hn
  cases a with
  | none =>
    obtain rfl : zs = [] := by
      obtain ⟨_, h | ⟨_, _, e, _⟩⟩ := h
      · exact h
      · cases e
    have q28 : ∀ (w : World) (a : Option Addr) (n c n' c' : Nat), (binOp .eql 33 (.slice a n c) (.slice none n' c')).run Try.prog w = .ok (.bool a.isNone) w := fun w a n c n' c' => Lib.run_eql_slice_nil w _ _ a n c n' c' Try.underlying33
    have hn0 : n = 0 := by rw [← HN.out]; rfl
    subst hn0
    go_enter Try.func35, Try.ntmps35
    go_wp2_with fail
    go_ret
    exact ⟨none, 0, rfl, World.ownsRow_nil _ _ _ _, grown_refl _ _⟩
  | some ad =>
    obtain ⟨i0, hi0, hz0, hz1, hz2⟩ := info_parts info3
    have HC := Lib.hid h.2; have hc := h.1; clear h
    rw [HN.out] at hc
    have q28 : ∀ (w : World) (a : Option Addr) (n c n' c' : Nat), (binOp .eql 33 (.slice a n c) (.slice none n' c')).run Try.prog w = .ok (.bool a.isNone) w := fun w a n c n' c' => Lib.run_eql_slice_nil w _ _ a n c n' c' Try.underlying33
    go_enter Try.func35, Try.ntmps35
    go_wp2_with (at_builtin; refine wpList_append_own _ rfl _ _ 33 rfl w.heap.size 3 i0 (.int .i64 0) 1 8 Try.underlying33 hi0 hz0 hz1 hz2 rfl (by decide) _ _ _ rfl (World.ownsRow_made w #[] 0 (Nat.le_refl _) (Nat.zero_le _) rfl) ad n c (intCells zs) rfl ?qc1 ?qc2 ?qc3 ?qc4 ?qc5 ?qc6 ?_)
    case qc1 => rw [intCells, List.length_map, HN.out]; omega
    case qc2 =>
      intro j u hj
      rw [intCells, List.getElem?_map] at hj
      cases hq : zs[j]? with
      | none => rw [hq] at hj; simp at hj
      | some z =>
        rw [hq] at hj
        simp only [Option.map_some, Option.some.injEq] at hj
        rcases HC.out with h0 | ⟨b, o, e, hz⟩
        · rw [h0] at hq; simp at hq
        · cases e
          have hadd : (⟨b, o, none⟩ : Addr).add j = ⟨b, o + j, none⟩ := by unfold Addr.add; split <;> simp_all
          rw [hadd, ← hj]
          exact (World.grownBy_alloc w _ none).cell (hz j z hq) (by simp)
    case qc3 => intro u hu; obtain ⟨x, _, rfl⟩ := List.mem_map.1 hu; rfl
    case qc4 => unfold maxLen; omega
    case qc5 => omega
    case qc6 => simp
    intro v' w1 hown hgrow hnil
    have hown' : w1.ownsRow w.heap.size 3 1 v' zs.length (intCells zs) := by rw [HN.out]; simpa using hown
    obtain ⟨a', c', rfl⟩ := own_shape hown
    have HR := Lib.hid hown'; clear hown hown' hnil
    have HG : Hid (w.grownBy w1 none) := Lib.hid (grown_own (World.grownBy_alloc w _ none) hgrow (fun k hk => by simp [Value.ownBlock] at hk; omega))
    clear hgrow
    go_wp2
    go_ret
    have h := HR.out
    rw [HN.out] at h
    exact ⟨a', c', rfl, h, HG.out⟩
theorem own_iarr {w : World} {B n c : Nat} {a : Option Addr} {Z : List Int} (h : w.ownsRow B 3 1 (.slice a n c) n (intCells Z)) (hn : 0 < n) : ∃ b, a = some ⟨b, 0, none⟩ ∧ IArr w b Z ∧ B ≤ b ∧ n ≤ c := by
  have hc := @World.ownsRow.cells w B 3 1 (.slice a n c) n _ h
  rcases h.2 with ⟨_, h0⟩ | ⟨g, cap, cur, e, hb, hg, hnc, hcm, _⟩
  · omega
  · injection e with e1 _ e3
    subst e1 e3
    refine ⟨g, rfl, ⟨fun j z hj => ?_, fun o => ?_, (Array.getElem?_eq_some_iff.1 hg).1⟩, hb, hnc⟩
    · have := hc (g := g) rfl j (.int .i64 z) (by rw [intCells, List.getElem?_map, hj]; rfl)
      rw [add_at] at this
      exact this
    · unfold World.frozen?
      simp [hg]
/-- What a call that answers with a circuit and references leaves. -/
def AnsL (w : World) (g : List Gt) (l : List Int) (x : Ending) (w' : World) : Prop := ∃ a c b d, x = .returned (.tuple #[.agg #[.slice a g.length c], .slice b l.length d]) ∧ GatesW w' a c g ∧ IntsW w' b d l ∧ w.grownBy w' none
theorem kOf_step : ∀ n, n < 17 → ∀ k, k < 5 → k ≤ kOf n → (2 ^ k < n → k + 1 ≤ kOf n) ∧ (¬ 2 ^ k < n → k = kOf n) := by decide
theorem comps2 (k : Nat) (h : k ≤ 4) : ∀ x ∈ msL k 0, x.2 ≤ 1000 := by
  match k, h with
  | 0, _ => decide +kernel
  | 1, _ => decide +kernel
  | 2, _ => decide +kernel
  | 3, _ => decide +kernel
  | 4, _ => decide +kernel
  | k + 5, h => exact absurd h (by omega)
theorem fold_inv {gs : List Gt} (hg : Good gs) {l : List Int} (ho : ∀ r ∈ l, Ok gs r) (L : List (Nat × Nat)) (hL : ∀ x ∈ L, x.1 < x.2) (hl : gs.length + 2 * L.length ≤ 19000) :
    Grew gs (2 * L.length) ((foldP cmpP L l).run gs).1 ∧ (∀ r ∈ ((foldP cmpP L l).run gs).2, Ok ((foldP cmpP L l).run gs).1 r) := by
  have hI := safe_foldP (f := cmpP) (fun g k t => Grew gs (2 * k) g ∧ (∀ r ∈ t, Ok g r)) L 0 gs l ⟨Grew.refl hg, ho⟩ (fun j x g t hj ht => by
    obtain ⟨t1, t2⟩ := ht
    have hjl := (List.getElem?_eq_some_iff.1 hj).1
    refine Pr.safe_mono (fun g' t' h' => ?_) _ (safe_cmpP t1.good (by have := t1.len; omega) t2 (hL x (List.mem_of_getElem? hj)))
    obtain ⟨u1, u2, _⟩ := h'
    exact ⟨(t1.trans u1).wide (by omega), u2⟩)
  have h := Pr.safe_run _ hI
  rw [Nat.zero_add] at h
  exact h
theorem ok_i64 {g : List Gt} (hl : g.length ≤ 20000) {r : Int} (h : Ok g r) : r ≤ 9223372036854775807 := by unfold Ok at h; omega
/-- Sorter's state along its comparators. -/
def StD (bo bw q p br : Nat) (oa : Option Addr) (oc n : Nat) (l : List Int) (g0 : List Gt) (D : List (Nat × Nat)) (N : Nat → Prop) (w : World) : Prop :=
  ∃ M, N = NB M n br ∧ StS bo bw q p br oa oc n M w ((foldP cmpP D l).run g0).1 ((foldP cmpP D l).run g0).2 (2000 * (D.length : Int)) ∧ ∀ k, NB M n br k → k < w.heap.size
theorem stD_comp {bo bw q p br : Nat} {oa : Option Addr} {oc n : Nat} {l : List Int} {g0 : List Gt} {full : List (Nat × Nat)} (hg : Good g0) (hl : g0.length ≤ 850) (ho : ∀ r ∈ l, Ok g0 r) (hn : n ≤ 1000) (hf : full.length ≤ 63 ∧ (∀ x ∈ full, x.1 < x.2) ∧ ∀ x ∈ full, x.2 ≤ 1000) :
    Comp (StD bo bw q p br oa oc n l g0) bo bw full := by
  intro D N w i j hst hp
  obtain ⟨M, rfl, hs, hlow⟩ := hst
  have hmem : (i, j) ∈ full := hp.subset (List.mem_append_right _ (List.mem_singleton.2 rfl))
  have hlen := hp.length_le
  rw [List.length_append, List.length_singleton] at hlen
  have hD : ∀ x ∈ D, x.1 < x.2 := fun x hx => hf.2.1 x (hp.subset (List.mem_append_left _ hx))
  obtain ⟨v1, v2⟩ := fold_inv hg ho D hD (by omega)
  have hrun : (foldP cmpP (D ++ [(i, j)]) l).run g0 = (cmpP ((foldP cmpP D l).run g0).2 (i, j)).run ((foldP cmpP D l).run g0).1 := by rw [run_foldP_append, run_foldP_cons, run_foldP_nil]
  refine (cmp_calls bo bw q p br oa oc n M w _ _ _ i j hs v1.good (by have := v1.len; omega) (fun r hr => ok_i64 (by have := v1.len; omega) (v2 r hr)) (hf.2.1 _ hmem) hn (hf.2.2 _ hmem)).mono ?_
  rintro e w' ⟨rfl, M', s', o', n'⟩
  refine ⟨rfl, NB (fun k => M' k ∧ k < w'.heap.size) n br, ⟨_, rfl, ?_, ?_⟩, o', fun k hk => n' k (hk.imp (fun h => h.1) id)⟩
  · rw [hrun]
    have hnb : ∀ b, ¬ NB M' n br b → ¬ NB (fun k => M' k ∧ k < w'.heap.size) n br b := fun b hb h => hb (h.imp (fun h => h.1) id)
    exact ⟨s'.o0, s'.w0, s'.q0, s'.len, s'.row.imp id (fun h => ⟨h.1, h.2.1, h.2.2.1, fun m => h.2.2.2 m.1⟩), s'.gx.cut.wide (fun k h => h) (by simp only [List.length_append, List.length_singleton]; omega), hnb _ s'.fo, hnb _ s'.fw, hnb _ s'.fq, s'.pb⟩
  · rintro k (h | ⟨h0, rfl⟩)
    · exact h.2
    · exact (s'.row.resolve_left (by omega)).2.2.1.low
theorem stD_grow {bo bw q p br : Nat} {oa : Option Addr} {oc n : Nat} {l : List Int} {g0 : List Gt} : ∀ D N (w w' : World), StD bo bw q p br oa oc n l g0 D N w → w.grownBy w' none → StD bo bw q p br oa oc n l g0 D N w' := by
  rintro D N w w' ⟨M, rfl, hs, hlow⟩ hg
  exact ⟨M, rfl, hs.far hg (fun x e => by cases e), fun k hk => Nat.lt_of_lt_of_le (hlow k hk) hg.size⟩
theorem stD_low {bo bw q p br : Nat} {oa : Option Addr} {oc n : Nat} {l : List Int} {g0 : List Gt} : ∀ D N (w : World), StD bo bw q p br oa oc n l g0 D N w → ∀ k, N k → k < w.heap.size := by
  rintro D N w ⟨M, rfl, hs, hlow⟩
  exact hlow
theorem resB14 (tmps : Array Value) (w : World) (b : Nat) (a : Option Addr) (n c : Nat) (v : Value) (ht : tmps.getD 4 undef = .pointer (some ⟨b, 0, none⟩)) (hv : tmps.getD 5 undef = v) (h0 : w.cell? ⟨b, 0, none⟩ = some (.slice a n c)) :
    (results Try.f14 tmps).run Try.prog w = .ok (.tuple #[.agg #[.slice a n c], v]) w := by
  have ht' : tmps[4]?.getD undef = .pointer (some ⟨b, 0, none⟩) := by simpa using ht
  have hv' : tmps[5]?.getD undef = v := by simpa using hv
  simp [results, ht', hv', go_sem, h0, Result.andThen]

set_option maxRecDepth 100000 in
set_option maxHeartbeats 4000000 in
theorem sorter_calls (gs : List Gt) (l : List Int) (a : Option Addr) (c : Nat) (b : Option Addr) (d : Nat) (w : World) (h : GatesW w a c gs) (hi : IntsW w b d l) (hG : Good gs) (hl : gs.length ≤ 850) (ho : ∀ r ∈ l, Ok gs r) (hn : l.length ≤ 16) :
    Calls Try.prog 14 #[.agg #[.slice a gs.length c], .slice b l.length d] w fun e w' => AnsL w ((sorterP l).run gs).1 ((sorterP l).run gs).2 e w' := by
  obtain ⟨n, hnn⟩ : ∃ n, l.length = n := ⟨_, rfl⟩
  have HN := Lib.hid hnn
  have HGD := Lib.hid (And.intro hG (And.intro hl ho))
  have hg1 := World.grownBy_alloc w (.cells #[.slice a gs.length c] 32) none
  have hc1 := one_cell w (.slice a gs.length c) 32
  obtain ⟨W1, hW1⟩ : ∃ z, w.alloc (.cells #[.slice a gs.length c] 32) = z := ⟨_, rfl⟩
  rw [hW1] at hg1 hc1
  have hg2 := World.grownBy_alloc W1 (.cells #[.slice none 0 0] 32) none
  have hc2 := one_cell W1 (.slice none 0 0) 32
  obtain ⟨W2, hW2⟩ : ∃ z, W1.alloc (.cells #[.slice none 0 0] 32) = z := ⟨_, rfl⟩
  rw [hW2] at hg2 hc2
  have q1 := hg2.cell hc1.2.1 (by simp)
  have HB := Lib.hid (fun (U : World) (hU : GatesW U a c gs) => newb_calls gs a c U hU)
  have HH := Lib.hid ((h.grown hg1).grown hg2)
  have HI := Lib.hid ((hi.grown hg1).grown hg2)
  have HC := Lib.hid (fun (U : World) (hU : IntsW U b d l) => cloneI_calls l b d U hU (by omega))
  have HR := Lib.hid hc2.2
  have HS2 := Lib.hid (And.intro hg1.size hg2.size)
  have HG2 := Lib.hid (World.grownBy.trans hg1 hg2)
  rw [hnn] at hn HC ⊢
  clear h hi hG hl ho hnn hg1 hg2 hc1 hc2
  go_enter Try.func14, Try.ntmps14
  go_wp2_with fail
  clear hW1 hW2
  refine (HB.out W2 HH.out).mono ?_
  rintro e w3 ⟨q, p, rfl, hp, hq, hpq, hqc, hgx, hg3⟩
  have HX3 := Lib.hid hgx
  have HP := Lib.hid (And.intro hp (And.intro hq hpq))
  have HQ3 := Lib.hid hqc
  have HG3 := Lib.hid hg3
  clear hgx hp hq hpq hqc hg3 q1 HB HH
  go_upto_region 2 with fail
  have hc4 := one_cell w3 (.pointer (some ⟨q, 0, none⟩)) 58
  have hg4 := World.grownBy_alloc w3 (.cells #[.pointer (some ⟨q, 0, none⟩)] 58) none
  obtain ⟨W4, hW4⟩ : ∃ z, w3.alloc (.cells #[.pointer (some ⟨q, 0, none⟩)] 58) = z := ⟨_, rfl⟩
  obtain ⟨bw, hbw⟩ : ∃ z, w3.heap.size = z := ⟨_, rfl⟩
  rw [hW4] at hg4 hc4 ⊢
  rw [hbw] at hc4 ⊢
  clear hW4
  have HG4 := Lib.hid hg4
  have HC4 := Lib.hid hc4
  have HBW := Lib.hid hbw
  clear hg4 hc4 hbw
  go_wp2_with fail
  refine (HC.out W4 ((HI.out.grown HG3.out).grown HG4.out)).mono ?_
  rintro e w5 ⟨oa, oc, rfl, hown, hg5⟩
  have HG5 := Lib.hid hg5
  have HO5 := Lib.hid hown
  clear hg5 hown HC
  go_upto_region 3 with fail
  have hc6 := one_cell w5 (.slice oa n oc) 33
  have hg6 := World.grownBy_alloc w5 (.cells #[.slice oa n oc] 33) none
  obtain ⟨W6, hW6⟩ : ∃ z, w5.alloc (.cells #[.slice oa n oc] 33) = z := ⟨_, rfl⟩
  obtain ⟨bo, hbo⟩ : ∃ z, w5.heap.size = z := ⟨_, rfl⟩
  rw [hW6] at hg6 hc6 ⊢
  rw [hbo] at hc6 ⊢
  clear hW6
  have HG6 := Lib.hid hg6
  have HC6 := Lib.hid hc6
  have HBO := Lib.hid hbo
  clear hg6 hc6 hbo
  obtain ⟨bR, hbR⟩ : ∃ z, W1.heap.size = z := ⟨_, rfl⟩
  rw [hbR] at HR ⊢
  have HBR := Lib.hid hbR
  clear hbR
  have hsz : w.heap.size < W1.heap.size + 1 ∧ bR < W2.heap.size ∧ W2.heap.size ≤ p ∧ p < w3.heap.size ∧ q < w3.heap.size ∧ bw = w3.heap.size ∧ bw < W4.heap.size ∧ W4.heap.size ≤ w5.heap.size ∧ bo = w5.heap.size ∧ bo < W6.heap.size ∧ W2.heap.size ≤ q :=
    ⟨by have := HS2.out.1; omega, lies_lt HR.out.1, HP.out.1, (by obtain ⟨_, _, _, _, _, g, _⟩ := HX3.out; exact lies_lt g.c0), lies_lt HQ3.out, HBW.out.symm, HC4.out.1, HG5.out.size, HBO.out.symm, HC6.out.1, HP.out.2.1⟩
  have HSZ := Lib.hid hsz
  clear hsz
  obtain ⟨br, hbr⟩ : ∃ br, n = 0 ∨ (oa = some ⟨br, 0, none⟩ ∧ n ≤ oc ∧ IArr w5 br l ∧ W4.heap.size ≤ br) := by
    rcases Nat.eq_zero_or_pos n with h0 | h0
    · exact ⟨0, .inl h0⟩
    · have h5 := HO5.out
      obtain ⟨b5, e5, i5, l5, c5⟩ := own_iarr h5 h0
      exact ⟨b5, .inr ⟨e5, c5, i5, l5⟩⟩
  have HBB := Lib.hid hbr
  clear hbr
  have HST := Lib.hid (show StD bo bw q p br oa oc n l gs [] (NB (fun k => k = p) n br) W6 from by
    have s := HSZ.out
    have hbr : ∀ k, 0 < n ∧ k = br → W4.heap.size ≤ k ∧ k < w5.heap.size := fun k hk => by
      rcases HBB.out with h0 | ⟨_, _, h2, h3⟩
      · omega
      · rw [hk.2]; exact ⟨h3, h2.low⟩
    have hg36 := World.grownBy.trans (World.grownBy.trans HG4.out HG5.out) HG6.out
    refine ⟨fun k => k = p, rfl, ⟨HC6.out.2.1, (World.grownBy.trans HG5.out HG6.out).cell HC4.out.2.1 (by simp), hg36.cell HQ3.out (by simp), HN.out, ?_, ?_, ?_, ?_, ?_, ?_⟩, ?_⟩
    · rcases HBB.out with h0 | ⟨h1, h2, h3, h4⟩
      · exact .inl h0
      · exact .inr ⟨h1, h2, h3.off (Off.of (M := fun _ => False) HG6.out (fun k e => by cases e)) (fun h => h), fun e => by omega⟩
    · exact (HX3.out.grown hg36).wide (fun _ h => h) (Int.le_refl _)
    · rintro (h | h)
      · omega
      · have := hbr _ h; omega
    · rintro (h | h)
      · omega
      · have := hbr _ h; omega
    · rintro (h | h)
      · exact HP.out.2.2 h.symm
      · have := hbr _ h; omega
    · rcases HBB.out with h0 | ⟨_, _, h3, h4⟩
      · exact .inl h0
      · exact .inr (by omega)
    · rintro k (h | h)
      · omega
      · have := hbr _ h; omega)
  have HNW := Lib.hid (show ∀ k, NB (fun k => k = p) n br k → W2.heap.size ≤ k from by
    have s := HSZ.out
    rintro k (h | h)
    · omega
    · rcases HBB.out with h0 | ⟨_, _, h2, h3⟩
      · omega
      · omega)
  have HGW := Lib.hid (World.grownBy.trans HG2.out (World.grownBy.trans (World.grownBy.trans (World.grownBy.trans HG3.out HG4.out) HG5.out) HG6.out))
  have HR6 := Lib.hid (show W6.cell? ⟨bR, 0, none⟩ = some (.slice none 0 0) ∧ W6.frozen? ⟨bR, 0, none⟩ = false from by
    have g := World.grownBy.trans (World.grownBy.trans (World.grownBy.trans HG3.out HG4.out) HG5.out) HG6.out
    exact ⟨g.cell HR.out.1 (by simp), (grown_frozen g (lies_lt HR.out.1) 0).trans HR.out.2⟩)
  go_wp2_with fail
  go_loopg [8] 5 (fun g s wr => ∃ k : Nat, s = .int .i64 ((2 ^ k : Nat) : Int) ∧ g = 5 - k ∧ k ≤ kOf n ∧ W6 = wr)
  case atStart => exact ⟨0, rfl, rfl, Nat.zero_le _, rfl⟩
  case round =>
    obtain ⟨k, rfl, hgk, hk, rfl⟩ := hrel
    have HI2 := Lib.hid hgk; clear hgk
    have hk4 : k < 5 := Nat.lt_succ_of_le (Nat.le_trans hk (kOf_le n))
    have HKS := Lib.hid (kOf_step n (by omega) k hk4 hk)
    obtain ⟨z, hz⟩ : ∃ z, 2 ^ k = z := ⟨_, rfl⟩
    have HZK := Lib.hid hz
    rw [hz] at HKS ⊢
    have hz16 : z ≤ 16 := by rw [← hz]; exact Nat.le_trans (Nat.pow_le_pow_right (by omega) (show k ≤ 4 by omega)) (by decide)
    by_cases hzn : z < n
    · have f1 : decide ((z : Int) < (n : Int)) = true := decide_eq_true (by omega)
      have f2 : decide (z < n) = true := decide_eq_true hzn
      obtain ⟨y, hy⟩ : ∃ y, 2 ^ (k + 1) = y := ⟨_, rfl⟩
      have hyz : y = z * 2 := by rw [← hy, Nat.pow_succ, hz]
      have w1 : IntKind.i64.wrap ((z : Int) * 2) = (y : Int) := by rw [IntWalk.i64_in _ (by omega)]; omega
      have HY := Lib.hid hy
      have HKN := Lib.hid (HKS.out.1 hzn)
      clear hy hyz hz hzn hz16
      go_wp2_with fail
      go_roundg (5 - (k + 1))
      case measure => rw [HI2.out]; omega
      case rel => exact ⟨k + 1, by rw [HY.out], rfl, HKN.out, rfl⟩
    · have f1 : decide ((z : Int) < (n : Int)) = false := decide_eq_false (by omega)
      have f2 : decide (z < n) = false := decide_eq_false hzn
      have hkn := HKS.out.2 hzn
      have hcp := comps (kOf n) (kOf_le n)
      have hcp2 := comps2 (kOf n) (kOf_le n)
      obtain ⟨full, hfull⟩ : ∃ f, msL (kOf n) 0 = f := ⟨_, rfl⟩
      have HMS := Lib.hid (msort_calls (StD bo bw q p br oa oc n l gs) bo bw full (stD_comp HGD.out.1 HGD.out.2.1 HGD.out.2.2 (by omega) (by rw [← hfull]; exact ⟨hcp.1, hcp.2, hcp2⟩)) stD_grow stD_low (kOf n) 0 [] (NB (fun k => k = p) n br) W6 HST.out (by rw [List.nil_append, hfull]; exact List.prefix_refl _) (by rw [← hkn, hz]; omega))
      rw [hfull, ← hkn, hz] at HMS
      have HFU := Lib.hid (show sorterP l = foldP cmpP full l ∧ full.length ≤ 63 ∧ ∀ x ∈ full, x.1 < x.2 from ⟨by unfold sorterP; rw [HN.out, hfull], by rw [← hfull]; exact hcp.1, by rw [← hfull]; exact hcp.2⟩)
      clear hz hzn hz16 hkn hcp hcp2 hfull hk hk4
      go_wp2_with fail
      refine HMS.out.mono ?_
      rintro e w7 ⟨rfl, N7, t7, o7, n7⟩
      obtain ⟨M7, rfl, s7, low7⟩ := t7
      rw [List.nil_append] at s7
      obtain ⟨rr, hrr⟩ : ∃ r, (foldP cmpP full l).run gs = r := ⟨_, rfl⟩
      obtain ⟨g9, l9⟩ := rr
      have hinv := fold_inv HGD.out.1 HGD.out.2.2 full HFU.out.2.2 (by have := HGD.out.2.1; have := HFU.out.2.1; omega)
      rw [hrr] at s7 hinv
      have HSO := Lib.hid (show (sorterP l).run gs = (g9, l9) from by rw [HFU.out.1, hrr])
      have HG9 := Lib.hid (show Good g9 ∧ g9.length ≤ 1000 from ⟨hinv.1.good, by have := hinv.1.len; have := HGD.out.2.1; have := HFU.out.2.1; simp only at *; omega⟩)
      have HX9 := Lib.hid s7.gx
      have HL9 := Lib.hid s7.len
      have HG7 := Lib.hid (Off.grown HGW.out o7 (fun k hk => Nat.le_trans HG2.out.size (HNW.out k hk)))
      have hbR7 : ¬ NB (fun k => k = p) n br bR := fun hx => by have := HNW.out _ hx; have := HSZ.out; omega
      have HZ := Lib.hid (show w7.cell? ⟨bR, 0, none⟩ = some (.slice none 0 0) ∧ w7.frozen? ⟨bR, 0, none⟩ = false from ⟨o7.cell HR6.out.1 hbR7, (o7.frozen (lies_lt HR6.out.1) hbR7 0).trans HR6.out.2⟩)
      have HPR := Lib.hid (show ¬ bR = p from by have := HSZ.out; omega)
      have HPQ := Lib.hid (show w.heap.size ≤ p ∧ w.heap.size ≤ bR from by have := HSZ.out; have := HG2.out.size; have := HBR.out; have := HS2.out.1; exact ⟨by omega, by omega⟩)
      have hmp : M7 p := by
        obtain ⟨_, _, _, _, _, _, _, g3⟩ := s7.gx
        exact g3 p (.inl rfl)
      have HPF := Lib.hid (show ¬ (bo = p ∨ bo = bR) ∧ ¬ (bw = p ∨ bw = bR) ∧ ¬ (q = p ∨ q = bR) from by
        have s := HSZ.out
        have s2 := HP.out.2.2
        exact ⟨by omega, by omega, by omega⟩)
      have HRW := Lib.hid (show ∀ wF : World, Off (fun k => k = p ∨ k = bR) w7 wF → IntsW wF oa oc l9 from fun wF hF => by
        rcases s7.row with h0 | ⟨h1, h2, h3, h4⟩
        · have hl : l9 = [] := List.eq_nil_of_length_eq_zero (by have := s7.len; simp only at this; omega)
          rw [hl]; exact intsW_nil _ _ _
        · subst h1
          refine ⟨by have := s7.len; simp only at this; omega, .inr ⟨br, 0, rfl, fun j z hj => ?_⟩⟩
          rw [Nat.zero_add]
          refine hF.cell (h3.cells j z hj) ?_
          rintro (e | e)
          · exact h4 (by have e' : br = p := e; rw [e']; exact hmp)
          · have e' : br = bR := e
            rcases HBB.out with h0 | ⟨g1, _, _, g4⟩
            · have hl : l9 = [] := List.eq_nil_of_length_eq_zero (by have := s7.len; simp only at this; omega)
              rw [hl] at hj; simp at hj
            · have := HSZ.out; omega)
      have HS := Lib.hid (fun (Wh : World) (hWh : Off (fun k => k = p ∨ k = bR) w7 Wh) => (⟨hWh.cell s7.o0 HPF.out.1, hWh.cell s7.w0 HPF.out.2.1, hWh.cell s7.q0 HPF.out.2.2⟩ : (fun Wh : World => Wh.cell? ⟨bo, 0, none⟩ = some (.slice oa n oc) ∧ Wh.cell? ⟨bw, 0, none⟩ = some (.pointer (some ⟨q, 0, none⟩)) ∧ Wh.cell? ⟨q, 0, none⟩ = some (.pointer (some ⟨p, 0, none⟩))) Wh))
      clear s7 o7 n7 low7 hrr hinv hbR7 hmp f1 f2
      go_upto_region 7 with fail
      have hdr : w7.grownBy w7.drew none := ⟨rfl, rfl, rfl, Nat.le_refl _, fun _ _ _ => rfl⟩
      refine wp_region_held_drew (S := (fun Wh : World => Wh.cell? ⟨bo, 0, none⟩ = some (.slice oa n oc) ∧ Wh.cell? ⟨bw, 0, none⟩ = some (.pointer (some ⟨q, 0, none⟩)) ∧ Wh.cell? ⟨q, 0, none⟩ = some (.pointer (some ⟨p, 0, none⟩)))) (by kernel_rfl) (HS.out _ (Off.of (M := fun k => k = p ∨ k = bR) hdr (fun k e => by cases e))) (fun hHeld => ?_)
      refine wpAnyH_take (i := 0) (oi := { dst := some 22, op := Op.load 58 (Operand.tmp 6), type := 58, pos := "count.go:42", after := #[], guard := none }) (v := ?_) rfl (by kernel_rfl) (by kernel_rfl) (by kernel_rfl) (fun _ _ _ h => h) (Or.inl ⟨by rfl, ?_⟩) (by assumption) ?_
      rotate_left 1
      · (intro W hSW; (try dsimp only at hSW); first | (go_simp; done) | (go_simp; with_reducible rfl))
      try simp only [Act.put, List.setIfInBounds_toArray, List.set_cons_zero, List.set_cons_succ]
      refine wpAnyH_take (i := 1) (oi := { dst := some 23, op := Op.nilCheck (Operand.tmp 22), type := 0, pos := "count.go:42", after := #[{ on := 0, ground := Ground.data }], guard := none }) (v := ?_) rfl (by kernel_rfl) (by kernel_rfl) (by kernel_rfl) (fun _ _ _ h => h) (Or.inl ⟨by rfl, ?_⟩) (by assumption) ?_
      rotate_left 1
      · (intro W hSW; (try dsimp only at hSW); first | (go_simp; done) | (go_simp; with_reducible rfl))
      try simp only [Act.put, List.setIfInBounds_toArray, List.set_cons_zero, List.set_cons_succ]
      refine wpAnyH_take (i := 2) (oi := { dst := some 24, op := Op.fieldAddr 65 (Operand.tmp 23) 0, type := 0, pos := "count.go:42", after := #[{ on := 1, ground := Ground.data }], guard := none }) (v := ?_) rfl (by kernel_rfl) (by kernel_rfl) (by kernel_rfl) (fun _ _ _ h => h) (Or.inl ⟨by rfl, ?_⟩) (by assumption) ?_
      rotate_left 1
      · (intro W hSW; (try dsimp only at hSW); first | (go_simp; done) | (go_simp; with_reducible rfl))
      try simp only [Act.put, List.setIfInBounds_toArray, List.set_cons_zero, List.set_cons_succ]
      refine wpAnyH_take (i := 3) (oi := { dst := some 25, op := Op.load 63 (Operand.tmp 24), type := 63, pos := "count.go:42", after := #[{ on := 2, ground := Ground.data }], guard := none }) (v := ?_) rfl (by kernel_rfl) (by kernel_rfl) (by kernel_rfl) (fun _ _ _ h => h) (Or.inl ⟨by rfl, ?_⟩) (by assumption) ?_
      rotate_left 1
      · (intro W hSW; (try dsimp only at hSW); first | (go_simp; done) | (go_simp; with_reducible rfl))
      try simp only [Act.put, List.setIfInBounds_toArray, List.set_cons_zero, List.set_cons_succ]
      refine wpAnyH_take (i := 5) (oi := { dst := some 27, op := Op.load 33 (Operand.tmp 7), type := 33, pos := "count.go:42", after := #[{ on := 6, ground := Ground.gcOnly Departure.lateStores }], guard := none }) (v := ?_) rfl (by kernel_rfl) (by kernel_rfl) (by kernel_rfl) (fun _ _ _ h => h) (Or.inl ⟨by rfl, ?_⟩) (by assumption) ?_
      rotate_left 1
      · (intro W hSW; (try dsimp only at hSW); first | (go_simp; done) | (go_simp; with_reducible rfl))
      try simp only [Act.put, List.setIfInBounds_toArray, List.set_cons_zero, List.set_cons_succ]
      refine wpAnyH_ready (rs := [4]) (by kernel_rfl) (by simp) ?_
      refine (AllReadyH.cons (o := { dst := some 26, op := Op.call { callee := Callee.value (Operand.func 40), args := #[Operand.tmp 25], argTypes := #[63] }, type := 32, pos := "count.go:42", after := #[{ on := 3, ground := Ground.data }], guard := none }) rfl (fun K hK => ?_) AllReadyH.nil)
      rw [if_pos (by rfl)]
      go_simp
      go_at_call 40
      refine (gcircuit2_calls g9 p _ _ _ (HX9.out.grown hdr) HG9.out.2).mono ?_
      rintro e w8 ⟨a8, c8, rfl, hsp8, ho8⟩
      have hoff8 : Off (fun k => k = p ∨ k = bR) w7 w8 := (Off.of (M := fun k => k = p ∨ k = bR) hdr (fun k e => by cases e)).trans ho8 (fun k _ hk => .inl hk)
      have HW8 := Lib.hid hsp8.here
      have z8 := hoff8
      have hz8 : w8.cell? ⟨bR, 0, none⟩ = some (.slice none 0 0) ∧ w8.frozen? ⟨bR, 0, none⟩ = false := ⟨(Off.of (M := fun k => k = p) hdr (fun k e => by cases e)).trans ho8 (fun k _ hk => hk) |>.cell HZ.out.1 HPR.out, ((Off.of (M := fun k => k = p) hdr (fun k e => by cases e)).trans ho8 (fun k _ hk => hk) |>.frozen (lies_lt HZ.out.1) HPR.out 0).trans HZ.out.2⟩
      have HZ8 := Lib.hid hz8
      clear hz8 z8
      go_wp2_with fail
      refine hK.out _ _ (HS.out _ hoff8) (fun hHeld => ?_)
      clear hK K
      try simp only [Act.put, List.setIfInBounds_toArray, List.set_cons_zero, List.set_cons_succ]
      refine wpAnyH_ready (rs := [6]) (by kernel_rfl) (by simp) ?_
      refine (AllReadyH.cons (o := { dst := none, op := Op.store 32 (Operand.tmp 4) (Operand.tmp 26), type := 0, pos := "count.go:42", after := #[{ on := 4, ground := Ground.data }, { on := 4, ground := Ground.chain }, { on := 0, ground := Ground.phase }, { on := 1, ground := Ground.phase }, { on := 2, ground := Ground.phase }, { on := 3, ground := Ground.phase }, { on := 4, ground := Ground.phase }, { on := 5, ground := Ground.textOnly Departure.lateStores }], guard := none }) rfl (fun K hK => ?_) AllReadyH.nil)
      rw [if_pos (by rfl)]
      have z0 := HZ8.out.1
      have zf := HZ8.out.2
      go_simp
      clear z0 zf
      have HWF := Lib.hid (HW8.out.set HZ8.out.1 (.slice a8 g9.length c8))
      have HCF := Lib.hid (World.cell?_setCell_same w8 ⟨bR, 0, none⟩ (.slice a8 g9.length c8) HZ8.out.1)
      have hgs := Off.own hoff8 (grown_set w8 bR 0 (.slice a8 g9.length c8)) (fun k hk => by cases hk; exact .inl (.inr rfl))
      refine hK.out _ _ (HS.out _ hgs) (fun hHeld => ?_)
      clear hK K
      try simp only [Act.put, List.setIfInBounds_toArray, List.set_cons_zero, List.set_cons_succ]
      refine wpAnyH_take (i := 7) (oi := { dst := some 5, op := Op.assign (Operand.tmp 27), type := 33, pos := "count.go:42", after := #[{ on := 5, ground := Ground.data }, { on := 6, ground := Ground.chain }, { on := 0, ground := Ground.phase }, { on := 1, ground := Ground.phase }, { on := 2, ground := Ground.phase }, { on := 3, ground := Ground.phase }, { on := 4, ground := Ground.phase }, { on := 5, ground := Ground.phase }, { on := 6, ground := Ground.phase }], guard := none }) (v := ?_) rfl (by kernel_rfl) (by kernel_rfl) (by kernel_rfl) (fun _ _ _ h => h) (Or.inl ⟨by rfl, ?_⟩) (by assumption) ?_
      rotate_left 1
      · (intro W hSW; (try dsimp only at hSW); first | (go_simp; done) | (go_simp; with_reducible rfl))
      try simp only [Act.put, List.setIfInBounds_toArray, List.set_cons_zero, List.set_cons_succ]
      refine wpAnyH_done (by kernel_rfl) ?_ _
      have hEND := hgs
      clear hHeld
      have HEND := Lib.hid hEND
      obtain ⟨wF, hwF⟩ : ∃ z, w8.setCell ⟨bR, 0, none⟩ (.slice a8 g9.length c8) = z := ⟨_, rfl⟩
      rw [hwF] at HWF HCF HEND ⊢
      clear hwF hEND hgs hoff8 ho8 hsp8 hdr
      go_wp2_with fail
      refine bodyPost_ret (resB14 _ _ bR a8 g9.length c8 (.slice oa n oc) rfl rfl HCF.out) rfl ⟨a8, c8, oa, oc, ?_, ?_, ?_, ?_⟩
      · rw [HSO.out]; simp only; rw [HL9.out]
      · rw [HSO.out]; exact HWF.out
      · rw [HSO.out]; exact HRW.out wF HEND.out
      · exact Off.grown HG7.out HEND.out (fun k hk => hk.elim (fun h1 => by rw [h1]; exact HPQ.out.1) (fun h1 => by rw [h1]; exact HPQ.out.2))
end Go.Proofs.Ythagoihpppppkaa

/- The law LexerFirstError: truncated texts, and its walk. -/
import Derived.Test.YtmcokfalkkjgmaaDoorT
namespace Go.Proofs.YtmcokfalkkjgmaaDoor
open Go.RowKit

theorem cut_size {s : ByteArray} {e : Nat} (he : e ≤ s.size) : (s.extract 0 e).size = e := by rw [ByteArray.size_extract]; omega
theorem cut_sim {s : ByteArray} {e : Nat} (he : e ≤ s.size) : Sim s (s.extract 0 e) 0 0 e := by
  have := sim_extract (Nat.zero_le e) he; rwa [Nat.sub_zero] at this
theorem cut_bd {s : ByteArray} {e : Nat} (he : e ≤ s.size) : cur (s.extract 0 e) (0 + e) = 0 := cur_end (by rw [cut_size he]; omega)

theorem cut_err {s : ByteArray} {j : Nat} (hj : j < s.size) : ∀ n f, f ≤ s.size → s.size + 1 - skipEnd s f ≤ n → lexTo s n (skipEnd s f) = .error j →
    ∃ l, lexFrom (s.extract 0 j) (skipEnd (s.extract 0 j) f) = .ok l
  | 0, f, hf, hn, h => by simp [lexTo] at h
  | n + 1, f, hf, hn, h => by
    have hle : j ≤ s.size := Nat.le_of_lt hj
    have hge := lexTo_err_ge _ _ _ h
    have hb := skipEnd_bd hf
    have hk := skip_sim (cut_sim hle) (by rw [cut_bd hle]; decide) j f (by omega) (by omega) (by simp only [Nat.zero_add]; omega)
    simp only [Nat.zero_add, Nat.add_zero] at hk
    have hsz := cut_size hle
    by_cases hp : skipEnd s f = j
    · have := hk.2 hp (.inl hsz.symm)
      rw [this]
      have he := skipEnd_end (s.extract 0 j)
      rw [hsz] at he
      rw [he, lexFrom_end (by omega)]
      exact ⟨_, rfl⟩
    · have hlt : skipEnd s f < j := by omega
      rw [hk.1 hlt]
      simp only [lexTo, show skipEnd s f < s.size by omega, if_true] at h
      cases ho : tokOk s (skipEnd s f)
      · rw [ho] at h; simp at h; omega
      · rw [ho] at h
        simp only [if_true] at h
        have h3 := tokEnd_gt (show skipEnd s f < s.size by omega) ho
        have h4 := skipEnd_bd h3.2
        cases hr : lexTo s n (skipEnd s (tokEnd s (skipEnd s f))) with
        | ok m => rw [hr] at h; cases h
        | error e =>
          rw [hr] at h; cases h
          have h5 := lexTo_err_ge _ _ _ hr
          have ht := tok_sim (cut_sim hle) (by rw [cut_bd hle]; rfl) hlt (by simp only [Nat.zero_add]; omega) (.inl (by simp only [Nat.zero_add]; exact ho))
          simp only [Nat.zero_add, Nat.add_zero] at ht
          obtain ⟨l, hl⟩ := cut_err hj n _ h3.2 (by omega) hr
          refine ⟨[tokAt (s.extract 0 j) (skipEnd s f)] ++ l, ?_⟩
          rw [lexFrom_tok (by omega) (by rw [ht.2.2]; exact ho), ht.2.1, hl]; rfl
theorem first_cut {s : ByteArray} {j : Nat} (h : lex s = .error j) : ∃ l, lex (s.extract 0 j) = .ok l :=
  cut_err (lexTo_err _ _ _ h).1 _ 0 (Nat.zero_le _) (Nat.le_refl _) h

theorem err_skip {s : ByteArray} : ∀ n f e, f ≤ s.size → lexTo s n (skipEnd s f) = .error e → skipEnd s e = e
  | 0, f, e, hf, h => by simp [lexTo] at h
  | n + 1, f, e, hf, h => by
    simp only [lexTo] at h
    split at h
    · rename_i hlt
      split at h
      · rename_i ho
        have h3 := tokEnd_gt hlt ho
        cases hr : lexTo s n (skipEnd s (tokEnd s (skipEnd s f))) with
        | error e' => rw [hr] at h; cases h; exact err_skip n _ _ h3.2 hr
        | ok m => rw [hr] at h; cases h
      · cases h; exact skipEnd_idem _ f (Nat.le_refl _) hf
    · cases h
theorem first_rest {s : ByteArray} {j : Nat} (h : lex s = .error j) : lex (s.extract j s.size) = .error 0 := by
  obtain ⟨hj, ho⟩ := lexTo_err _ _ _ h
  have hs := err_skip _ 0 j (Nat.zero_le _) h
  have sm := sim_extract (s := s) (Nat.le_of_lt hj) (Nat.le_refl _)
  have hsz : (s.extract j s.size).size = s.size - j := by rw [ByteArray.size_extract]; omega
  have h0 : cur (s.extract j s.size) (0 + (s.size - j)) = 0 := cur_end (by rw [hsz]; omega)
  have hk := (skip_sim sm (by rw [h0]; decide) (s.size - j) 0 (by omega) (by omega) (by simp only [Nat.add_zero]; omega)).1 (by simp only [Nat.add_zero]; omega)
  have ht := tok_sim sm (by rw [h0]; rfl) (i := 0) (by omega) (by simp only [Nat.add_zero]; have := (tokEnd_le hj).2; omega) (.inr (by omega))
  simp only [Nat.add_zero] at hk ht
  have e0 : skipEnd (s.extract j s.size) 0 = 0 := by omega
  rw [lex, e0]
  exact lexFrom_err (by omega) (by rw [ht.2.2]; exact ho)

theorem chain_at {s : ByteArray} : ∀ (l : List Tok) (f i : Nat) (t : Tok), f ≤ s.size → Chain s f l → l[i]? = some t → f ≤ t.start ∧ t.start < t.stop ∧ t.stop ≤ s.size
  | [], f, i, t, hf, hc, h => by simp at h
  | x :: l, f, i, t, hf, hc, h => by
    obtain ⟨c1, c2, c3, c4, c5⟩ := hc
    have h3 := tokEnd_gt c2 c3
    have hst : x.stop = tokEnd s x.start := by rw [c4]; rfl
    have hb := skipEnd_bd hf
    cases i with
    | zero => simp at h; subst h; omega
    | succ i =>
      have := chain_at l x.stop i t (by omega) c5 (by simpa using h)
      omega
theorem cut_ok {s : ByteArray} : ∀ (l : List Tok) (f k : Nat) (t : Tok), f ≤ s.size → Chain s f l → l[k]? = some t → lexFrom (s.extract 0 t.stop) (skipEnd (s.extract 0 t.stop) f) = .ok (l.take (k + 1))
  | [], f, k, t, hf, hc, h => by simp at h
  | x :: l, f, k, t, hf, hc, h => by
    have hat := chain_at _ f k t hf hc h
    obtain ⟨c1, c2, c3, c4, c5⟩ := hc
    have h3 := tokEnd_gt c2 c3
    have hst : x.stop = tokEnd s x.start := by rw [c4]; rfl
    have hb := skipEnd_bd hf
    have hxe : x.stop ≤ t.stop := by
      cases k with
      | zero => simp at h; subst h; exact Nat.le_refl _
      | succ k => have := chain_at l x.stop k t (by omega) c5 (by simpa using h); omega
    have hsz := cut_size hat.2.2
    have hk := (skip_sim (cut_sim hat.2.2) (by rw [cut_bd hat.2.2]; decide) t.stop f (by omega) (by omega) (by simp only [Nat.zero_add]; omega)).1 (by simp only [Nat.zero_add]; omega)
    simp only [Nat.zero_add, Nat.add_zero] at hk
    have ht := tok_sim (cut_sim hat.2.2) (by rw [cut_bd hat.2.2]; rfl) (i := x.start) (by omega) (by simp only [Nat.zero_add]; omega) (.inl (by simp only [Nat.zero_add]; exact c3))
    simp only [Nat.zero_add, Nat.add_zero] at ht
    have et : tokAt (s.extract 0 t.stop) x.start = x := by
      have : tokAt (s.extract 0 t.stop) x.start = tokAt s x.start := by rw [tokAt, tokAt, ht.1, ht.2.1]
      rw [this, ← c4]
    rw [hk, ← c1, lexFrom_tok (by omega) (by rw [ht.2.2]; exact c3), ht.2.1, ← hst, et]
    cases k with
    | zero =>
      simp at h; subst h
      have he := skipEnd_end (s.extract 0 x.stop)
      rw [hsz] at he
      rw [he, lexFrom_end (by omega)]; rfl
    | succ k =>
      rw [cut_ok l x.stop k t (by omega) c5 (by simpa using h)]; rfl
theorem text_cut {s : ByteArray} {a b e : Nat} (hb : b ≤ e) (he : e ≤ s.size) : (s.extract 0 e).extract a b = s.extract a b := by
  apply ext_cur
  · rw [ByteArray.size_extract, ByteArray.size_extract, ByteArray.size_extract]; omega
  · intro i _
    rw [cur_extract (s := s.extract 0 e) (by rw [cut_size he]; exact hb), cur_extract (s := s) (a := a) (b := b) (by omega)]
    split
    · rw [cur_extract he, if_pos (by omega), Nat.zero_add]
    · rfl
theorem toks_congr {s u : ByteArray} : ∀ l : List Tok, (∀ t ∈ l, t.text s = t.text u) → toks s l = toks u l
  | [], _ => rfl
  | x :: l, h => by
    have e1 := h x (by simp)
    have ih := toks_congr l (fun t ht => h t (by simp [ht]))
    simp only [toks, List.flatMap_cons] at ih ⊢
    rw [ih]; simp [Tok.cells, e1]
theorem chain_mono {s : ByteArray} : ∀ (l : List Tok) (f i j : Nat) (t t' : Tok), f ≤ s.size → Chain s f l → l[i]? = some t → l[j]? = some t' → i ≤ j → t.stop ≤ t'.stop
  | [], f, i, j, t, t', hf, hc, h, h', hij => by simp at h
  | x :: l, f, i, j, t, t', hf, hc, h, h', hij => by
    have hc' := hc
    obtain ⟨c1, c2, c3, c4, c5⟩ := hc
    have h3 := tokEnd_gt c2 c3
    have hst : x.stop = tokEnd s x.start := by rw [c4]; rfl
    cases j with
    | zero =>
      have : i = 0 := by omega
      subst this; rw [h] at h'; cases h'; exact Nat.le_refl _
    | succ j =>
      cases i with
      | zero =>
        simp at h; subst h
        have := chain_at l x.stop j t' (by omega) c5 (by simpa using h'); omega
      | succ i => exact chain_mono l x.stop i j t t' (by omega) c5 (by simpa using h) (by simpa using h') (by omega)
theorem cut_toks {s : ByteArray} {l : List Tok} {k : Nat} {t : Tok} (hc : Chain s 0 l) (h : l[k]? = some t) : toks (s.extract 0 t.stop) (l.take (k + 1)) = toks s (l.take (k + 1)) := by
  have hat := chain_at _ 0 k t (Nat.zero_le _) hc h
  refine toks_congr _ fun x hx => ?_
  obtain ⟨i, hi⟩ := List.getElem?_of_mem hx
  rw [List.getElem?_take] at hi
  split at hi
  · have := chain_mono _ 0 i k x t (Nat.zero_le _) hc hi h (by omega)
    exact text_cut this hat.2.2
  · cases hi
theorem Reads.take {w : World} {s : ByteArray} {l : List Tok} {g cap k : Nat} (h : TokRow w s l g cap) (hk : k ≤ l.length) : Reads w (.slice (some ⟨g, 0, none⟩) k cap) s (l.take k) := by
  have hl : (l.take k).length = k := by rw [List.length_take]; omega
  refine .inr ⟨g, cap, by rw [hl], h.lt, by have := h.room; omega, h.capm, fun j u hu => h.cells j u ?_⟩
  have e : toks s l = toks s (l.take k) ++ toks s (l.drop k) := by
    rw [toks, toks, toks, ← List.flatMap_append, List.take_append_drop]
  rw [e, List.getElem?_append_left (by rw [List.getElem?_eq_some_iff] at hu; exact hu.1)]
  exact hu

set_option maxRecDepth 100000 in
set_option maxHeartbeats 1000000 in
theorem first_calls (s0 : ByteArray) (a : Nat) (w : World) (hs : s0.size ≤ maxLen) (ha : a < 256) (hy : SymsAt w) :
    Calls Tryd.prog 7 #[.string s0, .int .u8 (a : Int)] w fun e w' => e = .returned (.bool true) ∧ w.grownBy w' none := by
  have HS := Lib.hid hs
  have ht := fewS_size s0
  go_enter Tryd.func7, Tryd.ntmps7
  go_wp2_with fail
  refine (head_calls w hy).mono ?_
  rintro e w1 ⟨rfl, g1⟩
  have hy1 := hy.grown0 g1
  go_wp2_with fail
  refine (few_calls s0 w1 HS.out).mono ?_
  rintro e w2 ⟨rfl, rfl⟩
  obtain ⟨s, het⟩ : ∃ t, fewS s0 = t := ⟨_, rfl⟩
  rw [het] at ht ⊢
  clear het hs
  have htm : s.size ≤ maxLen := by unfold maxLen; omega
  have HTM := Lib.hid htm; clear htm
  have HT := Lib.hid ht
  go_wp2_with fail
  refine (lex_calls s w1 HTM.out hy1).mono ?_
  rintro e w2 h2
  cases hl : lex s with
  | error j =>
    obtain ⟨rfl, g2⟩ := lex_err (by omega) hl h2
    have hj := (lexTo_err _ _ _ hl).1
    have hjI : (j : Int) < (s.size : Int) := by omega
    have hj0 : decide ((j : Int) < 0) = false := by simp
    have hj1 : decide ((s.size : Int) ≤ (j : Int)) = false := by simp; omega
    have HL := Lib.hid hl
    have HY := Lib.hid (hy1.grown0 g2)
    clear hl h2 hy1 hy
    go_wp2_with fail
    refine (lex_calls (s.extract 0 j) w2 (by have := HT.out; rw [cut_size (by omega)]; unfold maxLen; omega) HY.out).mono ?_
    rintro e w3 h3
    obtain ⟨l, hl⟩ := first_cut HL.out
    obtain ⟨v, rfl, _, g3⟩ := lex_ok (by rw [cut_size (by omega)]; omega) hl h3
    clear hl h3
    go_wp2_with fail
    refine (lex_calls (s.extract j s.size) w3 (by have := HT.out; rw [ByteArray.size_extract]; unfold maxLen; omega) (HY.out.grown0 g3)).mono ?_
    rintro e w4 h4
    obtain ⟨rfl, g4⟩ := lex_err (by rw [ByteArray.size_extract]; omega) (first_rest HL.out) h4
    clear h4
    go_wp2
    go_ret
    exact ⟨rfl, ((g1.trans g2).trans g3).trans g4⟩
  | ok l =>
    obtain ⟨v, rfl, r2, g2⟩ := lex_ok (by omega) hl h2
    have hch := chain_lex hl
    have hll := lex_len hl
    have HG := Lib.hid (g1.trans g2)
    have HY := Lib.hid (hy1.grown0 g2)
    clear hl h2 g1 g2 hy1 hy
    rcases r2 with ⟨rfl, a, c, rfl⟩ | ⟨g, cap, rfl, hr⟩
    · have hc0 : skipEnd s 0 = s.size := hch
      have HV := Lib.hid hc0; clear hc0 hch
      go_wp2_with fail
      refine (void_calls s w2 HTM.out HV.out).mono ?_
      rintro e w4 ⟨rfl, rfl⟩
      go_wp2
      go_ret
      exact ⟨rfl, HG.out⟩
    · by_cases hn0 : l.length = 0
      · have : l = [] := List.eq_nil_of_length_eq_zero hn0
        subst this
        have hc0 : skipEnd s 0 = s.size := hch
        have HV := Lib.hid hc0; clear hc0 hch hr hn0
        go_wp2_with fail
        refine (void_calls s w2 HTM.out HV.out).mono ?_
        rintro e w4 ⟨rfl, rfl⟩
        go_wp2
        go_ret
        exact ⟨rfl, HG.out⟩
      · have hpos : a % l.length < l.length := Nat.mod_lt _ (by omega)
        obtain ⟨t, ht'⟩ : ∃ t, l[a % l.length]? = some t := ⟨_, List.getElem?_eq_getElem hpos⟩
        have hcut := cut_ok l 0 _ t (Nat.zero_le _) hch ht'
        have hct := cut_toks hch ht'
        have hat := chain_at _ 0 _ t (Nat.zero_le _) hch ht'
        obtain ⟨a1, a2, a3⟩ := toks_get s l _ t ht'
        have b2 := hr.cells _ _ a2
        have b3 := hr.cells _ _ a3
        have hrem : (a : Int) % (l.length : Int) = ((a % l.length : Nat) : Int) := by omega
        have HTK := Lib.hid (Reads.take hr (show a % l.length + 1 ≤ l.length by omega))
        have hroom := hr.room
        have hcapm := hr.capm
        unfold maxLen at hcapm
        obtain ⟨n, hn⟩ : ∃ n, l.length = n := ⟨_, rfl⟩
        rw [hn] at hll hn0 hpos hrem hroom b2 b3 hcut hct HTK ⊢
        obtain ⟨k, hk⟩ : ∃ k, a % n = k := ⟨_, rfl⟩
        rw [hk] at hpos hrem b2 b3 hcut hct HTK
        have HK := Lib.hid hk; clear hk
        have HN := Lib.hid hn; clear hn
        clear a1 a2 a3 hr ht' hch
        obtain ⟨kd, st, en⟩ := t
        simp only [Tok.text] at hcut hct hat b2 b3
        obtain ⟨x, hx⟩ : ∃ x, s.extract st en = x := ⟨_, rfl⟩
        have hxs : x.size = en - st := by rw [← hx, ByteArray.size_extract]; omega
        rw [hx] at b2
        have hadd : (st : Int) + (x.size : Int) = (en : Int) := by omega
        have hx1 : (x.size : Int) ≤ 20000 := by omega
        have HCU := Lib.hid (And.intro hcut hct); clear hcut hct hx hxs
        have hnz : (((n : Nat) : Int) == 0) = false := by rw [beq_eq_false_iff_ne]; omega
        have hkI : (k : Int) < (n : Int) := by omega
        have e1 : decide ((en : Int) < 0) = false := by simp
        have e2 : decide ((s.size : Int) < (en : Int)) = false := by simp; omega
        have e3 : (en : Int) ≤ (s.size : Int) := by omega
        go_wp2
        go_quiet (fail)
        go_wp2_with fail
        refine (lex_calls (s.extract 0 en) _ (by have := HT.out; rw [cut_size (by omega)]; unfold maxLen; omega) (HY.out.grown0 (grown_drewN _ _ _))).mono ?_
        rintro e w3 h3
        obtain ⟨v, rfl, r3, g3⟩ := lex_ok (by rw [cut_size (by omega)]; omega) HCU.out.1 h3
        clear h3
        go_wp2_with fail
        refine (same_reads r3 ((HTK.out.grown (grown_drewN _ _ _)).grown g3) HCU.out.2 (by rw [List.length_take, HN.out]; omega)).mono ?_
        rintro e w4 ⟨rfl, nd, rfl⟩
        go_wp2
        go_ret
        exact ⟨rfl, ((HG.out.trans (grown_drewN _ _ _)).trans g3).trans (grown_drewN _ _ _)⟩
end Go.Proofs.YtmcokfalkkjgmaaDoor

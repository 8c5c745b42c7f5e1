/- The law LexerStable: the texts of tokens, glued with gaps. -/
import Derived.Test.YtmcokfalkkjgmaaDoorAb
namespace Go.Proofs.YtmcokfalkkjgmaaDoor
open Go.RowKit

def gapBytes : List (List UInt8) := [[32], [10], [32, 9, 13, 10], [32, 47, 47, 120, 10], [10, 47, 47, 32, 97, 32, 47, 32, 98, 32, 47, 47, 32, 10, 10]]
def gapB (k : Nat) : ByteArray := ⟨(gapBytes.getD k []).toArray⟩
theorem gap_facts : ∀ k : Fin 5, 0 < (gapB k).size ∧ (gapB k).size ≤ 15 ∧ bnd (cur (gapB k) 0) = true ∧ skipEnd (gapB k) 0 = (gapB k).size := by decide +kernel
theorem gap_closed : ∀ k : Fin 5, ∀ i : Fin 15, (i : Nat) < (gapB k).size → onCom (gapB k) i = true → lineEnd (gapB k) i ≠ (gapB k).size := by decide +kernel

def glue (s : ByteArray) : List Tok → List Nat → ByteArray
  | t :: l, k :: ks => (t.text s ++ gapB k) ++ glue s l ks
  | _, _ => ByteArray.empty
def Good (s : ByteArray) (l : List Tok) : Prop := ∀ t ∈ l, t.start < t.stop ∧ t.stop ≤ s.size ∧ tokOk s t.start = true ∧ t = tokAt s t.start

theorem app_assoc (a b c : ByteArray) : (a ++ b) ++ c = a ++ (b ++ c) := ByteArray.append_assoc
theorem glue_snoc {s : ByteArray} {t : Tok} {k : Nat} : ∀ (l : List Tok) (ks : List Nat), l.length = ks.length → glue s (l ++ [t]) (ks ++ [k]) = (glue s l ks ++ t.text s) ++ gapB k
  | [], [], _ => by simp [glue]
  | [], _ :: _, h => by simp at h
  | _ :: _, [], h => by simp at h
  | x :: l, y :: ks, h => by
    have ih := glue_snoc (s := s) (t := t) (k := k) l ks (by simpa using h)
    simp only [List.cons_append, glue, ih, app_assoc]

theorem chain_good {s : ByteArray} : ∀ (l : List Tok) (f : Nat), f ≤ s.size → Chain s f l → Good s l
  | [], f, hf, hc, t, ht => by cases ht
  | x :: l, f, hf, hc, t, ht => by
    obtain ⟨c1, c2, c3, c4, c5⟩ := hc
    have h3 := tokEnd_gt c2 c3
    have hst : x.stop = tokEnd s x.start := by rw [c4]; rfl
    rcases List.mem_cons.1 ht with rfl | ht
    · exact ⟨by omega, by omega, c3, c4⟩
    · exact chain_good l x.stop (by omega) c5 t ht

theorem text_size {s : ByteArray} {t : Tok} (h : t.stop ≤ s.size) : (t.text s).size = t.stop - t.start := by
  unfold Tok.text; rw [ByteArray.size_extract]; omega
theorem text_cur {s : ByteArray} {t : Tok} (h : t.stop ≤ s.size) {i : Nat} (hi : i < t.stop - t.start) : cur (t.text s) i = cur s (t.start + i) := by
  unfold Tok.text; rw [cur_extract h, if_pos (by omega)]

theorem glue_first {s : ByteArray} : ∀ (l : List Tok) (ks : List Nat), Good s l → (glue s l ks).size = 0 ∨ (isSpace (cur (glue s l ks) 0) = false ∧ cur (glue s l ks) 0 ≠ 47)
  | [], _, _ => .inl (by simp [glue])
  | _ :: _, [], _ => .inl (by simp [glue])
  | t :: l, k :: ks, h => by
    obtain ⟨h1, h2, h3, h4⟩ := h t (by simp)
    refine .inr ?_
    have e : cur (glue s (t :: l) (k :: ks)) 0 = cur s t.start := by
      simp only [glue]
      have hs := text_size h2
      rw [cur_app, if_pos (by rw [size_app]; omega), cur_app, if_pos (by omega), text_cur h2 (by omega), Nat.add_zero]
    rw [e]; exact tok_first h3
theorem glue_skip {s : ByteArray} {l : List Tok} {ks : List Nat} (h : Good s l) : skipEnd (glue s l ks) 0 = 0 := by
  rcases glue_first l ks h with h | h
  · have := skipEnd_end (glue s l ks); rw [h] at this; exact this
  · exact tok_skip (Nat.zero_le _) h
theorem glue_slash {s : ByteArray} {l : List Tok} {ks : List Nat} (h : Good s l) : cur (glue s l ks) 0 ≠ 47 := by
  rcases glue_first l ks h with h | h
  · rw [cur_end (by omega)]; decide
  · exact h.2

theorem glue_lex {s : ByteArray} : ∀ (l : List Tok) (ks : List Nat), Good s l → l.length = ks.length → (∀ k ∈ ks, k < 5) →
    ∃ m, lex (glue s l ks) = .ok m ∧ m.length = l.length ∧ ∀ (i : Nat) (t : Tok), l[i]? = some t → ∃ t', m[i]? = some t' ∧ t'.kind = t.kind ∧ t'.text (glue s l ks) = t.text s
  | [], ks, _, _, _ => by
    refine ⟨[], ?_, rfl, fun i t h => by simp at h⟩
    have e : glue s [] ks = ByteArray.empty := by cases ks <;> rfl
    rw [e]; rfl
  | t :: l, [], _, h, _ => by simp at h
  | t :: l, k :: ks, hg, hlen, hks => by
    obtain ⟨h1, h2, h3, h4⟩ := hg t (by simp)
    have hgl : Good s l := fun x hx => hg x (by simp [hx])
    have hk : k < 5 := hks k (by simp)
    obtain ⟨g1, g2, g3, g4⟩ := gap_facts ⟨k, hk⟩
    have g5 := gap_closed ⟨k, hk⟩
    simp only at g1 g2 g3 g4 g5
    obtain ⟨m', hm', hml, hmt⟩ := glue_lex l ks hgl (by simpa using hlen) (fun k hk => hks k (by simp [hk]))
    have hT0 := glue_skip (ks := ks) hgl
    have hT47 := glue_slash (ks := ks) hgl
    have hxs := text_size h2
    have hxc := fun i hi => text_cur h2 (i := i) hi
    simp only [glue]
    obtain ⟨x, hx⟩ : ∃ x, t.text s = x := ⟨_, rfl⟩
    obtain ⟨g, hgg⟩ : ∃ g, gapB k = g := ⟨_, rfl⟩
    obtain ⟨T, hT⟩ : ∃ T, glue s l ks = T := ⟨_, rfl⟩
    rw [hx] at hxs hxc ⊢
    rw [hgg] at g1 g2 g3 g4 g5 ⊢
    rw [hT] at hm' hmt hT0 hT47 ⊢
    obtain ⟨n, hn⟩ : ∃ n, t.stop - t.start = n := ⟨_, rfl⟩
    rw [hn] at hxs hxc
    obtain ⟨u, hu⟩ : ∃ u, (x ++ g) ++ T = u := ⟨_, rfl⟩
    rw [hu]
    have hus : u.size = n + g.size + T.size := by rw [← hu, size_app, size_app, hxs]
    have u1 : ∀ i, i < n → cur u i = cur s (t.start + i) := fun i hi => by
      rw [← hu, cur_app, if_pos (by rw [size_app]; omega), cur_app, if_pos (by omega)]; exact hxc i hi
    have u2 : ∀ i, i < g.size → cur u (n + i) = cur g i := fun i hi => by
      rw [← hu, cur_app, if_pos (by rw [size_app]; omega), cur_app, if_neg (by omega), hxs, Nat.add_sub_cancel_left]
    have u3 : ∀ i, cur u (n + g.size + i) = cur T i := fun i => by
      rw [← hu, cur_app, if_neg (by rw [size_app]; omega), size_app, hxs, Nat.add_sub_cancel_left]
    have hstop : t.stop = tokEnd s t.start := by rw [h4]; rfl
    have s1 : Sim s u t.start 0 n := ⟨by omega, by omega, fun i hi => by rw [Nat.zero_add]; exact u1 i hi⟩
    have ht := tok_sim s1 (by rw [Nat.zero_add]; have := u2 0 g1; rw [Nat.add_zero] at this; rw [this]; exact g3) (i := 0) (by omega) (by rw [Nat.add_zero]; omega) (.inl (by rw [Nat.add_zero]; exact h3))
    simp only [Nat.add_zero] at ht
    have hte : tokEnd u 0 = n := by omega
    have hf : isSpace (cur u 0) = false ∧ cur u 0 ≠ 47 := by rw [u1 0 (by omega), Nat.add_zero]; exact tok_first h3
    have s2 : Sim g u 0 n g.size := ⟨by omega, by omega, fun i hi => by rw [Nat.zero_add]; exact u2 i hi⟩
    have hk1 := (skip_sim' s2 (by have := u3 0; rw [Nat.add_zero] at this; rw [this]; exact hT47) g.size 0 (by omega) (Nat.zero_le _) (by rw [Nat.zero_add, Nat.zero_add, g4]; exact Nat.le_refl _)).2 (by rw [Nat.zero_add, Nat.zero_add, g4])
      (.inr (.inr fun i hi => by rw [Nat.zero_add, Nat.zero_add]; exact g5 ⟨i, by omega⟩ hi))
    rw [Nat.add_zero] at hk1
    have s3 : Sim T u 0 (n + g.size) (T.size - 0) := ⟨by omega, by omega, fun i _ => by rw [Nat.zero_add]; exact u3 i⟩
    have hk2 := ends_skip s3 (by omega) (i := 0) (Nat.zero_le _)
    simp only [Nat.add_zero, hT0, Nat.zero_add] at hk2
    have hl0 : lexFrom T 0 = .ok m' := by rw [← hm', lex, hT0]
    have hl := ends_lex s3 (by omega) (T.size + 1) 0 (Nat.zero_le _) (by omega) _ hl0
    simp only [Nat.add_zero, Nat.sub_zero] at hl
    have hlex : lex u = .ok (tokAt u 0 :: m'.map fun t => ⟨t.kind, t.start + (n + g.size), t.stop + (n + g.size)⟩) := by
      rw [lex, tok_skip (Nat.zero_le _) hf, lexFrom_tok (by omega) (by rw [ht.2.2]; exact h3), hte, hk1, hk2, hl]; rfl
    refine ⟨_, hlex, by simp [hml], ?_⟩
    intro i t2 hi
    cases i with
    | zero =>
      simp at hi; subst hi
      refine ⟨tokAt u 0, rfl, ?_, ?_⟩
      · show tokKind u 0 = t.kind
        rw [ht.1, h4]; rfl
      · rw [hx]
        show u.extract 0 (tokEnd u 0) = _
        rw [hte]
        apply ext_cur
        · rw [ByteArray.size_extract, hxs]; omega
        · intro j _
          rw [cur_extract (by omega), Nat.zero_add]
          by_cases hj : j < n
          · rw [if_pos hj, u1 j hj, hxc j hj]
          · rw [if_neg hj, cur_end (by omega)]
    | succ i =>
      obtain ⟨t', e1, e2, e3⟩ := hmt i t2 (by simpa using hi)
      refine ⟨⟨t'.kind, t'.start + (n + g.size), t'.stop + (n + g.size)⟩, by simp [e1], e2, ?_⟩
      rw [← e3]
      have hst := (chain_at m' 0 i t' (Nat.zero_le _) (chain_lex hm') e1).2.2
      unfold Tok.text
      simp only
      apply ext_cur
      · rw [ByteArray.size_extract, ByteArray.size_extract]; omega
      · intro j _
        rw [cur_extract (by omega), cur_extract hst]
        by_cases hj : t'.start + j < t'.stop
        · rw [if_pos hj, if_pos (by omega), show t'.start + (n + g.size) + j = n + g.size + (t'.start + j) by omega, u3]
        · rw [if_neg hj, if_neg (by omega)]
end Go.Proofs.YtmcokfalkkjgmaaDoor

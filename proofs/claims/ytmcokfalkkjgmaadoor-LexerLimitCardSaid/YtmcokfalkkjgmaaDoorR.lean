/- The law LexerOffsets, walked. -/
import Derived.Test.YtmcokfalkkjgmaaDoorQ
namespace Go.Proofs.YtmcokfalkkjgmaaDoor
open Go.RowKit

set_option maxHeartbeats 400000 in
theorem void_calls (s : ByteArray) (w : World) (hs : s.size ≤ maxLen) (hv : skipEnd s 0 = s.size) : Calls Tryd.prog 16 #[.string s] w fun e w' => e = .returned (.bool true) ∧ w = w' := by
  have HS := Lib.hid hs
  have HV := Lib.hid hv; clear hv
  go_enter Tryd.func16, Tryd.ntmps16
  go_wp2_with fail
  refine (refGap_calls s 0 w HS.out (Nat.zero_le _)).mono ?_
  rintro e w1 ⟨rfl, rfl⟩
  rw [HV.out]
  go_wp2
  go_ret
  exact ⟨ret_bool (by simp), rfl⟩

/-- Behind f the tokens l stand in s, with gaps between them, to the end. -/
def Chain (s : ByteArray) : Nat → List Tok → Prop
  | f, [] => skipEnd s f = s.size
  | f, t :: l => t.start = skipEnd s f ∧ t.start < s.size ∧ tokOk s t.start = true ∧ t = tokAt s t.start ∧ Chain s t.stop l
theorem chain_of {s : ByteArray} : ∀ n f l, f ≤ s.size → s.size + 1 - skipEnd s f ≤ n → lexTo s n (skipEnd s f) = .ok l → Chain s f l
  | 0, f, l, hf, hn, h => by have := skipEnd_bd hf; omega
  | n + 1, f, l, hf, hn, h => by
    have hb := skipEnd_bd hf
    simp only [lexTo] at h
    split at h
    · rename_i hlt
      split at h
      · rename_i ho
        have h3 := tokEnd_gt hlt ho
        have h4 := skipEnd_bd h3.2
        cases hr : lexTo s n (skipEnd s (tokEnd s (skipEnd s f))) with
        | error e => rw [hr] at h; cases h
        | ok m =>
          rw [hr] at h
          have ih := chain_of n _ m h3.2 (by omega) hr
          cases h
          exact ⟨rfl, hlt, ho, rfl, ih⟩
      · cases h
    · cases h; show skipEnd s f = s.size; omega
theorem chain_lex {s : ByteArray} {l : List Tok} (h : lex s = .ok l) : Chain s 0 l :=
  chain_of _ 0 l (Nat.zero_le _) (Nat.le_refl _) h
theorem lexTo_err {s : ByteArray} : ∀ n j e, lexTo s n j = .error e → e < s.size ∧ tokOk s e = false
  | 0, j, e, h => by simp [lexTo] at h
  | n + 1, j, e, h => by
    simp only [lexTo] at h
    split at h
    · rename_i hlt
      split at h
      · cases hr : lexTo s n (skipEnd s (tokEnd s j)) with
        | error e' => rw [hr] at h; cases h; exact lexTo_err n _ _ hr
        | ok m => rw [hr] at h; cases h
      · rename_i ho
        cases h
        exact ⟨hlt, by simpa using ho⟩
    · cases h

theorem tokKind_bd (s : ByteArray) (k : Nat) : 1 ≤ tokKind s k ∧ tokKind s k ≤ 3 := by
  unfold tokKind; split
  · omega
  · split <;> omega

set_option maxRecDepth 100000 in
set_option maxHeartbeats 1000000 in
theorem offsets_calls (s0 : ByteArray) (w : World) (hs : s0.size ≤ maxLen) (hy : SymsAt w) :
    Calls Tryd.prog 4 #[.string s0] w fun e w' => e = .returned (.bool true) ∧ w.grownBy w' none := by
  have HS := Lib.hid hs
  have ht := fewS_size s0
  go_enter Tryd.func4, Tryd.ntmps4
  go_wp2_with fail
  refine (head_calls w hy).mono ?_
  rintro e w1 ⟨rfl, g1⟩
  have hy1 := hy.grown0 g1
  go_wp2_with fail
  refine (few_calls s0 w1 HS.out).mono ?_
  rintro e w2 ⟨rfl, rfl⟩
  obtain ⟨s, het⟩ : ∃ t, fewS s0 = t := ⟨_, rfl⟩
  rw [het] at ht ⊢
  clear het hs
  have htm : s.size ≤ maxLen := by unfold maxLen; omega
  have HTM := Lib.hid htm; clear htm
  have HT := Lib.hid ht
  go_wp2_with fail
  refine (lex_calls s w1 HTM.out hy1).mono ?_
  rintro e w2 h2
  cases hl : lex s with
  | error j =>
    obtain ⟨rfl, g2⟩ := lex_err (by omega) hl h2
    have hj := (lexTo_err _ _ _ hl).1
    have hjI : (j : Int) < (s.size : Int) := by omega
    clear hl h2
    go_wp2
    go_ret
    exact ⟨rfl, g1.trans g2⟩
  | ok l =>
    obtain ⟨v, rfl, r2, g2⟩ := lex_ok (by omega) hl h2
    have hch := chain_lex hl
    have hll := lex_len hl
    have HG := Lib.hid (g1.trans g2)
    clear hl h2 g1 g2 hy1 hy
    rcases r2 with ⟨rfl, a, c, rfl⟩ | ⟨g, cap, rfl, hr⟩
    · have hc0 : skipEnd s 0 = s.size := hch
      have HV := Lib.hid hc0; clear hc0 hch
      go_wp2
      go_loopg [8, 9] 0 (fun _ s8 s9 wr => s8 = .int .i64 0 ∧ s9 = .int .i64 0 ∧ w2 = wr)
      case atStart => exact ⟨rfl, rfl, rfl⟩
      case round =>
        obtain ⟨rfl, rfl, rfl⟩ := hrel
        go_wp2_with fail
        refine (void_calls s w2 HTM.out HV.out).mono ?_
        rintro e w4 ⟨rfl, rfl⟩
        go_wp2
        go_ret
        exact ⟨rfl, HG.out⟩
    · obtain ⟨n, hn⟩ : ∃ n, l.length = n := ⟨_, rfl⟩
      rw [hn] at hll ⊢
      have HN := Lib.hid hn; clear hn
      have HR := Lib.hid hr; clear hr
      have HCH := Lib.hid hch; clear hch
      go_wp2
      go_loopg [8, 9] n (fun k s8 s9 wr => ∃ (i f : Nat), s9 = .int .i64 (i : Int) ∧ s8 = .int .i64 (f : Int) ∧ k = n - i ∧ i ≤ n ∧ f ≤ s.size ∧ Chain s f (l.drop i) ∧ w2.grownBy wr none)
      case atStart => exact ⟨0, 0, rfl, rfl, rfl, by omega, by omega, HCH.out, grown_refl _ _⟩
      case round =>
        obtain ⟨i, f, rfl, rfl, hk, hi, hf, hc, hgr⟩ := hrel
        have HK := Lib.hid hk; clear hk
        by_cases hin : i < n
        · have hinI : decide ((i : Int) < (n : Int)) = true := by simp; omega
          have hinI2 : (i : Int) < (n : Int) := by omega
          have hnl := HN.out
          obtain ⟨t, ht'⟩ : ∃ t, l[i]? = some t := ⟨_, List.getElem?_eq_getElem (by omega)⟩
          have hdrop : l.drop i = t :: l.drop (i + 1) := by
            rw [List.getElem?_eq_some_iff] at ht'
            obtain ⟨h5, h6⟩ := ht'
            rw [List.drop_eq_getElem_cons h5, h6]
          rw [hdrop] at hc
          obtain ⟨c1, c2, c3, c4, c5⟩ := hc
          have c6 := tokEnd_gt c2 c3
          have c7 := skipEnd_bd hf
          obtain ⟨a1, a2, a3⟩ := toks_get s l i t ht'
          have hr' := HR.out.grown hgr
          have b1 := hr'.cells _ _ a1
          have b2 := hr'.cells _ _ a2
          have b3 := hr'.cells _ _ a3
          clear a1 a2 a3 hr' hdrop ht' hnl
          have hkd := tokKind_bd s t.start
          have hkd : 1 ≤ t.kind ∧ t.kind ≤ 3 := by rw [c4]; exact hkd
          have hen : t.stop = tokEnd s t.start := by rw [c4]; rfl
          obtain ⟨kd, st, en⟩ := t
          simp only at c1 c2 c3 c5 c6 hkd hen b1 b2 b3
          rw [← hen] at c6
          rw [← c1] at c7
          have hv := gap_void (Nat.le_of_lt c2) c1.symm hf
          obtain ⟨x, hx⟩ : ∃ x, s.extract st en = x := ⟨_, rfl⟩
          obtain ⟨gp, hgp⟩ : ∃ gp, s.extract f st = gp := ⟨_, rfl⟩
          have hxs : x.size = en - st := by rw [← hx, ByteArray.size_extract]; omega
          have hgs : gp.size ≤ maxLen := by rw [← hgp, ByteArray.size_extract]; unfold maxLen; omega
          rw [hgp] at hv
          have hcall : ∀ W : World, Calls Tryd.prog 16 #[.string gp] W fun e w' => e = .returned (.bool true) ∧ W = w' := fun W => void_calls gp W hgs hv
          have HCALL : Hid (∀ W : World, Calls Tryd.prog 16 #[.string gp] W fun e w' => e = .returned (.bool true) ∧ W = w') := Lib.hid hcall
          have B2 : wr.cell? ⟨g, i * 3 + 1, none⟩ = some (.string x) := by rw [b2, Tok.text]; simp only; rw [hx]
          clear b2
          have hne : x.toList.isEmpty = false := by
            rw [ByteArray.toList_eq]
            cases hd : x.data.toList.isEmpty
            · rfl
            · have : x.data.toList.length = 0 := by rw [List.isEmpty_iff.1 hd]; rfl
              have : x.size = 0 := this
              omega
          have hadd : (st : Int) + (x.size : Int) = (en : Int) := by omega
          have hx1 : (x.size : Int) ≤ 20000 := by omega
          have f1 : decide ((st : Int) < (f : Int)) = false := by simp; omega
          have f3 : decide ((s.size : Int) < (en : Int)) = false := by simp; omega
          have k1 : decide ((kd : Int) < 1) = false := by simp; omega
          have k2 : decide ((3 : Int) < (kd : Int)) = false := by simp; omega
          have i1 : (f : Int) ≤ (st : Int) := by omega
          have i2 : (st : Int) ≤ (en : Int) := by omega
          have i3 : (en : Int) ≤ (s.size : Int) := by omega
          have HC5 := Lib.hid c5
          have HSTEP := Lib.hid (And.intro hgr c6)
          clear hcall c1 c3 c4 c5 hen hv hgs hxs hkd hgr c6 c7
          go_wp2
          go_quiet ((go_at_call 16; exact (HCALL.out _).mono fun _ _ ⟨he, hm⟩ => ⟨he, _, hm.symm⟩))
          go_wp2
          go_roundg (n - (i + 1))
          case measure => rw [HK.out]; omega
          case rel => exact ⟨i + 1, en, rfl, rfl, rfl, by omega, HSTEP.out.2.2, HC5.out, (HSTEP.out.1.trans (World.grownBy_alloc _ _ _)).trans (grown_drewN _ _ _)⟩
        · have hinI : decide ((i : Int) < (n : Int)) = false := by simp; omega
          have hnl := HN.out
          rw [List.drop_eq_nil_of_le (by omega)] at hc
          have hc : skipEnd s f = s.size := hc
          have hv := gap_void (Nat.le_refl _) hc hf
          have HV := Lib.hid hv; clear hv hc hnl
          have hfI : (f : Int) ≤ (s.size : Int) := by omega
          go_wp2_with fail
          refine (void_calls _ wr (by have := HT.out; simp [ByteArray.size_extract]; unfold maxLen; omega) HV.out).mono ?_
          rintro e w4 ⟨rfl, rfl⟩
          go_wp2
          go_ret
          exact ⟨rfl, HG.out.trans hgr⟩
end Go.Proofs.YtmcokfalkkjgmaaDoor

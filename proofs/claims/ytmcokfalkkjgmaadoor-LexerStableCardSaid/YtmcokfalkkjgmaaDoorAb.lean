/- The law LexerLongest: a token and one byte more, and its walk. -/
import Derived.Test.YtmcokfalkkjgmaaDoorW
import Derived.Deep.RegionHeld3
namespace Go.Proofs.YtmcokfalkkjgmaaDoor
open Go.RowKit

theorem sym_first : ∀ j : Fin 29, isSpace (cur (sym j) 0) = false ∧ cur (sym j) 0 ≠ 47 := by decide +kernel
theorem tok_first {s : ByteArray} {k : Nat} (ho : tokOk s k = true) : isSpace (cur s k) = false ∧ cur s k ≠ 47 := by
  unfold tokOk at ho
  by_cases hl : isLetter (cur s k) = true
  · simp [isLetter] at hl
    simp [isSpace]; omega
  · by_cases hd : isDigit (cur s k) = true
    · simp [isDigit] at hd
      simp [isSpace]; omega
    · rw [if_neg hl, if_neg hd] at ho
      cases hs : symEnd s k with
      | none => rw [hs] at ho; cases ho
      | some e =>
        obtain ⟨j, _, hj, hf, _, _⟩ := symFrom_first 29 0 (by omega) hs
        have h1 := ((fitB_iff _ _ _).1 hf).2 0 (sym_size j hj).1
        have h2 := sym_first ⟨j, hj⟩
        simp only [Nat.add_zero] at h1 h2
        rw [← h1]; exact h2
theorem tok_skip {s : ByteArray} {k : Nat} (hk : k ≤ s.size) (h : isSpace (cur s k) = false ∧ cur s k ≠ 47) : skipEnd s k = k :=
  skipEnd_stop hk h.1 (by simp [onCom, h.2])

section
variable {s u : ByteArray} {st n : Nat}
/-- u is the token at st and the byte behind it. -/
theorem longer_tok (h : Sim s u st 0 n) (hu : u.size = n + 1) (hen : st + n < s.size) (hn : 0 < n) (hx : cur u n = cur s (st + n)) (ho : tokOk s st = true) (he : tokEnd s st = st + n) :
    tokEnd u 0 = n ∧ tokOk u 0 = true := by
  have e0 : cur u 0 = cur s st := by have := h.eq 0 hn; simpa using this
  have hst : st < s.size := by omega
  unfold tokEnd tokOk at *
  rw [e0]
  cases hl : isLetter (cur s st)
  · rw [hl] at ho he
    simp only [Bool.false_eq_true, if_false] at ho he ⊢
    cases hd : isDigit (cur s st)
    · rw [hd] at ho he
      simp only [Bool.false_eq_true, if_false] at ho he ⊢
      cases hs : symEnd s st with
      | none => rw [hs] at ho; cases ho
      | some e =>
        rw [hs] at he
        simp only [Option.getD_some] at he
        obtain ⟨j, _, hj, hf, hje, hno⟩ := symFrom_first 29 0 (by omega) hs
        have hf' := (fitB_iff _ _ _).1 hf
        have : symEnd u 0 = some (0 + (sym j).size) := symFrom_some 29 0 (by omega) hj
          (by have := fit_back h (i := 0) (j := j) hf' (by omega); simpa using this)
          (fun x hxj hfx => by
            have hsz := hfx.1
            have : Fits (sym x) s st := ⟨by omega, fun i hi => by
              have h1 := hfx.2 i hi
              rw [h1, Nat.zero_add]
              by_cases hin : i < n
              · have := h.eq i hin; rwa [Nat.zero_add] at this
              · have : i = n := by omega
                rw [this]; exact hx⟩
            rw [← fitB_iff, hno x (by omega) hxj] at this; cases this)
        rw [this]; simp; omega
    · rw [hd] at ho he
      simp only [if_true] at ho he ⊢
      have hsp := (adv_spec (q := fun j => isDigit (cur s j)) (s.size - st) st).2
      have el : adv (fun j => isDigit (cur s j)) (s.size - st) st = st + n := he
      rw [el] at hsp
      have hq : isDigit (cur u (0 + n)) = false := by
        rw [Nat.zero_add, hx]
        rcases hsp with h5 | h5
        · omega
        · exact h5
      have hr := run_sim h isDigit hq (i := 0) (Nat.zero_le _) (by rw [Nat.add_zero, el]; exact Nat.le_refl _)
      simp only [Nat.add_zero] at hr
      rw [el] at hr
      have hr' : digitEnd u 0 = n := by
        have : digitEnd u 0 = adv (fun j => isDigit (cur u j)) (u.size - 0) 0 := rfl
        rw [this]; omega
      rw [hr', hx]
      refine ⟨rfl, ?_⟩
      rw [he] at ho
      have e1 : st + n - st = n - 0 := by omega
      rw [e1] at ho; exact ho
  · rw [hl] at ho he
    simp only [if_true] at ho he ⊢
    have hsp := (adv_spec (q := fun j => isWord (cur s j)) (s.size - st) st).2
    have el : adv (fun j => isWord (cur s j)) (s.size - st) st = st + n := he
    rw [el] at hsp
    have hq : isWord (cur u (0 + n)) = false := by
      rw [Nat.zero_add, hx]
      rcases hsp with h5 | h5
      · omega
      · exact h5
    have hr := run_sim h isWord hq (i := 0) (Nat.zero_le _) (by rw [Nat.add_zero, el]; exact Nat.le_refl _)
    simp only [Nat.add_zero] at hr
    rw [el] at hr
    have hr' : wordEnd u 0 = n := by
      have : wordEnd u 0 = adv (fun j => isWord (cur u j)) (u.size - 0) 0 := rfl
      rw [this]; omega
    rw [hr']
    refine ⟨rfl, ?_⟩
    rw [he] at ho
    simp at ho ⊢; omega
theorem longer (h : Sim s u st 0 n) (hu : u.size = n + 1) (hen : st + n < s.size) (hn : 0 < n) (hx : cur u n = cur s (st + n)) (ho : tokOk s st = true) (he : tokEnd s st = st + n) (ho2 : tokOk s (st + n) = true)
    {m : List Tok} (hl : lex u = .ok m) : 2 ≤ m.length := by
  have e0 : cur u 0 = cur s st := by have := h.eq 0 hn; simpa using this
  have ht := longer_tok h hu hen hn hx ho he
  have hf1 := tok_first ho
  have hf2 := tok_first ho2
  rw [← e0] at hf1
  rw [← hx] at hf2
  have hs1 := tok_skip (Nat.zero_le _) hf1
  have hs2 : skipEnd u n = n := tok_skip (by omega) hf2
  rw [lex, hs1, lexFrom_tok (by omega) ht.2, ht.1, hs2] at hl
  cases ho3 : tokOk u n
  · rw [lexFrom_err (by omega) ho3] at hl; cases hl
  · rw [lexFrom_tok (by omega) ho3] at hl
    cases hr : lexFrom u (skipEnd u (tokEnd u n)) with
    | error e => rw [hr] at hl; cases hl
    | ok r => rw [hr] at hl; cases hl; simp
end

theorem chain_two {s : ByteArray} : ∀ (l : List Tok) (f i : Nat) (t : Tok), f ≤ s.size → Chain s f l → l[i]? = some t → tokOk s t.start = true ∧ t.stop = tokEnd s t.start
  | [], f, i, t, hf, hc, h => by simp at h
  | x :: l, f, i, t, hf, hc, h => by
    obtain ⟨c1, c2, c3, c4, c5⟩ := hc
    have h3 := tokEnd_gt c2 c3
    have hst : x.stop = tokEnd s x.start := by rw [c4]; rfl
    cases i with
    | zero => simp at h; subst h; exact ⟨c3, hst⟩
    | succ i => exact chain_two l x.stop i t (by omega) c5 (by simpa using h)

theorem held_start (w : World) (x y : ByteArray) (k1 k2 s1 s2 : Value) : 
    w.grownBy ((w.alloc (.cells #[k1, .string x, s1] 31)).alloc (.cells #[k2, .string y, s2] 31)).drew none ∧
    ((w.alloc (.cells #[k1, .string x, s1] 31)).alloc (.cells #[k2, .string y, s2] 31)).drew.cell? ⟨w.heap.size, 1, none⟩ = some (.string x) ∧
    ((w.alloc (.cells #[k1, .string x, s1] 31)).alloc (.cells #[k2, .string y, s2] 31)).drew.cell? ⟨w.heap.size + 1, 1, none⟩ = some (.string y) :=
  ⟨((World.grownBy_alloc w _ none).trans (World.grownBy_alloc _ _ none)).trans ⟨rfl, rfl, rfl, Nat.le_refl _, fun _ _ _ => rfl⟩, by go_simp, by go_simp⟩
theorem held_next {wr W W' : World} {a b : Addr} {x y : ByteArray} (g : W.grownBy W' none) (h1 : wr.grownBy W none) (h2 : W.cell? a = some (.string x)) (h3 : W.cell? b = some (.string y)) :
    wr.grownBy W' none ∧ W'.cell? a = some (.string x) ∧ W'.cell? b = some (.string y) :=
  ⟨h1.trans g, g.cell h2 (by simp), g.cell h3 (by simp)⟩
theorem two_alloc_drew (w : World) (o1 o2 : Obj) : w.grownBy ((w.alloc o1).alloc o2).drew none :=
  (((World.grownBy_alloc w o1 none).trans (World.grownBy_alloc _ o2 none))).trans ⟨rfl, rfl, rfl, Nat.le_refl _, fun _ _ _ => rfl⟩

set_option maxRecDepth 100000 in
set_option maxHeartbeats 2000000 in
theorem longest_calls (s0 : ByteArray) (w : World) (hs : s0.size ≤ maxLen) (hy : SymsAt w) :
    Calls Tryd.prog 8 #[.string s0] w fun e w' => e = .returned (.bool true) ∧ w.grownBy w' none := by
  have HS := Lib.hid hs
  have ht := fewS_size s0
  go_enter Tryd.func8, Tryd.ntmps8
  go_wp2_with fail
  refine (head_calls w hy).mono ?_
  rintro e w1 ⟨rfl, g1⟩
  have hy1 := hy.grown0 g1
  go_wp2_with fail
  refine (few_calls s0 w1 HS.out).mono ?_
  rintro e w2 ⟨rfl, rfl⟩
  obtain ⟨s, het⟩ : ∃ t, fewS s0 = t := ⟨_, rfl⟩
  rw [het] at ht ⊢
  clear het hs
  have HT := Lib.hid ht
  go_wp2_with fail
  refine (lex_calls s w1 (by have := HT.out; unfold maxLen; omega) hy1).mono ?_
  rintro e w2 h2
  have HY := Lib.hid (hy1.grown0 h2.1)
  have HG := Lib.hid (g1.trans h2.1)
  clear g1 hy1 hy
  cases hl : lex s with
  | error j =>
    obtain ⟨rfl, _⟩ := lex_err (by omega) hl h2
    clear hl h2
    go_wp2
    go_ret
    exact ⟨rfl, HG.out⟩
  | ok l =>
    obtain ⟨v, rfl, _, rl, _⟩ := lex_ok2 (by omega) hl h2
    obtain ⟨al, cl, rfl⟩ := rl.slice
    have hch := chain_lex hl
    have hll := lex_len hl
    have HCH := Lib.hid hch
    have RL := Lib.hid rl
    clear hl h2 hch rl
    obtain ⟨n, hn⟩ : ∃ n, l.length = n := ⟨_, rfl⟩
    rw [hn] at hll ⊢
    have HN := Lib.hid hn; clear hn
    go_wp2
    go_loopg [7] n (fun k s7 wr => ∃ i : Nat, s7 = .int .i64 (i : Int) ∧ k = n + 1 - i ∧ 1 ≤ i ∧ i ≤ n + 1 ∧ w2.grownBy wr none)
    case atStart => exact ⟨1, rfl, rfl, by omega, by omega, grown_refl _ _⟩
    case round =>
      obtain ⟨i, rfl, hk, hi, hi2, hgr⟩ := hrel
      have HK := Lib.hid hk; clear hk
      by_cases hin : i < n
      · have hiI : decide ((i : Int) < (n : Int)) = true := by simp; omega
        have hiI2 : (i : Int) < (n : Int) := by omega
        obtain ⟨g, rfl, hr⟩ : ∃ g, al = some ⟨g, 0, none⟩ ∧ TokRow wr s l g cl := by
          rcases RL.out with ⟨h, _⟩ | ⟨g', cap', hv, hrw⟩
          · rw [h] at HN; have := HN.out; simp at this; omega
          · injection hv with e1 e2 e3
            subst e1; subst e3
            exact ⟨g', rfl, hrw.grown hgr⟩
        have hnl := HN.out
        obtain ⟨i', rfl⟩ : ∃ i', i = i' + 1 := ⟨i - 1, by omega⟩
        obtain ⟨t, ht1⟩ : ∃ t, l[i']? = some t := ⟨_, List.getElem?_eq_getElem (by omega)⟩
        obtain ⟨t', ht2⟩ : ∃ t', l[i' + 1]? = some t' := ⟨_, List.getElem?_eq_getElem (by omega)⟩
        have hat := chain_at l 0 _ t (Nat.zero_le _) HCH.out ht1
        have hat' := chain_at l 0 _ t' (Nat.zero_le _) HCH.out ht2
        have hto := chain_two l 0 _ t (Nat.zero_le _) HCH.out ht1
        have hto' := chain_two l 0 _ t' (Nat.zero_le _) HCH.out ht2
        obtain ⟨a1, a2, a3⟩ := toks_get s l _ t ht1
        obtain ⟨d1, d2, d3⟩ := toks_get s l _ t' ht2
        have b1 := hr.cells _ _ a1
        have b2 := hr.cells _ _ a2
        have b3 := hr.cells _ _ a3
        have q1 := hr.cells _ _ d1
        have q2 := hr.cells _ _ d2
        have q3 := hr.cells _ _ d3
        have hgl : g < wr.heap.size := hr.lt
        obtain ⟨kd, st, en⟩ := t
        obtain ⟨kd', st', en'⟩ := t'
        simp only [Tok.text] at b1 b2 b3 q1 q2 q3 hat hat' hto hto'
        obtain ⟨x, hx⟩ : ∃ x, s.extract st en = x := ⟨_, rfl⟩
        obtain ⟨y, hy⟩ : ∃ y, s.extract st' en' = y := ⟨_, rfl⟩
        rw [hx] at b2
        rw [hy] at q2
        have hxs : x.size = en - st := by rw [← hx, ByteArray.size_extract]; omega
        have hys : y.size = en' - st' := by rw [← hy, ByteArray.size_extract]; omega
        have hgn : ¬ g = wr.heap.size := by omega
        have hgn2 : ¬ g = wr.heap.size + 1 := by omega
        have e1 : ((i' + 1 : Nat) : Int) - 1 = (i' : Int) := by omega
        have hadd : (st : Int) + (x.size : Int) = (en : Int) := by omega
        have hx1 : (x.size : Int) ≤ 20000 := by have := HT.out; omega
        have hen1 : (en : Int) ≤ 20000 := by have := HT.out; omega
        have hi'n : (i' : Int) < (n : Int) := by omega
        have hne : y.toList.isEmpty = false := by
          rw [ByteArray.toList_eq]
          cases hd : y.data.toList.isEmpty
          · rfl
          · have : y.data.toList.length = 0 := by rw [List.isEmpty_iff.1 hd]; rfl
            have : y.size = 0 := this
            omega
        have HGR := Lib.hid hgr
        have HXY := Lib.hid (And.intro hx (And.intro hy (And.intro hxs hys)))
        have HAT := Lib.hid (And.intro hat (And.intro hat' (And.intro hto hto')))
        have hy1 : (1 : Int) ≤ (y.size : Int) := by omega
        clear a1 a2 a3 d1 d2 d3 ht1 ht2 hx hy hnl hgr hxs hys hat hat' hto hto' hr
        by_cases hadj : en = st'
        · have hadjB : (((en : Nat) : Int) != (st' : Int)) = false := by rw [bne_eq_false_iff_eq]; omega
          have HADJ := Lib.hid hadj; clear hadj
          obtain ⟨u, hu⟩ : ∃ u, x ++ y.extract 0 1 = u := ⟨_, rfl⟩
          have hus : u.size = en - st + 1 := by
            rw [← hu, size_app, ByteArray.size_extract, HXY.out.2.2.1, HXY.out.2.2.2]; have := HAT.out; omega
          have hcur : ∀ k, k < en - st + 1 → cur u k = cur s (st + k) := by
            intro k hk
            have h1 := HAT.out
            have h2 := HXY.out
            rw [← hu, cur_app, h2.2.2.1]
            by_cases hk2 : k < en - st
            · rw [if_pos hk2, ← h2.1, cur_extract (by omega), if_pos (by omega)]
            · rw [if_neg hk2, cur_extract (by omega), if_pos (by omega), ← h2.2.1, cur_extract (by omega), if_pos (by omega)]
              congr 1; have := HADJ.out; omega
          have hlong : ∀ m, lex u = .ok m → 2 ≤ m.length := by
            intro m hm
            have h1 := HAT.out
            have h3 := HADJ.out
            refine longer (s := s) (u := u) (st := st) (n := en - st) ⟨by omega, by omega, fun k hk => by rw [Nat.zero_add]; exact hcur k (by omega)⟩ hus (by omega) (by omega) (hcur _ (by omega)) h1.2.2.1.1 (by omega) ?_ hm
            rw [show st + (en - st) = st' by omega]; exact h1.2.2.2.1
          have hcon : ∀ W, wr.grownBy W none → Calls Tryd.prog 13 #[.string u] W fun e w' => W.grownBy w' none ∧ ∃ a q c y z, e = .returned (.tuple #[.slice a q c, .int .i64 y, .int .i64 z]) ∧ (y = 0 → 2 ≤ q) := by
            intro W hW
            refine (lex_calls u W (by have := HAT.out; have := HT.out; unfold maxLen; omega) ((HY.out.grown0 HGR.out).grown0 hW)).mono ?_
            intro e w' h
            refine ⟨h.1, ?_⟩
            cases hlu : lex u with
            | error j =>
              obtain ⟨rfl, _⟩ := lex_err (by have := HAT.out; have := HT.out; omega) hlu h
              exact ⟨none, 0, 0, _, _, rfl, fun h => by cases h⟩
            | ok m =>
              obtain ⟨v, rfl, rv, _⟩ := lex_ok (by have := HAT.out; have := HT.out; omega) hlu h
              obtain ⟨a, c, rfl⟩ := rv.slice
              exact ⟨a, _, c, _, _, rfl, fun _ => hlong m hlu⟩
          have HCON := Lib.hid hcon
          have hsa : ∀ W : World, (Op.stringOp .add x (y.extract 0 1)).run Tryd.prog W = .ok (.string u) W := fun W => by
            have h : (Op.stringOp .add x (y.extract 0 1)).run Tryd.prog W = .ok (.string (x ++ y.extract 0 1)) W := run_string_add_sum _ _ _ (by rw [ByteArray.size_extract, HXY.out.2.2.1]; have := HAT.out; have := HT.out; omega)
            rw [hu] at h; exact h
          clear hcon hlong hcur hus
          go_wp2
          go_region_held3 (fun w' => wr.grownBy w' none ∧ w'.cell? ⟨wr.heap.size, 1, none⟩ = some (.string x) ∧ w'.cell? ⟨wr.heap.size + 1, 1, none⟩ = some (.string y))
            (first | exact held_start _ _ _ _ _ _ _ | (go_split_ands; exact held_next g3 (by assumption) (by assumption) (by assumption)))
            (first | (go_at_call 13; refine (HCON.out _ ?_).mono ?_; (go_split_ands; assumption); rintro e w3 ⟨g3, a3, q3, c3, y3, z3, rfl, hyq⟩))
          go_wp2
          all_goals
            have h3 : wr.grownBy w3 none := by go_split_ands; assumption
            go_roundg (n + 1 - (i' + 1 + 1))
            case measure => rw [HK.out]; omega
            case rel => exact ⟨i' + 1 + 1, rfl, rfl, by omega, by omega, HGR.out.trans h3⟩
        · have hadjB : (((en : Nat) : Int) != (st' : Int)) = true := by rw [bne_iff_ne]; omega
          clear hadj
          go_wp2
          go_roundg (n + 1 - (i' + 1 + 1))
          case measure => rw [HK.out]; omega
          case rel => exact ⟨i' + 1 + 1, rfl, rfl, by omega, by omega, (HGR.out.trans (World.grownBy_alloc _ _ _)).trans (World.grownBy_alloc _ _ _)⟩
      · have hiI : decide ((i : Int) < (n : Int)) = false := by simp; omega
        go_wp2
        go_ret
        exact ⟨rfl, HG.out.trans hgr⟩
end Go.Proofs.YtmcokfalkkjgmaaDoor

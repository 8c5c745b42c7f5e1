/- The law LexerConcatenation: two texts with a blank between, and its walk. -/
import Derived.Test.YtmcokfalkkjgmaaDoorU
namespace Go.Proofs.YtmcokfalkkjgmaaDoor
open Go.RowKit

theorem size_app (a b : ByteArray) : (a ++ b).size = a.size + b.size := by simp
theorem cur_app (a b : ByteArray) (i : Nat) : cur (a ++ b) i = if i < a.size then cur a i else cur b (i - a.size) := by
  by_cases h : i < a.size
  · rw [if_pos h, cur_get h, cur_get (show i < (a ++ b).size by rw [size_app]; omega), ByteArray.getElem_append_left h]
  · rw [if_neg h]
    by_cases h2 : i < a.size + b.size
    · rw [cur_get (show i < (a ++ b).size by rw [size_app]; omega), cur_get (show i - a.size < b.size by omega), ByteArray.getElem_append_right (by omega)]
    · rw [cur_end (by rw [size_app]; omega), cur_end (by omega)]

/-- Does a comment that began before k still go on at k? -/
def openAt (s : ByteArray) : Nat → Bool
  | 0 => false
  | k + 1 => if cur s k = 10 then false else (openAt s k || onCom s k)
theorem open_line {s : ByteArray} {i : Nat} (hc : onCom s i = true) : ∀ d, (∀ j, i ≤ j → j < i + d + 1 → cur s j ≠ 10) → openAt s (i + d + 1) = true
  | 0, h => by
    have := h i (Nat.le_refl _) (by omega)
    simp [openAt, this, hc]
  | d + 1, h => by
    have ih := open_line hc d (fun j h1 h2 => h j h1 (by omega))
    have := h (i + d + 1) (by omega) (by omega)
    rw [show i + (d + 1) + 1 = (i + d + 1) + 1 by omega, openAt, if_neg this, ih]; rfl
theorem closes_of {s u : ByteArray} (h : openAt s s.size = false) : Closes s u := by
  refine .inr (.inr fun i hi hc hl => ?_)
  have hsp := (adv_spec (q := fun j => inLine s j) (s.size - i) i).1
  have el : adv (fun j => inLine s j) (s.size - i) i = s.size := hl
  rw [el] at hsp
  have := open_line hc (s.size - i - 1) (fun j h1 h2 => by
    have := hsp j h1 (by omega)
    simp [inLine] at this; exact this.2)
  rw [show i + (s.size - i - 1) + 1 = s.size by omega, h] at this
  cases this

set_option maxHeartbeats 1000000 in
theorem open_calls (s : ByteArray) (w : World) (hs : s.size ≤ 20000) : Calls Tryd.prog 17 #[.string s] w fun e w' => e = .returned (.bool (openAt s s.size)) ∧ w = w' := by
  have hm : s.size ≤ maxLen := by unfold maxLen; omega
  have HM := Lib.hid hm; clear hm
  go_enter Tryd.func17, Tryd.ntmps17
  go_wp2
  go_loopg [3, 4] s.size (fun g s3 s4 wr => w = wr ∧ ∃ i : Nat, s3 = .int .i64 (i : Int) ∧ g = s.size - i ∧ i ≤ s.size ∧ s4 = .bool (openAt s i))
  case atStart => exact ⟨rfl, 0, rfl, rfl, by omega, rfl⟩
  case round =>
    obtain ⟨rfl, i, rfl, hg, hi, rfl⟩ := hrel
    have HG := Lib.hid hg; clear hg
    by_cases his : i < s.size
    · have hiI : decide ((i : Int) < (s.size : Int)) = true := by simp; omega
      have hiI2 : (i : Int) < (s.size : Int) := by omega
      have hnx : openAt s (i + 1) = if cur s i = 10 then false else (openAt s i || onCom s i) := rfl
      have HNX := Lib.hid hnx; clear hnx
      cases ho : openAt s i
      · have HO := Lib.hid ho; clear ho
        go_wp2_with fail
        refine (refComment_calls s i w HM.out his).mono ?_
        rintro e w1 ⟨rfl, rfl⟩
        cases hc : onCom s i
        · have HC := Lib.hid hc; clear hc
          by_cases h10 : cur s i = 10
          · have e10 : (((s[i].toNat : Nat) : Int) == 10) = true := by rw [← cur_get his, h10]; rfl
            have H10 := Lib.hid h10; clear h10
            go_wp2
            go_roundg (s.size - (i + 1))
            case measure => rw [HG.out]; omega
            case rel => exact ⟨rfl, i + 1, rfl, rfl, by omega, by rw [HNX.out, if_pos H10.out]⟩
          · have e10 : (((s[i].toNat : Nat) : Int) == 10) = false := by rw [← cur_get his, beq_eq_false_iff_ne]; omega
            have H10 := Lib.hid h10; clear h10
            go_wp2
            go_roundg (s.size - (i + 1))
            case measure => rw [HG.out]; omega
            case rel => exact ⟨rfl, i + 1, rfl, rfl, by omega, by rw [HNX.out, if_neg H10.out, HO.out, HC.out]; rfl⟩
        · have h10 : cur s i ≠ 10 := by simp [onCom] at hc; omega
          have HC := Lib.hid hc; clear hc
          have e10 : (((s[i].toNat : Nat) : Int) == 10) = false := by rw [← cur_get his, beq_eq_false_iff_ne]; omega
          have H10 := Lib.hid h10; clear h10
          go_wp2
          go_roundg (s.size - (i + 1))
          case measure => rw [HG.out]; omega
          case rel => exact ⟨rfl, i + 1, rfl, rfl, by omega, by rw [HNX.out, if_neg H10.out, HO.out, HC.out]; rfl⟩
      · have HO := Lib.hid ho; clear ho
        by_cases h10 : cur s i = 10
        · have e10 : (((s[i].toNat : Nat) : Int) == 10) = true := by rw [← cur_get his, h10]; rfl
          have H10 := Lib.hid h10; clear h10
          go_wp2
          go_roundg (s.size - (i + 1))
          case measure => rw [HG.out]; omega
          case rel => exact ⟨rfl, i + 1, rfl, rfl, by omega, by rw [HNX.out, if_pos H10.out]⟩
        · have e10 : (((s[i].toNat : Nat) : Int) == 10) = false := by rw [← cur_get his, beq_eq_false_iff_ne]; omega
          have H10 := Lib.hid h10; clear h10
          go_wp2
          go_roundg (s.size - (i + 1))
          case measure => rw [HG.out]; omega
          case rel => exact ⟨rfl, i + 1, rfl, rfl, by omega, by rw [HNX.out, if_neg H10.out, HO.out]; rfl⟩
    · have hiI : decide ((i : Int) < (s.size : Int)) = false := by simp; omega
      have hie : i = s.size := by omega
      have HI := Lib.hid hie; clear hie
      go_wp2
      go_ret
      exact ⟨ret_bool (by rw [HI.out]), rfl⟩

section
variable {a b c : ByteArray}
/-- c is a, a blank, b. -/
structure Glued (a b c : ByteArray) : Prop where
  size : c.size = a.size + 1 + b.size
  left : ∀ i, i < a.size → cur c i = cur a i
  mid : cur c a.size = 32
  right : ∀ i, cur c (a.size + 1 + i) = cur b i
theorem glued_begins (h : Glued a b c) : Begins a c :=
  ⟨⟨by omega, by have := h.size; omega, fun i hi => by rw [Nat.zero_add]; exact h.left i hi⟩, by rw [h.mid]; rfl⟩
theorem glued_sim (h : Glued a b c) : Sim b c 0 (a.size + 1) (b.size - 0) :=
  ⟨by omega, by have := h.size; omega, fun i _ => by rw [Nat.zero_add]; exact h.right i⟩
theorem glued_err (h : Glued a b c) {e : Nat} (hl : lex a = .error e) : lex c = .error e :=
  begins_err (glued_begins h) _ 0 e (Nat.zero_le _) (Nat.le_refl _) hl
theorem glued_ok (h : Glued a b c) {l : List Tok} (hl : lex a = .ok l) (ho : openAt a a.size = false) :
    (∀ e, lex b = .error e → lex c = .error (a.size + 1 + e)) ∧ (∀ m, lex b = .ok m → lex c = .ok (l ++ m.map (shiftTok (a.size + 1)))) := by
  have h1 := begins_ok (glued_begins h) (closes_of ho) _ 0 l (Nat.zero_le _) (Nat.le_refl _) hl
  have hcs := h.size
  have h2 : skipEnd c a.size = skipEnd c (a.size + 1) := skipEnd_space (by omega) (by rw [h.mid]; rfl)
  have h3 := ends_skip (glued_sim h) (by omega) (i := 0) (Nat.zero_le _)
  simp only [Nat.add_zero] at h3
  have hb := skipEnd_bd (Nat.zero_le b.size)
  have h4 : skipEnd c (a.size + 1) = a.size + 1 + skipEnd b 0 := by omega
  have h5 := ends_lex (glued_sim h) (by omega) (b.size + 1) (skipEnd b 0) (by omega) (by omega) _ rfl
  rw [Nat.zero_add] at h5
  have h0 : lexFrom b (skipEnd b 0) = lex b := rfl
  rw [h0] at h5
  have h6 : lex c = pre l (lexFrom c (a.size + 1 + skipEnd b 0)) := by
    rw [← h4, ← h2]; exact h1
  refine ⟨fun e he => ?_, fun m hm => ?_⟩
  · rw [he] at h5
    simp only at h5
    rw [h6, h5.1]
    show Except.error _ = Except.error _
    congr 1; omega
  · rw [hm] at h5
    simp only at h5
    rw [h6, h5]
    show Except.ok _ = Except.ok _
    congr 2
theorem glued_text (h : Glued a b c) {t : Tok} (ht : t.stop ≤ b.size) : (shiftTok (a.size + 1) t).text c = t.text b := by
  have hcs := h.size
  unfold Tok.text shiftTok
  apply ext_cur
  · rw [ByteArray.size_extract, ByteArray.size_extract]; simp only; omega
  · intro i _
    rw [cur_extract (by simp only; omega), cur_extract ht]
    simp only
    by_cases hi : t.start + i < t.stop
    · rw [if_pos hi, if_pos (by omega), show t.start + (a.size + 1) + i = a.size + 1 + (t.start + i) by omega, h.right]
    · rw [if_neg hi, if_neg (by omega)]
theorem begins_text {s u : ByteArray} (h : Begins s u) {t : Tok} (ht : t.stop ≤ s.size) : t.text s = t.text u := by
  have hu := h.sim.hu
  rw [Nat.zero_add] at hu
  unfold Tok.text
  apply ext_cur
  · rw [ByteArray.size_extract, ByteArray.size_extract]; omega
  · intro i _
    rw [cur_extract ht, cur_extract (by omega)]
    by_cases hi : t.start + i < t.stop
    · rw [if_pos hi, if_pos hi]
      have := h.sim.eq (t.start + i) (by omega)
      rw [Nat.zero_add] at this; exact this.symm
    · rw [if_neg hi, if_neg hi]
theorem glue_is : Glued a b ((a ++ ⟨#[32]⟩) ++ b) := by
  have e1 : (⟨#[32]⟩ : ByteArray).size = 1 := rfl
  refine ⟨by rw [size_app, size_app, e1], fun i hi => ?_, ?_, fun i => ?_⟩
  · rw [cur_app, if_pos (by rw [size_app]; omega), cur_app, if_pos hi]
  · rw [cur_app, if_pos (by rw [size_app, e1]; omega), cur_app, if_neg (by omega), Nat.sub_self]; rfl
  · rw [cur_app, if_neg (by rw [size_app, e1]; omega), size_app, e1, show a.size + 1 + i - (a.size + 1) = i by omega]
end

/-- What Lex hands back, with the nil slice told apart. -/
theorem lex_ok2 {w w' : World} {s : ByteArray} {e : Ending} {l : List Tok} (hs : s.size ≤ 20000) (hl : lex s = .ok l) (h : LexPost w s e w') :
    ∃ v, e = .returned (.tuple #[v, .int .i64 0, .int .i64 0]) ∧ w.grownBy w' none ∧ Reads w' v s l ∧ ((l = [] ∧ v = .slice none 0 0) ∨ ∃ g cap, v = .slice (some ⟨g, 0, none⟩) l.length cap ∧ TokRow w' s l g cap) := by
  obtain ⟨hg, h | ⟨_, h | h⟩⟩ := h
  · omega
  · obtain ⟨j', h1, rfl⟩ := h; rw [hl] at h1; cases h1
  · obtain ⟨l', v, h1, rfl, hown⟩ := h; rw [hl] at h1; cases h1
    refine ⟨v, rfl, hg, Reads.of_own hown, ?_⟩
    have hcl := @World.ownsRow.cells w' w.heap.size 31 3 v l.length (toks s l) hown
    rcases hown.2 with ⟨hv, h0⟩ | ⟨g, cap, cur, rfl, hb, hgg, hnc, hcm, _⟩
    · exact .inl ⟨List.eq_nil_of_length_eq_zero h0, hv⟩
    · refine .inr ⟨g, cap, rfl, (Array.getElem?_eq_some_iff.1 hgg).1, hnc, hcm, fun j u hu => ?_⟩
      have hadd : (⟨g, 0, none⟩ : Addr).add j = ⟨g, j, none⟩ := by unfold Addr.add; split <;> simp_all
      have := hcl (g := g) rfl j u hu
      rw [hadd] at this; exact this
theorem Reads.slice {w : World} {v : Value} {s : ByteArray} {l : List Tok} (h : Reads w v s l) : ∃ a cap, v = .slice a l.length cap := by
  rcases h with ⟨rfl, a, c, hv⟩ | ⟨g, cap, hv, _⟩
  · exact ⟨a, c, hv⟩
  · exact ⟨_, cap, hv⟩

end Go.Proofs.YtmcokfalkkjgmaaDoor

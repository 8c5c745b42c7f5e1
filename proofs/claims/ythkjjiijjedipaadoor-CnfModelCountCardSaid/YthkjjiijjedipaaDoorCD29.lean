/- Texts of the proof: S4. -/
import Derived.Test.YthkjjiijjedipaaDoorCD14
import Derived.Test.YthkjjiijjedipaaDoorCD28
namespace Go.Proofs.YthkjjiijjedipaaDoor
set_option maxRecDepth 100000
open Go.RowKit Go.Sort

def Nine (x : Int) : Prop := -1000000000 < x ∧ x < 1000000000
def textP (l : List Int) : List UInt8 := l.flatMap fun x => Lib.itoa x ++ [32]
def keyP (zs : List Int) : List UInt8 := textP (msort zs)
theorem itoa_len {x : Int} (h : Nine x) : (Lib.itoa x).length ≤ 10 := by
  obtain ⟨h1, h2⟩ := h
  unfold Lib.itoa
  split
  · have := decDigits_length_le (u := x.natAbs) (by omega)
    simp only [List.length_cons]; omega
  · have := decDigits_length_le (u := x.toNat) (by omega)
    omega
theorem text_snoc (l : List Int) (x : Int) : textP (l ++ [x]) = textP l ++ (Lib.itoa x ++ [32]) := by simp [textP]
theorem text_len : ∀ l : List Int, (∀ x ∈ l, Nine x) → (textP l).length ≤ 11 * l.length
  | [], _ => by simp [textP]
  | x :: l, h => by
    have ih := text_len l (fun y hy => h y (List.mem_cons_of_mem _ hy))
    have h1 := itoa_len (h x (List.mem_cons_self ..))
    have e : textP (x :: l) = (Lib.itoa x ++ [32]) ++ textP l := by simp [textP]
    rw [e]
    simp only [List.length_append, List.length_cons, List.length_nil]
    omega
/-- A blank, and then the text: numbers each behind a blank. -/
theorem text_blank : ∀ l : List Int, 32 :: textP l = numsB l ++ [32]
  | [] => by simp [textP, numsB]
  | x :: l => by
    have ih := text_blank l
    have e : textP (x :: l) = Lib.itoa x ++ (32 :: textP l) := by simp [textP]
    rw [e, ih]
    simp [numsB, numB]
theorem nums_inj : ∀ (l m : List Int), (∀ x ∈ l, Nine x) → (∀ x ∈ m, Nine x) → numsB l ++ [32] = numsB m ++ [32] → l = m
  | [], [], _, _, _ => rfl
  | [], y :: m, _, hm, h => by
    have h1 := congrArg List.length h
    simp only [numsB, List.flatMap_nil, List.nil_append, List.flatMap_cons, List.length_append, List.length_cons, List.length_nil, numB] at h1
    omega
  | x :: l, [], hl, _, h => by
    have h1 := congrArg List.length h
    simp only [numsB, List.flatMap_nil, List.nil_append, List.flatMap_cons, List.length_append, List.length_cons, List.length_nil, numB] at h1
    omega
  | x :: l, y :: m, hl, hm, h => by
    have nd : ∀ k : List Int, NoDig (numsB k ++ [32]) := fun k => by
      intro c hc
      cases k with
      | nil => simp [numsB] at hc; subst hc; decide
      | cons z k => simp [numsB, numB] at hc; subst hc; decide
    have e1 := numR_enc x (numsB l ++ [32]) (hl x (List.mem_cons_self ..)) (nd l)
    have e2 := numR_enc y (numsB m ++ [32]) (hm y (List.mem_cons_self ..)) (nd m)
    have e : numB x ++ (numsB l ++ [32]) = numB y ++ (numsB m ++ [32]) := by
      have := h
      simp only [numsB, List.flatMap_cons, List.append_assoc] at this
      exact this
    rw [e, e2] at e1
    have e3 := Option.some.inj e1
    have ex : y = x := congrArg Prod.fst e3
    have er : numsB m ++ [32] = numsB l ++ [32] := congrArg Prod.snd e3
    rw [ex, nums_inj l m (fun z hz => hl z (List.mem_cons_of_mem _ hz)) (fun z hz => hm z (List.mem_cons_of_mem _ hz)) er.symm]
theorem text_inj {l m : List Int} (hl : ∀ x ∈ l, Nine x) (hm : ∀ x ∈ m, Nine x) (h : textP l = textP m) : l = m := by
  refine nums_inj l m hl hm ?_
  rw [← text_blank, ← text_blank, h]
theorem mem_msort {zs : List Int} {x : Int} : x ∈ msort zs ↔ x ∈ zs := (List.mergeSort_perm zs _).mem_iff
theorem key_inj {l m : List Int} (hl : ∀ x ∈ l, Nine x) (hm : ∀ x ∈ m, Nine x) : keyP l = keyP m ↔ msort l = msort m :=
  ⟨fun h => text_inj (fun x hx => hl x (mem_msort.1 hx)) (fun x hx => hm x (mem_msort.1 hx)) h, fun h => by unfold keyP; rw [h]⟩

theorem own_kept75 {w w' : World} {B n : Nat} {v : Value} {xs : List Value} (h : w.ownsRow B 3 1 v n xs) (hk : Kept75 w w') : w'.ownsRow B 3 1 v n xs := by
  refine ⟨h.1, ?_⟩
  rcases h.2 with h | ⟨g, cap, cur, rfl, hb, hg, rest⟩
  · exact .inl h
  · exact .inr ⟨g, cap, cur, rfl, hb, hk g cur 3 (0, 0) hg (by decide) (by decide), rest⟩
theorem itoa_blank (x : Int) : ((⟨(Lib.itoa x).toArray⟩ : ByteArray) ++ ⟨#[32]⟩).data.toList = Lib.itoa x ++ [32] := by
  rw [ByteArray.data_append]; simp
theorem itoa_blank_size (x : Int) : ((⟨(Lib.itoa x).toArray⟩ : ByteArray) ++ ⟨#[32]⟩).size = (Lib.itoa x).length + 1 := by
  have h2 : (Lib.itoa x ++ [32]).length = (Lib.itoa x).length + 1 := by simp
  rw [← h2, ← itoa_blank x]
  simp [ByteArray.size]

set_option maxHeartbeats 8000000 in
theorem key_calls (zs : List Int) (a : Option Addr) (c : Nat) (w : World) (h : IntsW w a c zs) (hl : zs.length ≤ 100000) (hb : ∀ x ∈ zs, Nine x) (htab : Tab w) :
    Calls Tryd.prog 39 #[.slice a zs.length c] w fun e w' => e = .returned (.string ⟨(keyP zs).toArray⟩) ∧ w.grownBy w' none := by
  obtain ⟨n, hn⟩ : ∃ n, zs.length = n := ⟨_, rfl⟩
  rw [hn] at hl ⊢
  have hfresh := Lib.fresh_isBuilder 75 5 w
  obtain ⟨b, hbs⟩ : ∃ b, w.heap.size = b := ⟨_, rfl⟩
  have hg0 := World.grownBy_alloc w (.cells #[.pointer none, .slice none 0 0] 75) none
  have hs0 : (w.alloc (.cells #[.pointer none, .slice none 0 0] 75)).heap.size = w.heap.size + 1 := by simp
  obtain ⟨W0, hW0⟩ : ∃ W0, w.alloc (.cells #[.pointer none, .slice none 0 0] 75) = W0 := ⟨_, rfl⟩
  rw [hW0] at hfresh hg0 hs0
  rw [hbs] at hfresh hs0
  have HN := Lib.hid hn
  have hg1 := World.grownBy_alloc W0 (.cells #[.slice a n c] 28) none
  have e1 := one_cell W0 (.slice a n c) 28
  obtain ⟨W1, hW1⟩ : ∃ z, W0.alloc (.cells #[.slice a n c] 28) = z := ⟨_, rfl⟩
  rw [hW1] at hg1 e1
  have HBU := Lib.hid (builder_grown hfresh hg1)
  have HG1 := Lib.hid (World.grownBy.trans hg0 hg1)
  have HSO := Lib.hid (sorted_calls zs a c W0.heap.size W1 (by rw [hn]; exact e1.2.1) (h.grown (World.grownBy.trans hg0 hg1)) (by rw [hn]; exact hl))
  rw [hn] at HSO
  have HT := Lib.hid htab
  have HB := Lib.hid (And.intro hbs hs0)
  have HZ : Hid (∀ x ∈ msort zs, Nine x) := Lib.hid (fun x hx => hb x (mem_msort.1 hx))
  have HML : Hid ((msort zs).length = n) := Lib.hid (by rw [msort_len, hn])
  clear hfresh hg0 hs0 hbs hn h hb htab hg1 e1
  go_enter Tryd.func39, Tryd.ntmps39
  go_wp2_with fail
  refine (values_calls a n c W0).mono ?_
  rintro e w' ⟨rfl, hw'⟩
  rw [hW1] at hw'
  rw [hw']
  clear hw' w' hW0 hW1
  go_wp2_with fail
  refine HSO.out.mono ?_
  rintro e w2 ⟨v, rfl, hrow, hg2⟩
  obtain ⟨sa, sc, rfl⟩ := own_shape hrow
  have HR2 := Lib.hid hrow
  have HG2 := Lib.hid (And.intro hg2 (World.grownBy.trans HG1.out hg2))
  have HB2 := Lib.hid (builder_grown HBU.out hg2)
  clear hrow hg2
  obtain ⟨Bx, hBx⟩ : ∃ z, W1.heap.size + 1 = z := ⟨_, rfl⟩
  rw [hBx] at HR2
  clear hBx
  go_wp2_with fail
  rw [HB.out.1]
  go_loopg [10] n (fun gk s10 wr => ∃ i : Nat, s10 = .int .i64 (i : Int) ∧ gk = n - i ∧ i ≤ n ∧ Lib.IsBuilder 75 5 b b (Lib.byteCells (textP ((msort zs).take i))) wr ∧ wr.ownsRow Bx 3 1 (.slice sa n sc) n (intCells (msort zs)) ∧ w.grownBy wr none)
  case atStart => exact ⟨0, rfl, rfl, Nat.zero_le _, HB2.out, HR2.out, HG2.out.2⟩
  case round =>
    obtain ⟨i, rfl, hgi, hi, hbd, hrw, hgr⟩ := hrel
    obtain ⟨wo, hwo⟩ : ∃ z, z = wr := ⟨_, rfl⟩
    rw [← hwo] at hbd hrw hgr ⊢
    clear hwo
    have HI := Lib.hid (And.intro hgi (And.intro hbd (And.intro hrw hgr))); clear hgi hbd hgr
    by_cases hin : i < n
    · have hinB : decide (i < n) = true := by simpa using hin
      have hinI : (i : Int) < (n : Int) := by omega
      obtain ⟨x, hx⟩ : ∃ x, (msort zs)[i]? = some x := ⟨_, List.getElem?_eq_getElem (by rw [HML.out]; exact hin)⟩
      obtain ⟨a9, c9, e9, hs9⟩ := ints_span (l := msort zs) (by rw [HML.out]; exact hrw)
      rw [HML.out] at e9
      cases e9
      obtain ⟨rb, ro, rfl, c0⟩ := hs9.here.weak.at hx
      have hnx := HZ.out x (List.mem_of_getElem? hx)
      have HNX := Lib.hid hnx
      unfold Nine at hnx
      obtain ⟨hn1, hn2⟩ := hnx
      have HTK : Hid ((msort zs).take (i + 1) = (msort zs).take i ++ [x]) := Lib.hid (by rw [List.take_add_one, hx]; rfl)
      have HIT := Lib.hid (Tryd.strconv_Itoa x (by omega) (by omega) wo (HT.out.grown HI.out.2.2.2))
      clear hx hs9 hrw
      go_wp2_with fail
      refine HIT.out.mono ?_
      rintro e w3 ⟨rfl, k3, os3, hw3⟩
      have HG3 : Hid (wo.grownBy w3 none) := Lib.hid (by rw [hw3]; exact grown_grow wo k3 os3)
      clear hw3 HIT c0
      have hlen := itoa_blank_size x
      have hil := itoa_len HNX.out
      have hsa : ∀ W : World, (Op.stringOp .add ⟨(Lib.itoa x).toArray⟩ ⟨#[32]⟩).run Tryd.prog W = .ok (.string (⟨(Lib.itoa x).toArray⟩ ++ ⟨#[32]⟩)) W := fun W => run_string_add_sum _ _ _ (by have := hlen; rw [ByteArray.size_append] at this; omega)
      go_wp2_with fail
      obtain ⟨S, hS⟩ : ∃ S : ByteArray, (⟨(Lib.itoa x).toArray⟩ : ByteArray) ++ ⟨#[32]⟩ = S := ⟨_, rfl⟩
      have HSD : Hid (S.data.toList = Lib.itoa x ++ [32]) := Lib.hid (by rw [← hS]; exact itoa_blank x)
      have hSs : S.size ≤ 11 := by rw [← hS, hlen]; omega
      rw [hS]
      clear hS hsa hlen hil
      have htl := text_len ((msort zs).take i) (fun y hy => HZ.out y (List.mem_of_mem_take hy))
      have htl2 : ((msort zs).take i).length ≤ i := by rw [List.length_take]; exact Nat.min_le_left _ _
      have HWS := Lib.hid (writeString_calls b b (Lib.byteCells (textP ((msort zs).take i))) S w3 (builder_grown HI.out.2.1 HG3.out) (by rw [Lib.byteCells_length]; omega) (by have := HG3.out.size; have := HI.out.2.2.2.size; have := HB.out.1; omega))
      refine HWS.out.mono ?_
      rintro e w4 ⟨rfl, hbd4, hbl4, hk4⟩
      have H4 : Hid (Lib.IsBuilder 75 5 b b (Lib.byteCells (textP ((msort zs).take (i + 1)))) w4 ∧ w4.ownsRow Bx 3 1 (.slice (some ⟨rb, ro, none⟩) n sc) n (intCells (msort zs)) ∧ w.grownBy w4 none) := Lib.hid ⟨by
        rw [HTK.out, text_snoc, Lib.byteCells_append, ← strCells_of _ _ HSD.out]; exact .inr hbd4, own_kept75 (own_grown HI.out.2.2.1 HG3.out) hk4, grown_below (World.grownBy.trans HI.out.2.2.2 HG3.out) hbl4 (Nat.le_of_eq HB.out.1)⟩
      clear hbd4 hbl4 hk4 htl htl2
      go_wp2_with fail
      go_roundg (n - (i + 1))
      case measure => rw [HI.out.1]; omega
      case rel => exact ⟨i + 1, rfl, rfl, by omega, H4.out.1, H4.out.2.1, H4.out.2.2⟩
    · have hie : i = n := by omega
      subst hie
      have hinB : decide (i < i) = false := by simp
      have HE : Hid ((msort zs).take i = msort zs) := Lib.hid (List.take_of_length_le (by rw [HML.out]; exact Nat.le_refl _))
      have HST := Lib.hid (Tryd.Builder_String_any b b (keyP zs) wo (by have := HI.out.2.1; rw [HE.out] at this; exact this) (by have := HI.out.2.2.2.size; have := HB.out.1; omega))
      clear hrw
      go_wp2_with fail
      refine HST.out.mono ?_
      rintro e w5 ⟨rfl, hb5⟩
      have HG5 := Lib.hid (grown_below HI.out.2.2.2 hb5 (Nat.le_of_eq HB.out.1))
      clear hb5
      go_wp2_with fail
      go_ret
      exact ⟨rfl, HG5.out⟩
end Go.Proofs.YthkjjiijjedipaaDoor

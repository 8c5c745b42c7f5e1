/- Encode. -/
import Derived.Test.YtgeidnfigncepaaDoorQ
import Derived.Test.YtgeidnfigncepaaDoorR
import Derived.Test.YtgeidnfigncepaaDoorJ
import Derived.Lib.AppendIntMem
namespace Go.Proofs.YtgeidnfigncepaaDoor
open Go.RowKit Go.Sort

/-- The powers of ten that the library's Itoa reads. -/
def Tab (w : World) : Prop := Lib.TabIs Tryd.prog w "internal/strconv.uint64pow10" .u64 Lib.pow10Tab
theorem Tab.grown {w w' : World} (h : Tab w) (hg : w.grownBy w' none) : Tab w' := by
  unfold Tab Lib.TabIs World.var? at *
  cases hn : Tryd.prog.globalNamed "internal/strconv.uint64pow10" with
  | none => rw [hn] at h; simp at h
  | some g =>
    rw [hn] at h
    simp only [Option.bind_some] at h ⊢
    cases hh : w.heap[g]? with
    | none => rw [hh] at h; simp at h
    | some o =>
      rw [hg.block g (Array.getElem?_eq_some_iff.1 hh).1 (by simp), hh]
      rw [hh] at h
      exact h
theorem builder_grown {w w' : World} {B b : Nat} {bs : List Value} (h : Lib.IsBuilder 56 5 B b bs w) (hg : w.grownBy w' none) : Lib.IsBuilder 56 5 B b bs w' := by
  have key : ∀ p, Lib.BuilderAt 56 5 B b p bs w → Lib.BuilderAt 56 5 B b p bs w' := by
    rintro p ⟨hB, v, hb, hown, hne⟩
    exact ⟨hB, v, by rw [hg.block b (Array.getElem?_eq_some_iff.1 hb).1 (by simp)]; exact hb, hown.kept hg (by cases hv : v.ownBlock <;> simp), hne⟩
  rcases h with h | h
  · exact .inl (key _ h)
  · exact .inr (key _ h)
theorem grown_below {w0 w w' : World} {B : Nat} (h : w0.grownBy w none) (hb : Below B w w') (hB : w0.heap.size ≤ B) : w0.grownBy w' none :=
  ⟨hb.os.trans h.os, hb.tape.trans h.tape, hb.output.trans h.output, Nat.le_trans h.size hb.size, fun k hk _ => by rw [hb.block k (by omega)]; exact h.block k hk (by simp)⟩
theorem grown_grow (w : World) (k : Nat) (os : Array Obj) : w.grownBy (grow (w.drewN k) os) none :=
  ⟨rfl, rfl, rfl, Lib.size_grow w k os, fun g hg _ => Lib.heap_grow_old w k os g hg⟩
theorem strCells_of (s : ByteArray) (l : List UInt8) (h : s.data.toList = l) : Lib.strCells s = Lib.byteCells l := by unfold Lib.strCells Lib.byteCells; rw [h]
theorem blank_itoa (x : Int) : ((⟨#[32]⟩ : ByteArray) ++ ⟨(Lib.itoa x).toArray⟩).data.toList = numB x := by
  rw [ByteArray.data_append]; simp [numB]
theorem blank_size (x : Int) : ((⟨#[32]⟩ : ByteArray) ++ ⟨(Lib.itoa x).toArray⟩).size = (numB x).length := by
  rw [← blank_itoa x]; simp [ByteArray.size]

theorem isBuilder_lt {w : World} {B b : Nat} {bs : List Value} (h : Lib.IsBuilder 56 5 B b bs w) : b < w.heap.size := by
  rcases h with h | h <;> exact h.lt
theorem step_cells {w : World} {g : Nat} {A B C : Value} (h : w.heap[g]? = some (.cells #[A, B, C] 43 (0, 0))) : w.cell? ⟨g, 0, none⟩ = some A ∧ w.cell? ⟨g, 1, none⟩ = some B ∧ w.cell? ⟨g, 2, none⟩ = some C :=
  ⟨by rw [Lib.cell_of_heap h]; rfl, by rw [Lib.cell_of_heap h]; rfl, by rw [Lib.cell_of_heap h]; rfl⟩
theorem enc_take {l : List St} {i : Nat} {x : St} (h : l[i]? = some x) : enc (l.take (i + 1)) = enc (l.take i) ++ encS x := by
  rw [List.take_add_one, h, Option.toList_some, enc_append]; simp [enc]
theorem enc_take_le (l : List St) (i : Nat) : (enc (l.take i)).length ≤ (enc l).length := by
  conv => rhs; rw [← List.take_append_drop i l, enc_append]
  rw [List.length_append]; omega
theorem numsB_take {l : List Int} {j : Nat} {y : Int} (h : l[j]? = some y) : numsB (l.take (j + 1)) = numsB (l.take j) ++ numB y := by
  rw [List.take_add_one, h, Option.toList_some, numsB_append]; simp [numsB]
theorem numsB_take_le (l : List Int) (j : Nat) : (numsB (l.take j)).length ≤ (numsB l).length := by
  conv => rhs; rw [← List.take_append_drop j l, numsB_append]
  rw [List.length_append]; omega
/-- A step's text up to the literal j. -/
def upTo (x : St) (j : Nat) : List UInt8 := letB x.1 :: ((if x.1 = 4 then numB x.2.2 else []) ++ numsB (x.2.1.take j))
theorem upTo_full (x : St) : upTo x x.2.1.length ++ [32, 48, 10] = encS x := by
  unfold upTo encS; rw [List.take_of_length_le (Nat.le_refl _)]; simp
theorem upTo_succ {x : St} {j : Nat} {y : Int} (h : x.2.1[j]? = some y) : upTo x (j + 1) = upTo x j ++ numB y := by
  unfold upTo; rw [numsB_take h]; simp
theorem upTo_le (x : St) (j : Nat) : (upTo x j).length + 3 ≤ (encS x).length := by
  rw [← upTo_full x]
  have := numsB_take_le x.2.1 j
  unfold upTo
  rw [List.take_of_length_le (Nat.le_refl _)]
  simp only [List.length_append, List.length_cons, List.length_nil]
  omega

theorem numsB_len (l : List Int) : l.length ≤ (numsB l).length := by
  induction l with
  | nil => simp [numsB]
  | cons x l ih => rw [numsB_cons, List.length_append, List.length_cons]; simp only [numB, List.length_cons]; omega
theorem lits_le (x : St) : x.2.1.length ≤ (encS x).length := by
  have := numsB_len x.2.1
  unfold encS
  simp only [List.length_append, List.length_cons]
  omega

set_option maxRecDepth 100000 in
set_option maxHeartbeats 8000000 in
theorem encode_calls (l : List St) (n : Nat) (hn : l.length = n) (a : Option Addr) (c : Nat) (w : World) (h : Steps w a c l) (hgood : GoodL l) (hsz : (enc l).length ≤ 1000000000) (htab : Tab w) :
    Calls Tryd.prog 14 #[.slice a n c] w fun e w' => e = .returned (.string ⟨(enc l).toArray⟩) ∧ w.grownBy w' none := by
  have hl : n ≤ 1000000000 := by
    have : ∀ m : List St, m.length ≤ (enc m).length := by
      intro m
      induction m with
      | nil => simp [enc]
      | cons x m ih => rw [enc_cons, List.length_append, List.length_cons]; have := encS_pos x; omega
    have := this l
    omega
  have HH := Lib.hid (And.intro hn (And.intro h (And.intro hgood (And.intro hsz htab)))); clear hn h hgood htab
  go_enter Tryd.func14, Tryd.ntmps14
  go_wp2_with fail
  have hfresh := Lib.fresh_isBuilder 56 5 w
  obtain ⟨b, hb⟩ : ∃ b, w.heap.size = b := ⟨_, rfl⟩
  have hg0 := World.grownBy_alloc w (.cells #[.pointer none, .slice none 0 0] 56) none
  obtain ⟨W0, hW0⟩ : ∃ W0, w.alloc (.cells #[.pointer none, .slice none 0 0] 56) = W0 := ⟨_, rfl⟩
  rw [hW0] at hfresh hg0 ⊢
  rw [hb] at hfresh ⊢
  have HW := Lib.hid (And.intro hfresh (And.intro hg0 hb)); clear hfresh hg0 hW0 hb
  go_loopg [10] n (fun g s10 wr => ∃ i : Nat, s10 = .int .i64 (i : Int) ∧ g = n - i ∧ i ≤ n ∧ Lib.IsBuilder 56 5 b b (Lib.byteCells (enc (l.take i))) wr ∧ w.grownBy wr none)
  case atStart => exact ⟨0, rfl, rfl, Nat.zero_le _, HW.out.1, HW.out.2.1⟩
  case round =>
    obtain ⟨wo, rfl⟩ : ∃ wo, wo = wr := ⟨_, rfl⟩
    obtain ⟨i, rfl, hgi, hi, hbd, hgr⟩ := hrel
    have HI := Lib.hid (And.intro hgi (And.intro hbd hgr)); clear hgi hbd hgr
    by_cases hin : i < n
    · have hinB : decide (i < n) = true := by simpa using hin
      have hinI : (i : Int) < (n : Int) := by omega
      obtain ⟨x, hx⟩ : ∃ x, l[i]? = some x := ⟨_, List.getElem?_eq_getElem (by rw [HH.out.1]; exact hin)⟩
      obtain ⟨sb, so, rfl, c0, ⟨la, lc, c1, hints⟩, c2⟩ := HH.out.2.1.2 i x hx
      have c0 := HI.out.2.2.cell c0 (by simp)
      have c1 := HI.out.2.2.cell c1 (by simp)
      have c2 := HI.out.2.2.cell c2 (by simp)
      have hgx := HH.out.2.2.1 x (List.mem_of_getElem? hx)
      have hle : (enc (l.take i)).length + (encS x).length ≤ 1000000000 := by
        have h1 := enc_take_le l (i + 1)
        rw [enc_take hx, List.length_append] at h1
        have := HH.out.2.2.2.1
        omega
      have HX := Lib.hid (And.intro hx (And.intro hgx (And.intro hle hints))); clear hx hgx hints
      obtain ⟨p, hp⟩ : ∃ p, x.2.1.length = p := ⟨_, rfl⟩
      rw [hp] at c1
      have hp9 : p ≤ 1000000000 := by have := lits_le x; omega
      have HP := Lib.hid hp; clear hp hle
      obtain ⟨T, hT⟩ : ∃ T, enc (l.take i) = T := ⟨_, rfl⟩
      have HT := Lib.hid hT; clear hT
      obtain ⟨kk, ll, sy⟩ := x
      obtain ⟨x, hxx⟩ : ∃ x : St, x = (kk, ll, sy) := ⟨_, rfl⟩
      rw [← hxx] at HX HP
      have hblt : b < wo.heap.size := isBuilder_lt HI.out.2.1
      simp only at c0 c1 c2
      go_wp2_with fail
      refine (letter_calls _ _).mono ?_
      rintro e w' ⟨rfl, rfl⟩
      go_wp2_with fail
      have HGA := Lib.hid (World.grownBy_alloc wo (.cells #[.int .i64 kk, .slice la p lc, .int .i64 sy] 43) none)
      have hle0 : T.length + 4 ≤ 1000000000 := by have := HX.out.2.2.1; rw [HT.out] at this; have := upTo_le x 0; unfold upTo at this; simp only [List.length_cons] at this; omega
      refine (writeByte_calls b b _ _ _ (builder_grown HI.out.2.1 HGA.out) (by rw [Lib.byteCells_length, HT.out]; omega) (by simp; omega)).mono ?_
      rintro e w1 ⟨rfl, hbd1, hbl1, hk1⟩
      obtain ⟨g5, hg5⟩ : ∃ g5, wo.heap.size = g5 := ⟨_, rfl⟩
      have HBD1 : Hid (Lib.IsBuilder 56 5 b b (Lib.byteCells (T ++ [letB kk])) w1) := Lib.hid (by rw [Lib.byteCells_append, ← HT.out]; exact .inr hbd1)
      have HG1 := Lib.hid (grown_below (HI.out.2.2.trans HGA.out) hbl1 (Nat.le_of_eq HW.out.2.2))
      have HH1 : Hid (w1.heap[g5]? = some (.cells #[.int .i64 kk, .slice la p lc, .int .i64 sy] 43 (0, 0))) := Lib.hid (hk1 g5 _ _ _ (by rw [← hg5]; exact heap_alloc_new wo _) (by decide) (by decide))
      rw [hg5]
      clear hbd1 hbl1 hk1 hg5 c0 c1 c2
      obtain ⟨e0, e1, e2⟩ := step_cells HH1.out
      have HXX := Lib.hid hxx
      by_cases hk4 : kk = 4
      · have d4 : (kk == 4) = true := by simpa using hk4
        have hgs : GoodN sy := by have := HX.out.2.1.2.2.1; rw [hxx] at this; exact this hk4
        unfold GoodN at hgs
        obtain ⟨hgs1, hgs2⟩ := hgs
        have HUP : Hid (upTo x 0 = [letB kk] ++ numB sy) := Lib.hid (by rw [hxx]; unfold upTo; simp only [hk4, if_true, List.take_zero, numsB_nil, List.append_nil]; rfl)
        have hle1 : T.length + 1 + (numB sy).length ≤ 1000000000 := by have := HX.out.2.2.1; rw [HT.out] at this; have := upTo_le x 0; rw [HUP.out] at this; simp only [List.length_append, List.length_cons, List.length_nil] at this; omega
        clear hk4 hxx
        go_wp2_with fail
        refine (Tryd.strconv_Itoa sy (by omega) (by omega) _ (HH.out.2.2.2.2.grown HG1.out)).mono ?_
        rintro e w2 ⟨rfl, k2, os2, rfl⟩
        have hsa : ∀ W : World, (Op.stringOp .add ⟨#[32]⟩ ⟨(Lib.itoa sy).toArray⟩).run Tryd.prog W = .ok (.string (⟨#[32]⟩ ++ ⟨(Lib.itoa sy).toArray⟩)) W := fun W => run_string_add_sum _ _ _ (by have := blank_size sy; rw [ByteArray.size_append] at this; omega)
        have HG2 := Lib.hid (grown_grow w1 k2 os2)
        obtain ⟨w2, hw2⟩ : ∃ w2, grow (w1.drewN k2) os2 = w2 := ⟨_, rfl⟩
        rw [hw2] at HG2 ⊢
        clear hw2 e0 e1 e2
        go_wp2_with fail
        obtain ⟨S, hS⟩ : ∃ S : ByteArray, (⟨#[32]⟩ : ByteArray) ++ ⟨(Lib.itoa sy).toArray⟩ = S := ⟨_, rfl⟩
        have hSs : S.size = (numB sy).length := by rw [← hS]; exact blank_size sy
        have HSD : Hid (S.data.toList = numB sy) := Lib.hid (by rw [← hS]; exact blank_itoa sy)
        rw [hS]
        clear hS hsa
        refine (writeString_calls b b _ S _ (builder_grown HBD1.out HG2.out) (by rw [Lib.byteCells_length, List.length_append, List.length_singleton, hSs]; omega) (by have := HG2.out.size; have := HG1.out.size; have := HW.out.2.2; omega)).mono ?_
        rintro e w3 ⟨rfl, hbd3, hbl3, hk3⟩
        have HZ : Hid (Lib.IsBuilder 56 5 b b (Lib.byteCells (T ++ upTo x 0)) w3 ∧ w3.heap[g5]? = some (.cells #[.int .i64 x.1, .slice la x.2.1.length lc, .int .i64 x.2.2] 43 (0, 0)) ∧ w.grownBy w3 none) := Lib.hid ⟨by
            rw [HUP.out, ← List.append_assoc, Lib.byteCells_append, ← strCells_of _ _ HSD.out]; exact .inr hbd3, by
            rw [HP.out, HXX.out]; exact hk3 g5 _ _ _ (by rw [HG2.out.block g5 (Array.getElem?_eq_some_iff.1 HH1.out).1 (by simp)]; exact HH1.out) (by decide) (by decide), grown_below (HG1.out.trans HG2.out) hbl3 (Nat.le_of_eq HW.out.2.2)⟩
        clear hbd3 hbl3 hk3
        obtain ⟨e0, e1, e2⟩ := step_cells HZ.out.2.1
        clear e0 e2
        rw [HP.out] at e1
        go_wp2_with fail
        go_loopg [29] p (fun g s29 wr => ∃ j : Nat, s29 = .int .i64 (j : Int) ∧ g = p - j ∧ j ≤ p ∧ Lib.IsBuilder 56 5 b b (Lib.byteCells (T ++ upTo x j)) wr ∧ wr.heap[g5]? = some (.cells #[.int .i64 x.1, .slice la x.2.1.length lc, .int .i64 x.2.2] 43 (0, 0)) ∧ w.grownBy wr none)
        case atStart => exact ⟨0, rfl, rfl, Nat.zero_le _, HZ.out.1, HZ.out.2.1, HZ.out.2.2⟩
        case round =>
          obtain ⟨j, rfl, hgj, hj, hbd2, hheap2, hgr2⟩ := hrel
          have HJ := Lib.hid (And.intro hgj (And.intro hbd2 (And.intro hheap2 hgr2))); clear hgj hbd2 hheap2 hgr2
          have hup := upTo_le x j
          have htx : T.length + (encS x).length ≤ 1000000000 := by have := HX.out.2.2.1; rw [HT.out] at this; exact this
          by_cases hjp : j < p
          · have hjB : decide (j < p) = true := by simpa using hjp
            have hjI : (j : Int) < (p : Int) := by omega
            obtain ⟨y, hy⟩ : ∃ y, x.2.1[j]? = some y := ⟨_, List.getElem?_eq_getElem (by rw [HP.out]; exact hjp)⟩
            obtain ⟨lb, lo, rfl, ce⟩ := (HX.out.2.2.2.grown HJ.out.2.2.2).2 j y hy
            have hgy := (HX.out.2.1.2.1 y (List.mem_of_getElem? hy)).2
            unfold GoodN at hgy
            obtain ⟨hgy1, hgy2⟩ := hgy
            have hup2 := upTo_le x (j + 1)
            have hsucc := upTo_succ hy
            have hup3 : (upTo x j).length + (numB y).length + 3 ≤ (encS x).length := by rw [hsucc, List.length_append] at hup2; exact hup2
            have HY := Lib.hid hsucc; clear hup2 hsucc hy
            go_wp2_with fail
            refine (Tryd.strconv_Itoa y (by omega) (by omega) _ (HH.out.2.2.2.2.grown HJ.out.2.2.2)).mono ?_
            rintro e w3 ⟨rfl, k3, os3, rfl⟩
            have hsa : ∀ W : World, (Op.stringOp .add ⟨#[32]⟩ ⟨(Lib.itoa y).toArray⟩).run Tryd.prog W = .ok (.string (⟨#[32]⟩ ++ ⟨(Lib.itoa y).toArray⟩)) W := fun W => run_string_add_sum _ _ _ (by have := blank_size y; rw [ByteArray.size_append] at this; omega)
            have HG3 := Lib.hid (grown_grow wr k3 os3)
            obtain ⟨w3, hw3⟩ : ∃ w3, grow (wr.drewN k3) os3 = w3 := ⟨_, rfl⟩
            rw [hw3] at HG3 ⊢
            clear hw3 ce
            go_wp2_with fail
            obtain ⟨S, hS⟩ : ∃ S : ByteArray, (⟨#[32]⟩ : ByteArray) ++ ⟨(Lib.itoa y).toArray⟩ = S := ⟨_, rfl⟩
            have hSs : S.size = (numB y).length := by rw [← hS]; exact blank_size y
            have HSD : Hid (S.data.toList = numB y) := Lib.hid (by rw [← hS]; exact blank_itoa y)
            rw [hS]
            clear hS hsa
            refine (writeString_calls b b _ S _ (builder_grown HJ.out.2.1 HG3.out) (by rw [Lib.byteCells_length, List.length_append, hSs]; omega) (by have := HG3.out.size; have := HJ.out.2.2.2.size; have := HW.out.2.2; omega)).mono ?_
            rintro e w4 ⟨rfl, hbd4, hbl4, hk4⟩
            have HB4 : Hid (Lib.IsBuilder 56 5 b b (Lib.byteCells (T ++ upTo x (j + 1))) w4) := Lib.hid (by
              rw [HY.out, ← List.append_assoc, Lib.byteCells_append, ← strCells_of _ _ HSD.out]; exact .inr hbd4)
            have HG4 := Lib.hid (grown_below (HJ.out.2.2.2.trans HG3.out) hbl4 (Nat.le_of_eq HW.out.2.2))
            have HH4 : Hid (w4.heap[g5]? = some (.cells #[.int .i64 x.1, .slice (some ⟨lb, lo, none⟩) x.2.1.length lc, .int .i64 x.2.2] 43 (0, 0))) := Lib.hid (hk4 g5 _ _ _ (by rw [HG3.out.block g5 (Array.getElem?_eq_some_iff.1 HJ.out.2.2.1).1 (by simp)]; exact HJ.out.2.2.1) (by decide) (by decide))
            clear hbd4 hbl4 hk4
            go_wp2_with fail
            go_roundg (p - (j + 1))
            case measure => rw [HJ.out.1]; omega
            case rel => exact ⟨j + 1, rfl, rfl, by omega, HB4.out, HH4.out, HG4.out⟩
          · have hje : j = p := by omega
            subst hje
            have hjB : decide (j < j) = false := by simp
            have HFU : Hid (T ++ encS x = (T ++ upTo x j) ++ [32, 48, 10]) := Lib.hid (by rw [List.append_assoc, ← HP.out, upTo_full])
            go_wp2_with fail
            refine (writeString_calls b b _ ⟨#[32, 48, 10]⟩ _ HJ.out.2.1 (by rw [Lib.byteCells_length, List.length_append]; show _ + 3 ≤ _; omega) (by have := HJ.out.2.2.2.size; have := HW.out.2.2; omega)).mono ?_
            rintro e w4 ⟨rfl, hbd4, hbl4, hk4⟩
            have HB4 : Hid (Lib.IsBuilder 56 5 b b (Lib.byteCells (enc (l.take (i + 1)))) w4) := Lib.hid (by
              rw [enc_take HX.out.1, HT.out, HFU.out, Lib.byteCells_append]; exact .inr hbd4)
            have HG4 := Lib.hid (grown_below HJ.out.2.2.2 hbl4 (Nat.le_of_eq HW.out.2.2))
            clear hbd4 hbl4 hk4 hup htx
            go_wp2_with fail
            go_roundg (n - (i + 1))
            case measure => rw [HI.out.1]; omega
            case rel => exact ⟨i + 1, rfl, rfl, by omega, HB4.out, HG4.out⟩
      · have d4 : (kk == 4) = false := by simpa using hk4
        have HZ : Hid (Lib.IsBuilder 56 5 b b (Lib.byteCells (T ++ upTo x 0)) w1 ∧ w1.heap[g5]? = some (.cells #[.int .i64 x.1, .slice la x.2.1.length lc, .int .i64 x.2.2] 43 (0, 0)) ∧ w.grownBy w1 none) := Lib.hid ⟨by
            have : upTo x 0 = [letB kk] := by rw [hxx]; unfold upTo; simp only [hk4, if_false, List.take_zero, numsB_nil, List.append_nil]
            rw [this]; exact HBD1.out, by
            rw [HP.out, hxx]; exact HH1.out, HG1.out⟩
        clear hk4 hxx e1 e2
        obtain ⟨e0, e1, e2⟩ := step_cells HZ.out.2.1
        clear e0 e2
        rw [HP.out] at e1
        go_wp2_with fail
        go_loopg [29] p (fun g s29 wr => ∃ j : Nat, s29 = .int .i64 (j : Int) ∧ g = p - j ∧ j ≤ p ∧ Lib.IsBuilder 56 5 b b (Lib.byteCells (T ++ upTo x j)) wr ∧ wr.heap[g5]? = some (.cells #[.int .i64 x.1, .slice la x.2.1.length lc, .int .i64 x.2.2] 43 (0, 0)) ∧ w.grownBy wr none)
        case atStart => exact ⟨0, rfl, rfl, Nat.zero_le _, HZ.out.1, HZ.out.2.1, HZ.out.2.2⟩
        case round =>
          obtain ⟨j, rfl, hgj, hj, hbd2, hheap2, hgr2⟩ := hrel
          have HJ := Lib.hid (And.intro hgj (And.intro hbd2 (And.intro hheap2 hgr2))); clear hgj hbd2 hheap2 hgr2
          have hup := upTo_le x j
          have htx : T.length + (encS x).length ≤ 1000000000 := by have := HX.out.2.2.1; rw [HT.out] at this; exact this
          by_cases hjp : j < p
          · have hjB : decide (j < p) = true := by simpa using hjp
            have hjI : (j : Int) < (p : Int) := by omega
            obtain ⟨y, hy⟩ : ∃ y, x.2.1[j]? = some y := ⟨_, List.getElem?_eq_getElem (by rw [HP.out]; exact hjp)⟩
            obtain ⟨lb, lo, rfl, ce⟩ := (HX.out.2.2.2.grown HJ.out.2.2.2).2 j y hy
            have hgy := (HX.out.2.1.2.1 y (List.mem_of_getElem? hy)).2
            unfold GoodN at hgy
            obtain ⟨hgy1, hgy2⟩ := hgy
            have hup2 := upTo_le x (j + 1)
            have hsucc := upTo_succ hy
            have hup3 : (upTo x j).length + (numB y).length + 3 ≤ (encS x).length := by rw [hsucc, List.length_append] at hup2; exact hup2
            have HY := Lib.hid hsucc; clear hup2 hsucc hy
            go_wp2_with fail
            refine (Tryd.strconv_Itoa y (by omega) (by omega) _ (HH.out.2.2.2.2.grown HJ.out.2.2.2)).mono ?_
            rintro e w3 ⟨rfl, k3, os3, rfl⟩
            have hsa : ∀ W : World, (Op.stringOp .add ⟨#[32]⟩ ⟨(Lib.itoa y).toArray⟩).run Tryd.prog W = .ok (.string (⟨#[32]⟩ ++ ⟨(Lib.itoa y).toArray⟩)) W := fun W => run_string_add_sum _ _ _ (by have := blank_size y; rw [ByteArray.size_append] at this; omega)
            have HG3 := Lib.hid (grown_grow wr k3 os3)
            obtain ⟨w3, hw3⟩ : ∃ w3, grow (wr.drewN k3) os3 = w3 := ⟨_, rfl⟩
            rw [hw3] at HG3 ⊢
            clear hw3 ce
            go_wp2_with fail
            obtain ⟨S, hS⟩ : ∃ S : ByteArray, (⟨#[32]⟩ : ByteArray) ++ ⟨(Lib.itoa y).toArray⟩ = S := ⟨_, rfl⟩
            have hSs : S.size = (numB y).length := by rw [← hS]; exact blank_size y
            have HSD : Hid (S.data.toList = numB y) := Lib.hid (by rw [← hS]; exact blank_itoa y)
            rw [hS]
            clear hS hsa
            refine (writeString_calls b b _ S _ (builder_grown HJ.out.2.1 HG3.out) (by rw [Lib.byteCells_length, List.length_append, hSs]; omega) (by have := HG3.out.size; have := HJ.out.2.2.2.size; have := HW.out.2.2; omega)).mono ?_
            rintro e w4 ⟨rfl, hbd4, hbl4, hk4⟩
            have HB4 : Hid (Lib.IsBuilder 56 5 b b (Lib.byteCells (T ++ upTo x (j + 1))) w4) := Lib.hid (by
              rw [HY.out, ← List.append_assoc, Lib.byteCells_append, ← strCells_of _ _ HSD.out]; exact .inr hbd4)
            have HG4 := Lib.hid (grown_below (HJ.out.2.2.2.trans HG3.out) hbl4 (Nat.le_of_eq HW.out.2.2))
            have HH4 : Hid (w4.heap[g5]? = some (.cells #[.int .i64 x.1, .slice (some ⟨lb, lo, none⟩) x.2.1.length lc, .int .i64 x.2.2] 43 (0, 0))) := Lib.hid (hk4 g5 _ _ _ (by rw [HG3.out.block g5 (Array.getElem?_eq_some_iff.1 HJ.out.2.2.1).1 (by simp)]; exact HJ.out.2.2.1) (by decide) (by decide))
            clear hbd4 hbl4 hk4
            go_wp2_with fail
            go_roundg (p - (j + 1))
            case measure => rw [HJ.out.1]; omega
            case rel => exact ⟨j + 1, rfl, rfl, by omega, HB4.out, HH4.out, HG4.out⟩
          · have hje : j = p := by omega
            subst hje
            have hjB : decide (j < j) = false := by simp
            have HFU : Hid (T ++ encS x = (T ++ upTo x j) ++ [32, 48, 10]) := Lib.hid (by rw [List.append_assoc, ← HP.out, upTo_full])
            go_wp2_with fail
            refine (writeString_calls b b _ ⟨#[32, 48, 10]⟩ _ HJ.out.2.1 (by rw [Lib.byteCells_length, List.length_append]; show _ + 3 ≤ _; omega) (by have := HJ.out.2.2.2.size; have := HW.out.2.2; omega)).mono ?_
            rintro e w4 ⟨rfl, hbd4, hbl4, hk4⟩
            have HB4 : Hid (Lib.IsBuilder 56 5 b b (Lib.byteCells (enc (l.take (i + 1)))) w4) := Lib.hid (by
              rw [enc_take HX.out.1, HT.out, HFU.out, Lib.byteCells_append]; exact .inr hbd4)
            have HG4 := Lib.hid (grown_below HJ.out.2.2.2 hbl4 (Nat.le_of_eq HW.out.2.2))
            clear hbd4 hbl4 hk4 hup htx
            go_wp2_with fail
            go_roundg (n - (i + 1))
            case measure => rw [HI.out.1]; omega
            case rel => exact ⟨i + 1, rfl, rfl, by omega, HB4.out, HG4.out⟩
    · have hie : i = n := by omega
      subst hie
      have hinB : decide (i < i) = false := by simp
      have HF : Hid (Lib.IsBuilder 56 5 b b (Lib.byteCells (enc l)) wo) := Lib.hid (by have := HI.out.2.1; rw [List.take_of_length_le (by rw [HH.out.1]; exact Nat.le_refl _)] at this; exact this)
      go_wp2_with fail
      refine (Tryd.Builder_String_any b b (enc l) wo HF.out (by have := HI.out.2.2.size; have := HW.out.2.2; omega)).mono ?_
      rintro e w2 ⟨rfl, hbl⟩
      have HG := Lib.hid (grown_below HI.out.2.2 hbl (Nat.le_of_eq HW.out.2.2)); clear hbl
      go_wp2_with fail
      go_ret
      exact ⟨rfl, HG.out⟩
end Go.Proofs.YtgeidnfigncepaaDoor

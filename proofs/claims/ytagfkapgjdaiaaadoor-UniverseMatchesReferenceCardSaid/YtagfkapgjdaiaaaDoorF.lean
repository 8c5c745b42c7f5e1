/- The scope that is made of raw data. -/
import Derived.Test.YtagfkapgjdaiaaaDoorE
namespace Go.Proofs.YtagfkapgjdaiaaaDoor
open Go.RowKit

def sizes : List Nat → Nat → Nat → List Nat
  | [], _, _ => []
  | _ :: _, 0, _ => []
  | z :: zs, n + 1, left => if left = 0 then [] else min (z % 5 + 1) left :: sizes zs n (left - min (z % 5 + 1) left)
def scopeL (raw : List Nat) : List Nat := sizes raw 4 12
theorem sizes_stop {zs : List Nat} {n left : Nat} (h : zs = [] ∨ n = 0 ∨ left = 0) : sizes zs n left = [] := by
  match zs, n, h with
  | [], _, _ => rfl
  | _ :: _, 0, _ => rfl
  | z :: zs, n + 1, h =>
    have : left = 0 := by rcases h with h | h | h <;> simp_all
    simp [sizes, this]
theorem sizes_bound : ∀ (zs : List Nat) (n left : Nat), (sizes zs n left).length ≤ n ∧ sum (sizes zs n left) ≤ left ∧ ∀ z ∈ sizes zs n left, 1 ≤ z ∧ z ≤ 5
  | [], n, left => by simp [sizes, sum]
  | _ :: _, 0, left => by simp [sizes, sum]
  | z :: zs, n + 1, left => by
    simp only [sizes]
    split
    · simp [sum]
    · have ih := sizes_bound zs n (left - min (z % 5 + 1) left)
      refine ⟨by simp; exact ih.1, ?_, fun y hy => ?_⟩
      · have := ih.2.1; simp only [sum]; omega
      · rcases List.mem_cons.1 hy with rfl | h
        · omega
        · exact ih.2.2 y h

theorem info3 : (Tryd.prog.info? 3).map (fun i => (i.zero, i.size, i.bytes)) = some (some (.int .i64 0), 1, 8) := by kernel_rfl

abbrev numCells (l : List Nat) : List Value := l.map fun (z : Nat) => Value.int .i64 (z : Int)
/-- A row of the call's own, as cells. -/
theorem own_nums {w : World} {B : Nat} {v : Value} {l : List Nat} (h : w.ownsRow B 3 1 v l.length (numCells l)) : ∃ a c, v = .slice a l.length c ∧ Nums w a c l := by
  have hc := @World.ownsRow.cells w B 3 1 v l.length _ h
  rcases h.2 with ⟨hv, h0⟩ | ⟨g, cap, cur, rfl, hb, hg, hnc, hcm, _⟩
  · have hl : l = [] := List.eq_nil_of_length_eq_zero h0
    subst hl
    exact ⟨none, 0, hv, Nat.le_refl _, .inl ⟨rfl, rfl, rfl⟩⟩
  · refine ⟨_, _, rfl, hnc, .inr ⟨g, 0, rfl, (Array.getElem?_eq_some_iff.1 hg).1, fun j z hj => ?_⟩⟩
    have := hc (g := g) rfl j (.int .i64 (z : Int)) (by rw [numCells, List.getElem?_map, hj]; rfl)
    have hadd : (⟨g, 0, none⟩ : Addr).add j = ⟨g, j, none⟩ := by unfold Addr.add; split <;> simp_all
    rw [hadd] at this
    rw [Nat.zero_add]; exact this

/-- Raw bytes that are read. -/
def Bytes (w : World) (a : Option Addr) (_c : Nat) (zs : List Nat) : Prop :=
  (∀ z ∈ zs, z < 256) ∧ ∀ j z : Nat, zs[j]? = some z → ∃ b o, a = some ⟨b, o, none⟩ ∧ w.cell? ⟨b, o + j, none⟩ = some (.int .u8 (z : Int))
theorem Bytes.grown {w w' : World} {a : Option Addr} {c : Nat} {zs : List Nat} (h : Bytes w a c zs) (hg : w.grownBy w' none) : Bytes w' a c zs :=
  ⟨h.1, fun j z hj => by obtain ⟨b, o, ha, hc⟩ := h.2 j z hj; exact ⟨b, o, ha, hg.cell hc (by simp)⟩⟩

theorem grown_set (w : World) (b o : Nat) (v : Value) : w.grownBy (w.setCell ⟨b, o, none⟩ v) (some b) :=
  ⟨rfl, rfl, rfl, by simp [World.setCell], fun k _ hk => Below.heap_setCell _ _ _ _ (fun e => hk (by rw [e]))⟩
theorem own_ne {w : World} {B b : Nat} {e : TypeId} {size n : Nat} {v : Value} {xs : List Value} (h : w.ownsRow B e size v n xs) (hb : b < B) : v.ownBlock = none ∨ v.ownBlock ≠ some b := by
  cases hv : v.ownBlock with
  | none => exact .inl rfl
  | some k => have := (h.lt k hv).1; exact .inr (by simp; omega)
theorem grown_own {w w1 : World} {r : Option Nat} (h : w.grownBy w1 none) {w2 : World} (h2 : w1.grownBy w2 r) (hr : ∀ k, r = some k → w.heap.size ≤ k) : w.grownBy w2 none :=
  ⟨h2.os.trans h.os, h2.tape.trans h.tape, h2.output.trans h.output, Nat.le_trans h.size h2.size, fun k hk _ => by
    rw [h2.block k (by have := h.size; omega) (fun e => by have := hr k e.symm; omega)]; exact h.block k hk (by simp)⟩

theorem own_shape {w : World} {B n size : Nat} {e : TypeId} {v : Value} {xs : List Value} (h : w.ownsRow B e size v n xs) : ∃ a c, v = .slice a n c := by
  rcases h.2 with ⟨hv, h0⟩ | ⟨g, cap, cur, rfl, _⟩
  · exact ⟨none, 0, by rw [hv, h0]⟩
  · exact ⟨_, _, rfl⟩
/-- The scope that is being made, in block b + 1; the result's cell is block b. -/
structure ScB (w wr : World) (b T : Nat) (l : List Nat) (v : Value) : Prop where
  c0 : wr.cell? ⟨b + 1, 0, none⟩ = some v
  c1 : wr.cell? ⟨b + 1, 1, none⟩ = some (.int .i64 (T : Int))
  fr : wr.frozen? ⟨b + 1, 0, none⟩ = false
  own : wr.ownsRow (b + 2) 3 1 v l.length (numCells l)
  grown : w.grownBy wr none
  size : w.heap.size = b ∧ b + 2 ≤ wr.heap.size
  r0 : (wr.cell? ⟨b, 0, none⟩).isSome = true ∧ wr.frozen? ⟨b, 0, none⟩ = false
  r1 : (wr.cell? ⟨b, 1, none⟩).isSome = true ∧ wr.frozen? ⟨b, 1, none⟩ = false
theorem ScB.start (w : World) (b T : Nat) (hb : w.heap.size = b) : ScB w ((w.alloc (.cells #[.slice none 0 0, .int .i64 0] 30)).alloc (.cells #[.slice none 0 0, .int .i64 (T : Int)] 30)) b T [] (.slice none 0 0) := by
  subst hb
  have g1 := World.grownBy_alloc w (.cells #[.slice none 0 0, .int .i64 0] 30) none
  have g2 := World.grownBy_alloc (w.alloc (.cells #[.slice none 0 0, .int .i64 0] 30)) (.cells #[.slice none 0 0, .int .i64 (T : Int)] 30) none
  exact ⟨by go_simp, by go_simp, by go_simp, World.ownsRow_nil _ _ _ _, g1.trans g2, ⟨rfl, by simp⟩, ⟨by go_simp, by go_simp⟩, ⟨by go_simp, by go_simp⟩⟩
theorem ScB.at_ {w wr w3 : World} {b T : Nat} {l : List Nat} {v : Value} {o : Obj} (h : ScB w wr b T l v) (hg : (wr.alloc o).grownBy w3 v.ownBlock) :
    w3.cell? ⟨b + 1, 0, none⟩ = some v ∧ w3.frozen? ⟨b + 1, 0, none⟩ = false := by
  have hne : some (b + 1) ≠ v.ownBlock := fun e => by
    rcases own_ne h.own (Nat.lt_succ_self (b + 1)) with h1 | h1
    · rw [h1] at e; cases e
    · exact h1 e.symm
  have ha := World.grownBy_alloc wr o none
  have hlt := World.block_lt_of_cell? wr ⟨b + 1, 0, none⟩ h.c0
  have e1 := ha.block (b + 1) hlt (by simp)
  have e2 := hg.block (b + 1) (Nat.lt_of_lt_of_le hlt ha.size) hne
  exact ⟨hg.cell (ha.cell h.c0 (by simp)) hne, (World.frozen?_of_block (a := ⟨b + 1, 0, none⟩) (e2.trans e1)).trans h.fr⟩
theorem ScB.step {w wr w3 : World} {b T z : Nat} {l : List Nat} {v v' : Value} {o : Obj} (h : ScB w wr b T l v) (hown : w3.ownsRow (b + 2) 3 1 v' (l.length + 1) (numCells l ++ [.int .i64 (z : Int)]))
    (hg : (wr.alloc o).grownBy w3 v.ownBlock) : ScB w (w3.setCell ⟨b + 1, 0, none⟩ v') b T (l ++ [z]) v' := by
  have hne : ∀ k, k < b + 2 → some k ≠ v.ownBlock := fun k hk e => by
    rcases own_ne h.own hk with h1 | h1
    · rw [h1] at e; cases e
    · exact h1 e.symm
  have ha := World.grownBy_alloc wr o none
  have hcell : ∀ (k j : Nat) (u : Value), k < b + 2 → wr.cell? ⟨k, j, none⟩ = some u → w3.cell? ⟨k, j, none⟩ = some u := fun k j u hk hc =>
    hg.cell (ha.cell hc (by simp)) (fun e => hne k hk e)
  have hfr : ∀ (k j : Nat), k < b + 2 → (wr.cell? ⟨k, j, none⟩).isSome = true → w3.frozen? ⟨k, j, none⟩ = wr.frozen? ⟨k, j, none⟩ := fun k j hk hc => by
    have hlt := World.block_lt_of_cell? wr ⟨k, j, none⟩ (Option.isSome_iff_exists.1 hc).choose_spec
    have e1 := ha.block k hlt (by simp)
    have e2 := hg.block k (Nat.lt_of_lt_of_le hlt ha.size) (fun e => hne k hk e)
    exact World.frozen?_of_block (a := ⟨k, j, none⟩) (e2.trans e1)
  have hsz : w3.heap.size ≥ b + 2 := by have h1 := h.size.2; have h2 := ha.size; have h3 := hg.size; omega
  have hk : ∀ (k j : Nat), k ≤ b → (wr.cell? ⟨k, j, none⟩).isSome = true → ((w3.setCell ⟨b + 1, 0, none⟩ v').cell? ⟨k, j, none⟩).isSome = true := fun k j hkb hc => by
    obtain ⟨u, hu⟩ := Option.isSome_iff_exists.1 hc
    rw [World.cell?_setCell_other _ _ _ _ (by intro e; injection e with e1; omega), hcell k j u (by omega) hu]; rfl
  have hown' : w3.ownsRow (b + 2) 3 1 v' (l ++ [z]).length (numCells (l ++ [z])) := by
    rw [List.length_append, numCells, List.map_append]; exact hown
  refine ⟨World.cell?_setCell_same' _ _ _ (by rw [hcell (b + 1) 0 _ (by omega) h.c0]; rfl), ?_, ?_, ?_, ?_, ⟨h.size.1, by simpa [World.setCell] using hsz⟩, ⟨hk b 0 (Nat.le_refl _) h.r0.1, ?_⟩, ⟨hk b 1 (Nat.le_refl _) h.r1.1, ?_⟩⟩
  · rw [World.cell?_setCell_other _ _ _ _ (by intro e; injection e with _ e1; omega)]; exact hcell (b + 1) 1 _ (by omega) h.c1
  · rw [World.frozen?_setCell, hfr (b + 1) 0 (by omega) (by rw [h.c0]; rfl)]; exact h.fr
  · exact hown'.kept (grown_set _ _ _ _) (own_ne hown' (by omega))
  · refine grown_own (grown_own (h.grown.trans ha) hg (fun k hk => ?_)) (grown_set _ _ _ _) (fun k hk => ?_)
    · have := (h.own.lt k hk).1; have := h.size.1; omega
    · cases hk; have := h.size.1; omega
  · rw [World.frozen?_setCell, hfr b 0 (by omega) h.r0.1]; exact h.r0.2
  · rw [World.frozen?_setCell, hfr b 1 (by omega) h.r1.1]; exact h.r1.2

theorem results13 (tmps : Array Value) (w : World) (b : Nat) (a : Option Addr) (n c : Nat) (x : Int) (ht : tmps.getD 4 undef = .pointer (some ⟨b, 0, none⟩)) (h0 : w.cell? ⟨b, 0, none⟩ = some (.slice a n c)) (h1 : w.cell? ⟨b, 1, none⟩ = some (.int .i64 x)) :
    (results Tryd.f13 tmps).run Tryd.prog w = .ok (.agg #[.slice a n c, .int .i64 x]) w := by
  have ht' : tmps[4]?.getD undef = .pointer (some ⟨b, 0, none⟩) := by simpa using ht
  simp [results, ht', go_sem, h0, h1, Result.andThen]

set_option maxRecDepth 100000 in
set_option maxHeartbeats 2000000 in
theorem scope_calls (raw : List Nat) (ra : Option Addr) (rc : Nat) (steps : Nat) (w : World) (h : Bytes w ra rc raw) (_hl : (raw.length : Int) ≤ 9223372036854775807) (hs : steps < 256) :
    Calls Tryd.prog 13 #[.slice ra raw.length rc, .int .u8 (steps : Int)] w fun e w' => ∃ a c, e = .returned (.agg #[.slice a (scopeL raw).length c, .int .i64 ((steps % 4 + 1 : Nat) : Int)]) ∧ Nums w' a c (scopeL raw) ∧ w.grownBy w' none := by
  obtain ⟨n, hn⟩ : ∃ n, raw.length = n := ⟨_, rfl⟩
  rw [hn] at _hl ⊢
  have HN := Lib.hid (And.intro hn h); clear hn h
  obtain ⟨i0, hi0, hz0, hz1, hz2⟩ := info_parts info3
  have hst : (steps : Int) % 4 + 1 = ((steps % 4 + 1 : Nat) : Int) := by omega
  obtain ⟨T, hT⟩ : ∃ T, steps % 4 + 1 = T := ⟨_, rfl⟩
  rw [hT] at hst ⊢
  have hT4 : T ≤ 4 := by omega
  clear hT
  go_enter Tryd.func13, Tryd.ntmps13
  go_wp2_with fail
  obtain ⟨b, hb⟩ : ∃ b, w.heap.size = b := ⟨_, rfl⟩
  have HB0 := Lib.hid (ScB.start w b T hb)
  rw [hb]
  clear hb
  go_loopg [6, 7, 8] n (fun g s6 s7 s8 wr => ∃ (i left : Nat) (l : List Nat) (v : Value), s6 = .int .i64 (left : Int) ∧ s7 = .int .i64 (i : Int) ∧ g = n - i ∧ i ≤ n ∧ i ≤ 4 ∧ left ≤ 12 ∧ l.length = i ∧ scopeL raw = l ++ sizes (raw.drop i) (4 - i) left ∧ ScB w wr b T l v)
  case atStart => exact ⟨0, 12, [], _, rfl, rfl, rfl, Nat.zero_le _, by omega, by omega, rfl, rfl, HB0.out⟩
  case round =>
    obtain ⟨i, left, l, v, rfl, rfl, hgi, hi, hi4, hleft, hli, hsc, hbx⟩ := hrel
    obtain ⟨va, vc, rfl, _⟩ := own_nums hbx.own
    rw [hli] at hbx
    have HGI := Lib.hid (And.intro hgi (And.intro hli hsc)); clear hgi hli hsc
    have HBX := Lib.hid hbx
    obtain ⟨c0, c1, fr, _, _, _, ⟨r0, f0⟩, ⟨r1, f1⟩⟩ := hbx
    by_cases hgo : i < n ∧ i < 4 ∧ 0 < left
    · obtain ⟨g1, g2, g3⟩ := hgo
      have d1 : decide (i < n) = true := by simpa using g1
      have d2 : decide (i < 4) = true := by simpa using g2
      have d2' : decide ((i : Int) < 4) = true := by simp; omega
      have d3 : decide (0 < left) = true := by simpa using g3
      have d3' : decide ((0 : Int) < (left : Int)) = true := by simp; omega
      have hinI : (i : Int) < (n : Int) := by omega
      have hln := HN.out.1
      obtain ⟨z, hz⟩ : ∃ z, raw[i]? = some z := ⟨_, List.getElem?_eq_getElem (by omega)⟩
      have hz256 := HN.out.2.1 z (List.mem_of_getElem? hz)
      obtain ⟨bb, oo, rfl, hcell⟩ : ∃ b o, ra = some ⟨b, o, none⟩ ∧ wr.cell? ⟨b, o + i, none⟩ = some (.int .u8 (z : Int)) := (HN.out.2.grown HBX.out.grown).2 i z hz
      have hzm : (z : Int) % 5 + 1 = ((z % 5 + 1 : Nat) : Int) := by omega
      have HS : Hid (sizes (raw.drop i) (4 - i) left = min (z % 5 + 1) left :: sizes (raw.drop (i + 1)) (4 - (i + 1)) (left - min (z % 5 + 1) left)) := Lib.hid (by
        have hlt : i < raw.length := by omega
        rw [List.drop_eq_getElem_cons hlt, show 4 - i = (4 - (i + 1)) + 1 by omega]
        have e : raw[i] = z := by rw [List.getElem?_eq_getElem hlt] at hz; exact Option.some.inj hz
        rw [e, sizes, if_neg (by omega)])
      obtain ⟨y, hy⟩ : ∃ y, z % 5 + 1 = y := ⟨_, rfl⟩
      rw [hy] at hzm HS
      have hy5 : y ≤ 5 := by omega
      have hown0 := HBX.out.own
      rw [HGI.out.2.1] at hown0
      have HO := Lib.hid hown0; clear hown0 hy hz hln
      have hsz0 := HBX.out.size.2
      by_cases hly : left < y
      · have e : min y left = left := by omega
        rw [e] at HS
        have dl : decide (left < y) = true := by simpa using hly
        have dlI : (left : Int) < (y : Int) := by omega
        go_wp2_with (at_builtin; refine wpList_append_own _ rfl _ _ 28 rfl (b + 2) 3 i0 (.int .i64 0) 1 8 Tryd.underlying28 hi0 hz0 hz1 hz2 rfl (by decide) _ _ _ rfl (HO.out.alloc _) ⟨wr.heap.size, 0, none⟩ 1 1 [.int .i64 (left : Int)] rfl rfl (cell_one_new _ _ _) (fun u hu => by simp at hu; subst hu; rfl) (by unfold maxLen; omega) (by omega) (by simp; omega) ?_; intro v' w3 hown' hgrow3 hnil3; obtain ⟨g', cap', rfl⟩ := own_shape hown'; obtain ⟨hs1, hs2⟩ := HBX.out.at_ hgrow3)
        have HB3 := Lib.hid (HBX.out.step (z := left) (by rw [HGI.out.2.1]; exact hown') hgrow3)
        go_wp2
        go_roundg (n - (i + 1))
        case measure => rw [HGI.out.1]; omega
        case rel => exact ⟨i + 1, left - left, l ++ [left], _, by congr 1; omega, by congr 1, rfl, by omega, by omega, by omega, by rw [List.length_append, HGI.out.2.1]; rfl, by rw [HGI.out.2.2, HS.out, List.append_assoc]; rfl, HB3.out⟩
      · have e : min y left = y := by omega
        rw [e] at HS
        have dl : decide (left < y) = false := by simpa using hly
        have dlI : (y : Int) ≤ (left : Int) := by omega
        go_wp2_with (at_builtin; refine wpList_append_own _ rfl _ _ 28 rfl (b + 2) 3 i0 (.int .i64 0) 1 8 Tryd.underlying28 hi0 hz0 hz1 hz2 rfl (by decide) _ _ _ rfl (HO.out.alloc _) ⟨wr.heap.size, 0, none⟩ 1 1 [.int .i64 (y : Int)] rfl rfl (cell_one_new _ _ _) (fun u hu => by simp at hu; subst hu; rfl) (by unfold maxLen; omega) (by omega) (by simp; omega) ?_; intro v' w3 hown' hgrow3 hnil3; obtain ⟨g', cap', rfl⟩ := own_shape hown'; obtain ⟨hs1, hs2⟩ := HBX.out.at_ hgrow3)
        have HB3 := Lib.hid (HBX.out.step (z := y) (by rw [HGI.out.2.1]; exact hown') hgrow3)
        go_wp2
        go_roundg (n - (i + 1))
        case measure => rw [HGI.out.1]; omega
        case rel => exact ⟨i + 1, left - y, l ++ [y], _, by congr 1; omega, by congr 1, rfl, by omega, by omega, by omega, by rw [List.length_append, HGI.out.2.1]; rfl, by rw [HGI.out.2.2, HS.out, List.append_assoc]; rfl, HB3.out⟩
    · have hdr : Hid (scopeL raw = l) := Lib.hid (by
        rw [HGI.out.2.2, sizes_stop, List.append_nil]
        by_cases g1 : i < n
        · by_cases g2 : i < 4
          · exact .inr (.inr (by omega))
          · exact .inr (.inl (by omega))
        · refine .inl ?_
          rw [List.drop_eq_nil_iff, HN.out.1]; omega)
      obtain ⟨u0, hu0⟩ := Option.isSome_iff_exists.1 r0
      obtain ⟨u1, hu1⟩ := Option.isSome_iff_exists.1 r1
      have hcase : decide (i < n) = false ∨ (decide (i < n) = true ∧ decide (i < 4) = false ∧ decide ((i : Int) < 4) = false) ∨ (decide (i < n) = true ∧ decide (i < 4) = true ∧ decide ((i : Int) < 4) = true ∧ decide (0 < left) = false ∧ decide ((0 : Int) < (left : Int)) = false) := by
        by_cases g1 : i < n
        · by_cases g2 : i < 4
          · exact .inr (.inr ⟨by simpa using g1, by simpa using g2, by simp; omega, by simp; omega, by simp; omega⟩)
          · exact .inr (.inl ⟨by simpa using g1, by simpa using g2, by simp; omega⟩)
        · exact .inl (by simpa using g1)
      clear hgo
      rcases hcase with d1 | ⟨d1, d2, d3⟩ | ⟨d1, d2, d3, d4, d5⟩
      all_goals
        go_wp2
        have hb0 : ((wr.setCell ⟨b, 0, none⟩ (.slice va i vc)).cell? ⟨b, 1, none⟩) = some u1 := by
          rw [World.cell?_setCell_other _ _ _ _ (by intro e; injection e with _ e1; omega)]; exact hu1
        have hb1 : ((wr.setCell ⟨b, 0, none⟩ (.slice va i vc)).setCell ⟨b, 1, none⟩ (.int .i64 (T : Int))).cell? ⟨b, 0, none⟩ = some (.slice va i vc) := by
          rw [World.cell?_setCell_other _ _ _ _ (by intro e; injection e with _ e1; omega)]
          exact World.cell?_setCell_same _ _ _ hu0
        have hb2 : ((wr.setCell ⟨b, 0, none⟩ (.slice va i vc)).setCell ⟨b, 1, none⟩ (.int .i64 (T : Int))).cell? ⟨b, 1, none⟩ = some (.int .i64 (T : Int)) := World.cell?_setCell_same _ _ _ hb0
        refine bodyPost_ret (results13 _ _ b va i vc (T : Int) rfl hb1 hb2) rfl ?_
        have hk1 := HBX.out.own.kept (grown_set wr b 0 (.slice va i vc)) (own_ne HBX.out.own (by omega))
        have hk2 := hk1.kept (grown_set _ b 1 (.int .i64 (T : Int))) (own_ne hk1 (by omega))
        obtain ⟨a', c', he, hnm⟩ := own_nums hk2
        injection he with e1 e2 e3
        subst e1; subst e3
        rw [hdr.out]
        refine ⟨va, vc, by rw [HGI.out.2.1], hnm, grown_own (grown_own HBX.out.grown (grown_set _ _ _ _) (fun k hk => ?_)) (grown_set _ _ _ _) (fun k hk => ?_)⟩
        · cases hk; exact Nat.le_of_eq HBX.out.size.1
        · cases hk; exact Nat.le_of_eq HBX.out.size.1
end Go.Proofs.YtagfkapgjdaiaaaDoor

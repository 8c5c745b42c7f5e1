/- Lex answers what the plain function says. -/
import Derived.Test.YtmcokfalkkjgmaaDoorF
import Derived.OwnWalk
namespace Go.Proofs.YtmcokfalkkjgmaaDoor
open Go.RowKit

theorem info31 : (Tryd.prog.info? 31).map (fun i => (i.zero, i.size, i.bytes)) = some (some (.agg #[.int .i64 0, .string ByteArray.empty, .int .i64 0]), 3, 32) := by kernel_rfl

theorem cell_three_new (w : World) (x y z : Value) (t : TypeId) : ∀ j u, [x, y, z][j]? = some u → (w.alloc (.cells #[x, y, z] t)).cell? ((⟨w.heap.size, 0, none⟩ : Addr).add j) = some u := by
  intro j u hj
  match j, hj with
  | 0, hj => simp at hj; subst hj; simp [Addr.add]
  | 1, hj => simp at hj; subst hj; simp [Addr.add]
  | 2, hj => simp at hj; subst hj; simp [Addr.add]

theorem SymsAt.grown {w w' : World} {b : Nat} (h : SymsAt w) (hg : w.grownBy w' (some b)) (hb : b ≠ 0) : SymsAt w' := by
  obtain ⟨t, fr, h⟩ := h
  refine ⟨t, fr, ?_⟩
  rw [hg.block 0 (Array.getElem?_eq_some_iff.1 h).1 (by simp; omega)]; exact h
theorem SymsAt.grown0 {w w' : World} (h : SymsAt w) (hg : w.grownBy w' none) : SymsAt w' := by
  obtain ⟨t, fr, h⟩ := h
  refine ⟨t, fr, ?_⟩
  rw [hg.block 0 (Array.getElem?_eq_some_iff.1 h).1 (by simp)]; exact h
theorem SymsAt.pos {w : World} (h : SymsAt w) : 0 < w.heap.size := by
  obtain ⟨t, fr, h⟩ := h
  exact (Array.getElem?_eq_some_iff.1 h).1

theorem grown_new {w w1 : World} {o : Obj} (h : (w.alloc o).grownBy w1 (some w.heap.size)) : w.grownBy w1 none :=
  ⟨h.os, h.tape, h.output, by have := h.size; simp at this; omega, fun k hk _ => by
    rw [h.block k (by simp; omega) (by simp; omega)]; exact Below.heap_alloc _ _ _ hk⟩
theorem grown_own {w w1 : World} {r : Option Nat} (h : w.grownBy w1 none) {w2 : World} (h2 : w1.grownBy w2 r) (hr : ∀ k, r = some k → w.heap.size ≤ k) : w.grownBy w2 none :=
  ⟨h2.os.trans h.os, h2.tape.trans h.tape, h2.output.trans h.output, Nat.le_trans h.size h2.size, fun k hk _ => by
    rw [h2.block k (by have := h.size; omega) (fun e => by have := hr k e.symm; omega)]; exact h.block k hk (by simp)⟩

theorem own_ne {w : World} {B b : Nat} {e : TypeId} {size n : Nat} {v : Value} {xs : List Value} (h : w.ownsRow B e size v n xs) (hb : b < B) : v.ownBlock = none ∨ v.ownBlock ≠ some b := by
  cases hv : v.ownBlock with
  | none => exact .inl rfl
  | some k => have := (h.lt k hv).1; exact .inr (by simp; omega)
theorem own_mono {w : World} {B b : Nat} {e : TypeId} {size n : Nat} {v : Value} {xs : List Value} (h : w.ownsRow B e size v n xs) (hb : b ≤ B) : w.ownsRow b e size v n xs := by
  refine ⟨h.1, ?_⟩
  rcases h.2 with hn | ⟨g, cap, cur, hv, hbg, rest⟩
  · exact .inl hn
  · exact .inr ⟨g, cap, cur, hv, by omega, rest⟩
theorem Scan.grown {w w' : World} {b k : Nat} {s : ByteArray} {r : Option Nat} (h : Scan w b s k) (hg : w.grownBy w' r) (hr : r ≠ some b) : Scan w' b s k := by
  have hb : w'.heap[b]? = w.heap[b]? := hg.block b (World.block_lt_of_cell? w ⟨b, 0, none⟩ h.c0) (fun e => hr e.symm)
  exact ⟨(World.cell?_of_block (a := ⟨b, 0, none⟩) hb).trans h.c0, (World.cell?_of_block (a := ⟨b, 1, none⟩) hb).trans h.c1, (World.frozen?_of_block (a := ⟨b, 1, none⟩) hb).trans h.fr⟩

set_option maxHeartbeats 1000000 in
theorem lex_calls (s : ByteArray) (w : World) (hs : s.size ≤ maxLen) (hy : SymsAt w) : Calls Tryd.prog 13 #[.string s] w (LexPost w s) := by
  have HS := Lib.hid hs
  have hpos := hy.pos
  by_cases hbig : 20000 < s.size
  · have hbI : (20000 : Int) < (s.size : Int) := by omega
    unfold maxLen at hs
    go_enter Tryd.func13, Tryd.ntmps13
    go_wp2
    go_ret3
    exact ⟨grown_refl _ _, .inl ⟨hbig, rfl⟩⟩
  · have hbI : ¬ (20000 : Int) < (s.size : Int) := by omega
    have hbB : decide ((20000 : Int) < (s.size : Int)) = false := by simp; omega
    unfold maxLen at hs
    obtain ⟨i0, hi, hz0, hz1, hz2⟩ := info_parts info31
    have HY := Lib.hid hy; clear hy
    go_enter Tryd.func13, Tryd.ntmps13
    go_wp2_with fail
    have hne : w.heap.size ≠ 0 := by omega
    have hsc0 : Scan (w.alloc (.cells #[.string s, .int .i64 0] 40)) w.heap.size s 0 := ⟨by go_simp, by go_simp, by go_simp⟩
    refine (skip_calls w.heap.size 0 s _ HS.out (Nat.zero_le _) hsc0).mono ?_
    rintro e w1 ⟨rfl, hsc1, hg1⟩
    have b1 := skipEnd_bd (Nat.zero_le s.size)
    have hg2 : w.grownBy w1 none := grown_new hg1
    have hsz1 : w.heap.size + 1 ≤ w1.heap.size := by have := hg1.size; simp at this; omega
    have HG := Lib.hid hg2; clear hg2 hg1
    go_wp2_with fail
    go_loopg [6] (s.size + 1 - skipEnd s 0) (fun g s6 wr => ∃ (j : Nat) (l : List Tok), g = s.size + 1 - j ∧ j ≤ s.size ∧ Scan wr w.heap.size s j ∧ lex s = pre l (lexFrom s j) ∧ wr.ownsRow (w.heap.size + 1) 31 3 s6 l.length (toks s l) ∧ w.grownBy wr none ∧ w.heap.size + 1 ≤ wr.heap.size ∧ l.length ≤ j)
    case atStart => exact ⟨skipEnd s 0, [], rfl, b1.2, hsc1, by rw [pre_nil]; rfl, World.ownsRow_nil _ _ _ _, HG.out, hsz1, by simp⟩
    case round =>
      clear hsc1 hsc0 hsz1 HG
      obtain ⟨j, l, hgk, hj, hsc, hlex, hown, hgr, hsz, hlj⟩ := hrel
      have HGK := Lib.hid hgk; clear hgk
      have HL := Lib.hid hlex; clear hlex
      have HO := Lib.hid hown; clear hown
      have HG := Lib.hid hgr; clear hgr
      have HC := Lib.hid hsc
      obtain ⟨c0, c1, c2⟩ := hsc
      by_cases hjs : j < s.size
      · have hjI : decide ((j : Int) < (s.size : Int)) = true := by simp; omega
        have hte := tokEnd_le hjs
        go_wp2_with fail
        refine (token_calls w.heap.size j s _ HS.out hjs HC.out hne (HY.out.grown0 HG.out)).mono ?_
        rintro e w2 ⟨rfl, hsc2, hg2⟩
        have HO2 := Lib.hid (HO.out.kept hg2 (own_ne HO.out (Nat.lt_succ_self _)))
        have HG2 := Lib.hid (grown_own HG.out hg2 (by simp))
        have hsz2 : w.heap.size + 1 ≤ w2.heap.size := Nat.le_trans hsz hg2.size
        clear hg2 c0 c1 c2 HC HO HG
        have hm := tokEnd_gt hjs
        obtain ⟨m, hem⟩ : ∃ m, tokEnd s j = m := ⟨_, rfl⟩
        obtain ⟨kd, hkd⟩ : ∃ kd, tokKind s j = kd := ⟨_, rfl⟩
        rw [hkd]
        rw [hem] at hsc2 hm hte
        have HE := Lib.hid hem; clear hem
        have HK := Lib.hid hkd; clear hkd
        have HC := Lib.hid hsc2
        obtain ⟨c0, c1, c2⟩ := hsc2
        cases ho : tokOk s j
        · have HOK := Lib.hid ho; clear ho hm
          go_wp2
          go_ret3
          refine ⟨HG2.out, .inr ⟨by omega, .inl ⟨j, ?_, rfl⟩⟩⟩
          rw [HL.out, lexFrom_err hjs HOK.out]; rfl
        · have hm := hm ho
          have HOK := Lib.hid ho; clear ho
          have hmI : (m : Int) ≤ (s.size : Int) := by omega
          have hjm : (j : Int) ≤ (m : Int) := by omega
          go_wp2_with (at_builtin; refine wpList_append_own _ rfl _ _ 24 rfl (w.heap.size + 1) 31 i0 (.agg #[.int .i64 0, .string ByteArray.empty, .int .i64 0]) 3 32 Tryd.underlying24 hi hz0 hz1 hz2 rfl (by decide) _ _ _ rfl (HO2.out.alloc _) ⟨w2.heap.size, 0, none⟩ 1 1 [.int .i64 (kd : Nat), .string (s.extract j m), .int .i64 (j : Nat)] rfl rfl (cell_three_new _ _ _ _ _) (fun x hx => by simp at hx; rcases hx with rfl | rfl | rfl <;> rfl) (by unfold maxLen; omega) (by omega) (by simp; omega) ?_; intro v' w3 hown' hgrow3 hnil3)
          have hkb : u6.ownBlock ≠ some w.heap.size := by
            rcases own_ne HO2.out (Nat.lt_succ_self w.heap.size) with h | h
            · rw [h]; simp
            · exact h
          have hsc3 : Scan w3 w.heap.size s m := (HC.out.grown (World.grownBy_alloc _ _ none) (by simp)).grown hgrow3 hkb
          have b2 := skipEnd_bd (s := s) (k := m) (by omega)
          have hsz3 : w.heap.size + 1 ≤ w3.heap.size := by have := hgrow3.size; simp at this; omega
          have HG3 := Lib.hid (grown_own (HG2.out.trans (World.grownBy_alloc _ _ none)) hgrow3 (fun k hk => by have := ((HO2.out.lt k hk).1); omega))
          have HO3 := Lib.hid hown'
          clear hown' hgrow3 hnil3 c0 c1 c2
          refine (skip_calls w.heap.size m s _ HS.out (by omega) hsc3).mono ?_
          rintro e w4 ⟨rfl, hsc4, hg4⟩
          have HO4 := Lib.hid (HO3.out.kept hg4 (own_ne HO3.out (Nat.lt_succ_self _)))
          have HG4 := Lib.hid (grown_own HG3.out hg4 (by simp))
          have hsz4 : w.heap.size + 1 ≤ w4.heap.size := Nat.le_trans hsz3 hg4.size
          clear hg4
          have HC4 := Lib.hid hsc4; clear hsc4
          go_wp2
          go_roundg (s.size + 1 - skipEnd s m)
          case measure => rw [HGK.out]; omega
          case rel =>
            refine ⟨skipEnd s m, l ++ [tokAt s j], rfl, b2.2, HC4.out, ?_, ?_, HG4.out, hsz4, by simp; omega⟩
            · rw [HL.out, lexFrom_tok hjs HOK.out, pre_pre, HE.out]
            · have h := HO4.out
              have e : tokAt s j = ⟨kd, j, m⟩ := by rw [tokAt, HE.out, HK.out]
              rw [e, toks_snoc, List.length_append]
              exact h
      · have hjI : decide ((j : Int) < (s.size : Int)) = false := by simp; omega
        go_wp2
        go_ret3
        refine ⟨HG.out, .inr ⟨by omega, .inr ⟨l, _, ?_, rfl, ?_⟩⟩⟩
        · rw [HL.out, lexFrom_end hjs]; simp [pre]
        · exact own_mono HO.out (Nat.le_succ _)
end Go.Proofs.YtmcokfalkkjgmaaDoor

/- Texts of the proof: Q1 Q0 Q2 Q3. -/
import Derived.Test.YtihaheinkpmnnaaGreatCA01
import Derived.BigRegion
import Derived.Laws.OwnMore
import Derived.OneCell
import Derived.Deep.LoopGhost
import Derived.Deep.DeepCutAuto
namespace Go.Proofs.YtihaheinkpmnnaaGreat
set_option maxRecDepth 200000
open Go.RowKit
theorem len_calls (a : Option Addr) (n c : Nat) (w : World) : Calls Tryz.prog 149 #[.slice a n c] w fun e w' => e = .returned (.int .i64 (n : Int)) ∧ w' = w := by
  go_enter Tryz.func149, Tryz.ntmps149
  go_wp2
  go_ret
  exact ⟨rfl, rfl⟩
/-- A row of integers of one's own. -/
abbrev IRow (B : Nat) (w : World) (a : Option Addr) (c : Nat) (l : List Int) : Prop := w.ownsRow B 3 1 (.slice a l.length c) l.length (intCells l)
theorem irow_head {B : Nat} {w : World} {a : Option Addr} {c : Nat} {l : List Int} (h : IRow B w a c l) (hl : 0 < l.length) : ∃ g, a = some ⟨g, 0, none⟩ ∧ B ≤ g ∧ g < w.heap.size ∧ l.length ≤ c := by
  rcases h.2 with ⟨_, h0⟩ | ⟨g, cap, cur, e, hb, hg, hnc, _⟩
  · omega
  · injection e with e1 _ e3
    subst e1 e3
    exact ⟨g, rfl, hb, (Array.getElem?_eq_some_iff.1 hg).1, hnc⟩
theorem irow_cell {B g : Nat} {w : World} {c : Nat} {l : List Int} (h : IRow B w (some ⟨g, 0, none⟩) c l) {i : Nat} (hi : i < l.length) : w.cell? ⟨g, i, none⟩ = some (.int .i64 (at_ l i)) := by
  have hc := @World.ownsRow.cells w B 3 1 (.slice (some ⟨g, 0, none⟩) l.length c) l.length _ h (g := g) rfl i (.int .i64 (at_ l i)) (by rw [intCells, List.getElem?_map, at_some hi]; rfl)
  rwa [add_at] at hc
theorem irow_set {B g : Nat} {w : World} {c : Nat} {l : List Int} (h : IRow B w (some ⟨g, 0, none⟩) c l) (i : Nat) (z : Int) : IRow B (w.setCell ⟨g, i, none⟩ (.int .i64 z)) (some ⟨g, 0, none⟩) c (l.set i z) := by
  have := (World.ownsRow.stored h i (.int .i64 z)).1
  unfold IRow
  rw [List.length_set, intCells, List.map_set]
  exact this
theorem less_calls (B : Nat) (a : Option Addr) (c : Nat) (l : List Int) (w : World) (h : IRow B w a c l) (i j n : Nat) (hn : l.length = n) (hi : i < n) (hj : j < n) (hm : n ≤ 1000000) :
    Calls Tryz.prog 150 #[.slice a n c, .int .i64 (i : Int), .int .i64 (j : Int)] w fun e w' => e = .returned (.bool (decide (at_ l i < at_ l j))) ∧ ∃ q, w' = w.drewN q := by
  obtain ⟨g, rfl, _, _, hc⟩ := irow_head h (by omega)
  have c1 := irow_cell h (i := i) (by omega)
  have c2 := irow_cell h (i := j) (by omega)
  obtain ⟨x, hx⟩ : ∃ x, at_ l i = x := ⟨_, rfl⟩
  obtain ⟨y, hy⟩ : ∃ y, at_ l j = y := ⟨_, rfl⟩
  rw [hx] at c1 ⊢
  rw [hy] at c2 ⊢
  clear hx hy h hn
  have hi1 : (i : Int) < (n : Int) := by omega
  have hj1 : (j : Int) < (n : Int) := by omega
  go_enter Tryz.func150, Tryz.ntmps150
  go_wp2_with fail
  go_quiet (fail)
  go_wp2
  go_ret
  exact ⟨rfl, _, rfl⟩
set_option maxHeartbeats 4000000 in
theorem swap_calls (B g c : Nat) (l : List Int) (w : World) (h : IRow B w (some ⟨g, 0, none⟩) c l) (i j n : Nat) (hn : l.length = n) (hi : i < n) (hj : j < n) (_hm : n ≤ 1000000) (hij : i ≠ j) :
    Calls Tryz.prog 151 #[.slice (some ⟨g, 0, none⟩) n c, .int .i64 (i : Int), .int .i64 (j : Int)] w fun e w' => e = .returned (.tuple #[]) ∧ IRow B w' (some ⟨g, 0, none⟩) c (swp l i j) ∧ w.grownBy w' (some g) := by
  have c1 := irow_cell h (i := i) (by omega)
  have c2 := irow_cell h (i := j) (by omega)
  have f1 := World.ownsRow.frozenAt h i
  have f2 := World.ownsRow.frozenAt h j
  obtain ⟨x, hx⟩ : ∃ x, at_ l i = x := ⟨_, rfl⟩
  obtain ⟨y, hy⟩ : ∃ y, at_ l j = y := ⟨_, rfl⟩
  have HX := Lib.hid (And.intro hx (And.intro hy h))
  rw [hx] at c1
  rw [hy] at c2
  clear hx hy h hn
  have hi1 : (i : Int) < (n : Int) := by omega
  have hj1 : (j : Int) < (n : Int) := by omega
  go_enter Tryz.func151, Tryz.ntmps151
  go_region
  go_end0
  have h1 := irow_set (irow_set HX.out.2.2 i y) j x
  refine ⟨rfl, own_grown (show IRow B _ _ _ (swp l i j) by unfold swp; rw [HX.out.1, HX.out.2.1]; exact h1) (grown_drew _ _), ?_⟩
  exact ((grown_set _ _ _ _).trans (grown_set _ _ _ _)).trans (grown_drew _ _)
set_option maxHeartbeats 4000000 in
theorem swap0_calls (B g c : Nat) (l : List Int) (w : World) (h : IRow B w (some ⟨g, 0, none⟩) c l) (hn : l.length = 1) :
    Calls Tryz.prog 151 #[.slice (some ⟨g, 0, none⟩) 1 c, .int .i64 0, .int .i64 0] w fun e w' => e = .returned (.tuple #[]) ∧ IRow B w' (some ⟨g, 0, none⟩) c l ∧ w.grownBy w' (some g) := by
  have c1 := irow_cell h (i := 0) (by omega)
  have f1 := World.ownsRow.frozenAt h 0
  obtain ⟨x, hx⟩ : ∃ x, at_ l 0 = x := ⟨_, rfl⟩
  have HX := Lib.hid (And.intro hx (And.intro h hn))
  rw [hx] at c1
  clear hx h hn
  go_enter Tryz.func151, Tryz.ntmps151
  go_region
  go_end0
  have h1 := irow_set (irow_set HX.out.2.1 0 x) 0 x
  have e : (l.set 0 x).set 0 x = l := by
    obtain ⟨a, rfl⟩ := List.length_eq_one_iff.1 HX.out.2.2
    have := HX.out.1
    simp only [at_, List.getD_cons_zero] at this
    simp [this]
  rw [e] at h1
  refine ⟨rfl, own_grown h1 (grown_drew _ _), ?_⟩
  exact ((grown_set _ _ _ _).trans (grown_set _ _ _ _)).trans (grown_drew _ _)
/-- The last is taken. -/
theorem pop_calls (p o g n c : Nat) (x : Int) (w : World) (h0 : w.cell? ⟨p, o, none⟩ = some (.slice (some ⟨g, 0, none⟩) (n + 1) c)) (f0 : w.frozen? ⟨p, o, none⟩ = false) (hc : n + 1 ≤ c) (h1 : w.cell? ⟨g, n, none⟩ = some (.int .i64 x)) (hm : n ≤ 1000000) :
    Calls Tryz.prog 152 #[.pointer (some ⟨p, o, none⟩)] w fun e w' => e = .returned (.iface 3 (.int .i64 x)) ∧ w' = w.setCell ⟨p, o, none⟩ (.slice (some ⟨g, 0, none⟩) n c) := by
  have e1 : IntKind.i64.wrap ((n : Int) + 1 - 1) = (n : Int) := by rw [IntWalk.i64_in _ (by omega)]; omega
  go_enter Tryz.func152, Tryz.ntmps152
  go_wp2
  go_ret
  exact ⟨rfl, rfl⟩
theorem assert_int (x : Int) (w : World) : (Instr.typeAssert (.iface 3 (.int .i64 x)) 20 3 true).run Tryz.prog w = .ok (.tuple #[.int .i64 x, .bool true]) w := by kernel_rfl
theorem push_calls (B p o : Nat) (a : Option Addr) (c : Nat) (l : List Int) (x : Int) (w : World) (h0 : w.cell? ⟨p, o, none⟩ = some (.slice a l.length c)) (f0 : w.frozen? ⟨p, o, none⟩ = false) (hl : IRow B w a c l) (hB : B ≤ w.heap.size) (hm : l.length ≤ 1000000) (hpa : (Value.slice a l.length c).ownBlock ≠ some p) :
    Calls Tryz.prog 153 #[.pointer (some ⟨p, o, none⟩), .iface 3 (.int .i64 x)] w fun e w' => e = .returned (.tuple #[]) ∧ ∃ a' c' w1, IRow B w1 a' c' (l ++ [x]) ∧ w' = w1.setCell ⟨p, o, none⟩ (.slice a' (l.length + 1) c') ∧ w.grownBy w1 (Value.slice a l.length c).ownBlock ∧ ((Value.slice a' (l.length + 1) c').ownBlock = (Value.slice a l.length c).ownBlock ∨ ∃ b, (Value.slice a' (l.length + 1) c').ownBlock = some b ∧ w.heap.size ≤ b) := by
  obtain ⟨n, hn⟩ : ∃ n, l.length = n := ⟨_, rfl⟩
  have HL := Lib.hid (And.intro hl (And.intro hB hpa))
  obtain ⟨i0, hi0, hz0, hz1, hz2⟩ := info_parts info3
  have hta := assert_int x
  have hlt := lies_lt h0
  have HO := Lib.hid (show w.ownsRow B 3 1 (.slice a n c) n (intCells l) from by have := hl; unfold IRow at this; rw [hn] at this; exact this)
  have hf2 : (w.alloc (.cells #[.int .i64 x] 3)).frozen? ⟨p, o, none⟩ = false := by go_simp
  have HN := Lib.hid hn
  rw [hn] at h0 hm hpa ⊢
  clear hl hB hn
  go_enter Tryz.func153, Tryz.ntmps153
  go_wp2_with (at_builtin; refine wpList_append_own_at _ rfl _ _ 111 rfl B 3 i0 (.int .i64 0) 1 8 Tryz.underlying111 hi0 hz0 hz1 hz2 rfl (by decide) _ n (intCells l) rfl (HO.out.alloc _) ⟨w.heap.size, 0, none⟩ 1 1 [.int .i64 x] rfl rfl (cell_one_new _ _ _) (fun u hu => by simp at hu; subst hu; rfl) (by unfold maxLen; omega) (by omega) (by have := HL.out.2.1; simp; omega) ?_)
  intro v' w7 hown' hgrow7 _ hat7
  obtain ⟨a', c', rfl⟩ := own_shape hown'
  have hg8 : w.grownBy w7 (Value.slice a n c).ownBlock := (World.grownBy_alloc w _ _).trans hgrow7
  have c7 := hg8.cell h0 (fun e => hpa e.symm)
  have f7 : w7.frozen? ⟨p, o, none⟩ = false := (World.frozen?_of_block (a := ⟨p, o, none⟩) (hg8.block p hlt (fun e => hpa e.symm))).trans f0
  have HW := Lib.hid (And.intro hown' (And.intro hg8 hat7))
  clear hown' hgrow7 hat7 hg8 hta
  go_wp2_with fail
  go_end0
  refine ⟨rfl, a', c', w7, ?_, rfl, HW.out.2.1, ?_⟩
  · have := HW.out.1
    unfold IRow
    rw [List.length_append, HN.out, intCells, List.map_append]
    exact this
  · rcases HW.out.2.2 with h | h
    · exact .inl h
    · exact .inr ⟨_, h, by simp⟩
end Go.Proofs.YtihaheinkpmnnaaGreat

namespace Go.Proofs.YtihaheinkpmnnaaGreat
set_option maxRecDepth 200000
open Go.RowKit
theorem meth_less0 (a : Addr) (w : World) : (method 271 143 (.pointer (some a)) "Less").run Tryz.prog w = ((loadVar 111 a) >>= fun v => (pure (150, v) : Sem (FuncId × Value))).run Tryz.prog w := by kernel_rfl
theorem meth_swap0 (a : Addr) (w : World) : (method 271 143 (.pointer (some a)) "Swap").run Tryz.prog w = ((loadVar 111 a) >>= fun v => (pure (151, v) : Sem (FuncId × Value))).run Tryz.prog w := by kernel_rfl
theorem meth_len0 (a : Addr) (w : World) : (method 271 143 (.pointer (some a)) "Len").run Tryz.prog w = ((loadVar 111 a) >>= fun v => (pure (149, v) : Sem (FuncId × Value))).run Tryz.prog w := by kernel_rfl
theorem meth_push (a : Addr) (w : World) : (method 271 143 (.pointer (some a)) "Push").run Tryz.prog w = .ok (153, .pointer (some a)) w := by kernel_rfl
theorem meth_pop (a : Addr) (w : World) : (method 271 143 (.pointer (some a)) "Pop").run Tryz.prog w = .ok (152, .pointer (some a)) w := by kernel_rfl
theorem meth_less {a : Addr} {w : World} {x : Option Addr} {n c : Nat} (h : w.cell? a = some (.slice x n c)) : (method 271 143 (.pointer (some a)) "Less").run Tryz.prog w = .ok (150, .slice x n c) w := by
  rw [meth_less0]; go_simp
theorem meth_swap {a : Addr} {w : World} {x : Option Addr} {n c : Nat} (h : w.cell? a = some (.slice x n c)) : (method 271 143 (.pointer (some a)) "Swap").run Tryz.prog w = .ok (151, .slice x n c) w := by
  rw [meth_swap0]; go_simp
theorem meth_len {a : Addr} {w : World} {x : Option Addr} {n c : Nat} (h : w.cell? a = some (.slice x n c)) : (method 271 143 (.pointer (some a)) "Len").run Tryz.prog w = .ok (149, .slice x n c) w := by
  rw [meth_len0]; go_simp
end Go.Proofs.YtihaheinkpmnnaaGreat

namespace Go.Proofs.YtihaheinkpmnnaaGreat
set_option maxRecDepth 200000
open Go.RowKit
set_option maxHeartbeats 4000000 in
theorem up_calls (B p o g n c : Nat) (l : List Int) (j : Nat) (w : World) (hn : l.length = n) (h0 : w.cell? ⟨p, o, none⟩ = some (.slice (some ⟨g, 0, none⟩) n c)) (h : IRow B w (some ⟨g, 0, none⟩) c l) (hpg : p ≠ g) (hm : n ≤ 1000000) (hj : j < n) (hu : UpI l j) :
    Calls Tryz.prog 129 #[.iface 143 (.pointer (some ⟨p, o, none⟩)), .int .i64 (j : Int)] w fun e w' => e = .returned (.tuple #[]) ∧ ∃ l', l'.Perm l ∧ Heap n l' ∧ IRow B w' (some ⟨g, 0, none⟩) c l' ∧ w.grownBy w' (some g) := by
  have HH := Lib.hid (And.intro hn (And.intro h (And.intro hu hpg)))
  clear hn h hu hpg
  go_enter Tryz.func129, Tryz.ntmps129
  go_wp2_with fail
  go_loopg [1, 4] j (fun gk s1 _s4 wr => ∃ (i : Nat) (l' : List Int), s1 = .int .i64 (i : Int) ∧ gk = i ∧ i < n ∧ l'.Perm l ∧ UpI l' i ∧ wr.cell? ⟨p, o, none⟩ = some (.slice (some ⟨g, 0, none⟩) n c) ∧ IRow B wr (some ⟨g, 0, none⟩) c l' ∧ w.grownBy wr (some g))
  case atStart => exact ⟨j, l, rfl, rfl, hj, .refl _, HH.out.2.2.1, h0, HH.out.2.1, grown_refl _ _⟩
  case round =>
    obtain ⟨i, l', rfl, hgk, hin, hperm, hui, q0, hrow, hgr⟩ := hrel
    have hn' : l'.length = n := hperm.length_eq.trans HH.out.1
    have HI := Lib.hid (And.intro hgk (And.intro hperm (And.intro hui (And.intro hrow (And.intro hgr hn')))))
    clear hgk hperm hui hrow hgr hn' h0
    rcases Nat.eq_zero_or_pos i with hi0 | hi0
    · subst hi0
      have k1 : IntKind.i64.wrap (((0 : Nat) : Int) - 1) = -1 := rfl
      have k2 : (-1 : Int).tdiv 2 = 0 := rfl
      go_wp2
      go_end0
      refine ⟨rfl, l', HI.out.2.1, ?_, HI.out.2.2.2.1, HI.out.2.2.2.2.1⟩
      have := up_stop HI.out.2.2.1 (.inl rfl)
      rwa [HI.out.2.2.2.2.2] at this
    · obtain ⟨k, hk⟩ : ∃ k, (i - 1) / 2 = k := ⟨_, rfl⟩
      have hki : k < i := by omega
      have HK := Lib.hid hk
      have k1 : IntKind.i64.wrap ((i : Int) - 1) = (i : Int) - 1 := IntWalk.i64_in _ (by omega)
      have k2 : ((i : Int) - 1).tdiv 2 = (k : Int) := by rw [Int.tdiv_eq_ediv_of_nonneg (by omega)]; omega
      have k3 : IntKind.i64.wrap (k : Int) = (k : Int) := IntWalk.i64_in _ (by omega)
      have k4 : (k == i) = false := beq_false_of_ne (by omega)
      have k5 : ((k : Int) == (i : Int)) = false := by rw [beq_eq_false_iff_ne]; omega
      clear hk
      have m1 := meth_less q0
      obtain ⟨d, hd⟩ : ∃ d, decide (at_ l' i < at_ l' k) = d := ⟨_, rfl⟩
      have HD := Lib.hid hd
      have HC := Lib.hid (show Calls Tryz.prog 150 #[.slice (some ⟨g, 0, none⟩) n c, .int .i64 (i : Int), .int .i64 (k : Int)] wr (fun e w' => e = .returned (.bool d) ∧ ∃ q, w' = wr.drewN q) from by
        rw [← hd]; exact less_calls B (some ⟨g, 0, none⟩) c l' wr HI.out.2.2.2.1 i k n HI.out.2.2.2.2.2 hin (by omega) hm)
      clear hd
      go_wp2_with fail
      refine HC.out.mono ?_
      rintro e w1 ⟨rfl, q, rfl⟩
      clear m1 HC
      have q1 : (wr.drewN q).cell? ⟨p, o, none⟩ = some (.slice (some ⟨g, 0, none⟩) n c) := q0
      cases d with
      | false =>
        go_wp2_with fail
        go_end0
        refine ⟨rfl, l', HI.out.2.1, ?_, own_grown HI.out.2.2.2.1 (grown_drewN _ _ _), HI.out.2.2.2.2.1.trans (grown_drewN _ _ _)⟩
        have := up_stop HI.out.2.2.1 (.inr (by have := of_decide_eq_false HD.out; rw [HK.out]; omega))
        rwa [HI.out.2.2.2.2.2] at this
      | true =>
        have hlt := of_decide_eq_true HD.out
        have HU := Lib.hid (up_step HI.out.2.2.1 (by rw [HI.out.2.2.2.2.2]; exact hin) hi0 HK.out hlt)
        have hps := swp_perm (l := l') (i := k) (j := i) (by rw [HI.out.2.2.2.2.2]; omega) (by rw [HI.out.2.2.2.2.2]; exact hin)
        have HP := Lib.hid (hps.trans HI.out.2.1)
        clear hps hlt
        have m2 := meth_swap q1
        have HC := Lib.hid (swap_calls B g c l' (wr.drewN q) (own_grown HI.out.2.2.2.1 (grown_drewN _ _ _)) k i n HI.out.2.2.2.2.2 (by omega) hin hm (by omega))
        go_wp2_with fail
        refine HC.out.mono ?_
        rintro e w1 ⟨rfl, hr1, hg1⟩
        have q2 := hg1.cell q1 (fun e => HH.out.2.2.2 (Option.some.inj e))
        have HR := Lib.hid (And.intro hr1 (And.intro hg1 q2))
        clear m2 HC hr1 hg1 q1 q0
        go_wp2_with fail
        go_roundg k
        case measure => rw [HI.out.1]; exact hki
        case rel => exact ⟨k, swp l' k i, rfl, rfl, by omega, HP.out, HU.out, HR.out.2.2, HR.out.1, (HI.out.2.2.2.2.1.trans (grown_drewN _ _ _)).trans HR.out.2.1⟩
end Go.Proofs.YtihaheinkpmnnaaGreat

namespace Go.Proofs.YtihaheinkpmnnaaGreat
set_option maxRecDepth 200000
open Go.RowKit
set_option maxHeartbeats 8000000 in
set_option maxRecDepth 100000 in
theorem down_calls (B p o g n N c : Nat) (l : List Int) (w : World) (hN : l.length = N) (hn : n ≤ N) (h0 : w.cell? ⟨p, o, none⟩ = some (.slice (some ⟨g, 0, none⟩) N c)) (h : IRow B w (some ⟨g, 0, none⟩) c l) (hpg : p ≠ g) (hm : N ≤ 1000000) (hu : DnI n l 0) :
    Calls Tryz.prog 130 #[.iface 143 (.pointer (some ⟨p, o, none⟩)), .int .i64 0, .int .i64 (n : Int)] w fun e w' => (∃ b, e = .returned (.bool b)) ∧ ∃ l', l'.Perm l ∧ Heap n l' ∧ (∀ k, n ≤ k → at_ l' k = at_ l k) ∧ IRow B w' (some ⟨g, 0, none⟩) c l' ∧ w.grownBy w' (some g) := by
  have HH := Lib.hid (And.intro hN (And.intro h (And.intro hu hpg)))
  clear hN h hu hpg
  go_enter Tryz.func130, Tryz.ntmps130
  go_wp2_with fail
  go_loopg [7, 8, 9, 10] N (fun gk s7 _s8 _s9 _s10 wr => ∃ (i : Nat) (l' : List Int), s7 = .int .i64 (i : Int) ∧ gk = N - i ∧ i ≤ N ∧ l'.Perm l ∧ (∀ k, n ≤ k → at_ l' k = at_ l k) ∧ DnI n l' i ∧ wr.cell? ⟨p, o, none⟩ = some (.slice (some ⟨g, 0, none⟩) N c) ∧ IRow B wr (some ⟨g, 0, none⟩) c l' ∧ w.grownBy wr (some g))
  case atStart => exact ⟨0, l, rfl, rfl, Nat.zero_le _, .refl _, fun _ _ => rfl, HH.out.2.2.1, h0, HH.out.2.1, grown_refl _ _⟩
  case round =>
    obtain ⟨i, l', rfl, hgk, hin, hperm, hrest, hui, q0, hrow, hgr⟩ := hrel
    have hn' : l'.length = N := hperm.length_eq.trans HH.out.1
    have HI := Lib.hid (And.intro hgk (And.intro hperm (And.intro hui (And.intro hrow (And.intro hgr (And.intro hn' hrest))))))
    clear hgk hperm hui hrow hgr hn' h0 hrest
    have k1 : IntKind.i64.wrap (2 * (i : Int)) = 2 * (i : Int) := IntWalk.i64_in _ (by omega)
    obtain ⟨a, ha⟩ : ∃ a, 2 * i + 1 = a := ⟨_, rfl⟩
    have k2 : IntKind.i64.wrap (2 * (i : Int) + 1) = (a : Int) := by rw [IntWalk.i64_in _ (by omega)]; omega
    have HA := Lib.hid ha
    clear ha
    by_cases han : a < n
    · have k3 : decide ((n : Int) ≤ (a : Int)) = false := decide_eq_false (by omega)
      have k4 : decide ((a : Int) < 0) = false := decide_eq_false (by omega)
      have k5 : decide (n ≤ a) = false := decide_eq_false (by omega)
      obtain ⟨b, hb⟩ : ∃ b, a + 1 = b := ⟨_, rfl⟩
      have k6 : IntKind.i64.wrap ((a : Int) + 1) = (b : Int) := by rw [IntWalk.i64_in _ (by omega)]; omega
      have HB := Lib.hid hb
      clear hb
      have m1 := meth_less q0
      have HLT : Hid (i < N ∧ a < N ∧ a = 2 * i + 1 ∧ b = 2 * i + 2) := Lib.hid ⟨by have := HA.out; omega, by omega, HA.out.symm, by have := HA.out; have := HB.out; omega⟩
      by_cases hbn : b < n
      · have k7 : decide ((b : Int) < (n : Int)) = true := decide_eq_true (by omega)
        have k8 : decide (b < n) = true := decide_eq_true hbn
        obtain ⟨e1, he1⟩ : ∃ d, decide (at_ l' b < at_ l' a) = d := ⟨_, rfl⟩
        have HE := Lib.hid he1
        have HC1 : Hid (Calls Tryz.prog 150 #[.slice (some ⟨g, 0, none⟩) N c, .int .i64 (b : Int), .int .i64 (a : Int)] wr (fun e w' => e = .returned (.bool e1) ∧ ∃ q, w' = wr.drewN q)) := Lib.hid (by
          rw [← he1]; exact less_calls B (some ⟨g, 0, none⟩) c l' wr HI.out.2.2.2.1 b a N HI.out.2.2.2.2.2.1 (by omega) (by omega) hm)
        clear he1
        go_wp2_with fail
        refine HC1.out.mono ?_
        rintro e w1 ⟨rfl, q0', rfl⟩
        clear m1 HC1 k1 k2 k6
        cases e1 with
        | true =>
          have q1 : (wr.drewN q0').cell? ⟨p, o, none⟩ = some (.slice (some ⟨g, 0, none⟩) N c) := q0
          have m2 := meth_less q1
          obtain ⟨d, hd⟩ : ∃ d, decide (at_ l' b < at_ l' i) = d := ⟨_, rfl⟩
          have HD := Lib.hid hd
          have HC : Hid (Calls Tryz.prog 150 #[.slice (some ⟨g, 0, none⟩) N c, .int .i64 (b : Int), .int .i64 (i : Int)] (wr.drewN q0') (fun e w' => e = .returned (.bool d) ∧ ∃ q, w' = wr.drewN q)) := Lib.hid (by
            rw [← hd]; exact (less_calls B (some ⟨g, 0, none⟩) c l' (wr.drewN q0') (own_grown HI.out.2.2.2.1 (grown_drewN _ _ _)) b i N HI.out.2.2.2.2.2.1 (by omega) HLT.out.1 hm).mono (fun _ _ h => ⟨h.1, by obtain ⟨m, hm⟩ := h.2; exact ⟨_, by rw [hm, World.drewN_drewN]⟩⟩))
          clear hd
          go_wp2_with fail
          refine HC.out.mono ?_
          rintro e w1 ⟨rfl, q2, rfl⟩
          clear m2 HC q1
          cases d with
          | false =>
            go_wp2_with fail
            go_ret
            refine ⟨⟨_, rfl⟩, l', HI.out.2.1, ?_, HI.out.2.2.2.2.2.2, own_grown HI.out.2.2.2.1 (grown_drewN _ _ _), HI.out.2.2.2.2.1.trans (grown_drewN _ _ _)⟩
            have hnl := of_decide_eq_false HD.out
            have h1 : at_ l' b ≤ at_ l' (2 * i + 1) := by have := of_decide_eq_true HE.out; have h := HLT.out; rw [h.2.2.1] at this; omega
            have h2 : 2 * i + 2 < n → at_ l' b ≤ at_ l' (2 * i + 2) := fun _ => by have h := HLT.out; rw [← h.2.2.2]; omega
            exact dn_stop HI.out.2.2.1 (fun _ => by omega) (fun h => by have := h2 h; omega)
          | true =>
            have hlt := of_decide_eq_true HD.out
            have h1 : at_ l' b ≤ at_ l' (2 * i + 1) := by have := of_decide_eq_true HE.out; have h := HLT.out; rw [h.2.2.1] at this; omega
            have h2 : 2 * i + 2 < n → at_ l' b ≤ at_ l' (2 * i + 2) := fun _ => by have h := HLT.out; rw [← h.2.2.2]; omega
            have HU := Lib.hid (dn_step (j := b) HI.out.2.2.1 (by rw [HI.out.2.2.2.2.2.1]; exact hn) (by omega) (by have := HLT.out; omega) h1 h2 hlt)
            have HP := Lib.hid ((swp_perm (l := l') (i := i) (j := b) (by rw [HI.out.2.2.2.2.2.1]; exact HLT.out.1) (by rw [HI.out.2.2.2.2.2.1]; omega)).trans HI.out.2.1)
            have HQ : Hid (∀ k, n ≤ k → at_ (swp l' i b) k = at_ l k) := Lib.hid (fun k hk => by
              rw [at_swp (by rw [HI.out.2.2.2.2.2.1]; exact HLT.out.1) (by rw [HI.out.2.2.2.2.2.1]; omega), if_neg (by omega), if_neg (by have := HLT.out; omega)]
              exact HI.out.2.2.2.2.2.2 k hk)
            clear hlt h1 h2
            have q1 : ((wr.drewN q2)).cell? ⟨p, o, none⟩ = some (.slice (some ⟨g, 0, none⟩) N c) := q0
            have m2 := meth_swap q1
            have HC := Lib.hid (swap_calls B g c l' (wr.drewN q2) (own_grown HI.out.2.2.2.1 (grown_drewN _ _ _)) i b N HI.out.2.2.2.2.2.1 HLT.out.1 (by omega) hm (by have := HLT.out; omega))
            go_wp2_with fail
            refine HC.out.mono ?_
            rintro e w1 ⟨rfl, hr1, hg1⟩
            have q2' := hg1.cell q1 (fun e => HH.out.2.2.2 (Option.some.inj e))
            have HR := Lib.hid (And.intro hr1 (And.intro hg1 q2'))
            clear m2 HC hr1 hg1 q1 q0 q2'
            go_wp2_with fail
            go_roundg (N - b)
            case measure => rw [HI.out.1]; have := HLT.out; omega
            case rel => exact ⟨b, swp l' i b, rfl, rfl, by omega, HP.out, HQ.out, HU.out, HR.out.2.2, HR.out.1, ((HI.out.2.2.2.2.1.trans (grown_drewN _ _ _))).trans HR.out.2.1⟩
        | false =>
          have q1 : (wr.drewN q0').cell? ⟨p, o, none⟩ = some (.slice (some ⟨g, 0, none⟩) N c) := q0
          have m2 := meth_less q1
          obtain ⟨d, hd⟩ : ∃ d, decide (at_ l' a < at_ l' i) = d := ⟨_, rfl⟩
          have HD := Lib.hid hd
          have HC : Hid (Calls Tryz.prog 150 #[.slice (some ⟨g, 0, none⟩) N c, .int .i64 (a : Int), .int .i64 (i : Int)] (wr.drewN q0') (fun e w' => e = .returned (.bool d) ∧ ∃ q, w' = wr.drewN q)) := Lib.hid (by
            rw [← hd]; exact (less_calls B (some ⟨g, 0, none⟩) c l' (wr.drewN q0') (own_grown HI.out.2.2.2.1 (grown_drewN _ _ _)) a i N HI.out.2.2.2.2.2.1 (by omega) HLT.out.1 hm).mono (fun _ _ h => ⟨h.1, by obtain ⟨m, hm⟩ := h.2; exact ⟨_, by rw [hm, World.drewN_drewN]⟩⟩))
          clear hd
          go_wp2_with fail
          refine HC.out.mono ?_
          rintro e w1 ⟨rfl, q2, rfl⟩
          clear m2 HC q1
          cases d with
          | false =>
            go_wp2_with fail
            go_ret
            refine ⟨⟨_, rfl⟩, l', HI.out.2.1, ?_, HI.out.2.2.2.2.2.2, own_grown HI.out.2.2.2.1 (grown_drewN _ _ _), HI.out.2.2.2.2.1.trans (grown_drewN _ _ _)⟩
            have hnl := of_decide_eq_false HD.out
            have h1 : at_ l' a ≤ at_ l' (2 * i + 1) := by have h := HLT.out; rw [← h.2.2.1]; omega
            have h2 : 2 * i + 2 < n → at_ l' a ≤ at_ l' (2 * i + 2) := fun _ => by have := of_decide_eq_false HE.out; have h := HLT.out; rw [← h.2.2.2]; omega
            exact dn_stop HI.out.2.2.1 (fun _ => by omega) (fun h => by have := h2 h; omega)
          | true =>
            have hlt := of_decide_eq_true HD.out
            have h1 : at_ l' a ≤ at_ l' (2 * i + 1) := by have h := HLT.out; rw [← h.2.2.1]; omega
            have h2 : 2 * i + 2 < n → at_ l' a ≤ at_ l' (2 * i + 2) := fun _ => by have := of_decide_eq_false HE.out; have h := HLT.out; rw [← h.2.2.2]; omega
            have HU := Lib.hid (dn_step (j := a) HI.out.2.2.1 (by rw [HI.out.2.2.2.2.2.1]; exact hn) (by omega) (by have := HLT.out; omega) h1 h2 hlt)
            have HP := Lib.hid ((swp_perm (l := l') (i := i) (j := a) (by rw [HI.out.2.2.2.2.2.1]; exact HLT.out.1) (by rw [HI.out.2.2.2.2.2.1]; omega)).trans HI.out.2.1)
            have HQ : Hid (∀ k, n ≤ k → at_ (swp l' i a) k = at_ l k) := Lib.hid (fun k hk => by
              rw [at_swp (by rw [HI.out.2.2.2.2.2.1]; exact HLT.out.1) (by rw [HI.out.2.2.2.2.2.1]; omega), if_neg (by omega), if_neg (by have := HLT.out; omega)]
              exact HI.out.2.2.2.2.2.2 k hk)
            clear hlt h1 h2
            have q1 : ((wr.drewN q2)).cell? ⟨p, o, none⟩ = some (.slice (some ⟨g, 0, none⟩) N c) := q0
            have m2 := meth_swap q1
            have HC := Lib.hid (swap_calls B g c l' (wr.drewN q2) (own_grown HI.out.2.2.2.1 (grown_drewN _ _ _)) i a N HI.out.2.2.2.2.2.1 HLT.out.1 (by omega) hm (by have := HLT.out; omega))
            go_wp2_with fail
            refine HC.out.mono ?_
            rintro e w1 ⟨rfl, hr1, hg1⟩
            have q2' := hg1.cell q1 (fun e => HH.out.2.2.2 (Option.some.inj e))
            have HR := Lib.hid (And.intro hr1 (And.intro hg1 q2'))
            clear m2 HC hr1 hg1 q1 q0 q2'
            go_wp2_with fail
            go_roundg (N - a)
            case measure => rw [HI.out.1]; have := HLT.out; omega
            case rel => exact ⟨a, swp l' i a, rfl, rfl, by omega, HP.out, HQ.out, HU.out, HR.out.2.2, HR.out.1, ((HI.out.2.2.2.2.1.trans (grown_drewN _ _ _))).trans HR.out.2.1⟩
      · have k7 : decide ((b : Int) < (n : Int)) = false := decide_eq_false (by omega)
        have k8 : decide (b < n) = false := decide_eq_false hbn
        clear m1
        have q1 : (wr).cell? ⟨p, o, none⟩ = some (.slice (some ⟨g, 0, none⟩) N c) := q0
        have m2 := meth_less q1
        obtain ⟨d, hd⟩ : ∃ d, decide (at_ l' a < at_ l' i) = d := ⟨_, rfl⟩
        have HD := Lib.hid hd
        have HC : Hid (Calls Tryz.prog 150 #[.slice (some ⟨g, 0, none⟩) N c, .int .i64 (a : Int), .int .i64 (i : Int)] (wr) (fun e w' => e = .returned (.bool d) ∧ ∃ q, w' = wr.drewN q)) := Lib.hid (by
          rw [← hd]; exact (less_calls B (some ⟨g, 0, none⟩) c l' (wr) (HI.out.2.2.2.1) a i N HI.out.2.2.2.2.2.1 (by omega) HLT.out.1 hm).mono (fun _ _ h => ⟨h.1, h.2⟩))
        clear hd
        go_wp2_with fail
        refine HC.out.mono ?_
        rintro e w1 ⟨rfl, q2, rfl⟩
        clear m2 HC q1
        cases d with
        | false =>
          go_wp2_with fail
          go_ret
          refine ⟨⟨_, rfl⟩, l', HI.out.2.1, ?_, HI.out.2.2.2.2.2.2, own_grown HI.out.2.2.2.1 (grown_drewN _ _ _), HI.out.2.2.2.2.1.trans (grown_drewN _ _ _)⟩
          have hnl := of_decide_eq_false HD.out
          have h1 : at_ l' a ≤ at_ l' (2 * i + 1) := by have h := HLT.out; rw [← h.2.2.1]; omega
          have h2 : 2 * i + 2 < n → at_ l' a ≤ at_ l' (2 * i + 2) := fun hh => by have h := HLT.out; omega
          exact dn_stop HI.out.2.2.1 (fun _ => by omega) (fun h => by have := h2 h; omega)
        | true =>
          have hlt := of_decide_eq_true HD.out
          have h1 : at_ l' a ≤ at_ l' (2 * i + 1) := by have h := HLT.out; rw [← h.2.2.1]; omega
          have h2 : 2 * i + 2 < n → at_ l' a ≤ at_ l' (2 * i + 2) := fun hh => by have h := HLT.out; omega
          have HU := Lib.hid (dn_step (j := a) HI.out.2.2.1 (by rw [HI.out.2.2.2.2.2.1]; exact hn) (by omega) (by have := HLT.out; omega) h1 h2 hlt)
          have HP := Lib.hid ((swp_perm (l := l') (i := i) (j := a) (by rw [HI.out.2.2.2.2.2.1]; exact HLT.out.1) (by rw [HI.out.2.2.2.2.2.1]; omega)).trans HI.out.2.1)
          have HQ : Hid (∀ k, n ≤ k → at_ (swp l' i a) k = at_ l k) := Lib.hid (fun k hk => by
            rw [at_swp (by rw [HI.out.2.2.2.2.2.1]; exact HLT.out.1) (by rw [HI.out.2.2.2.2.2.1]; omega), if_neg (by omega), if_neg (by have := HLT.out; omega)]
            exact HI.out.2.2.2.2.2.2 k hk)
          clear hlt h1 h2
          have q1 : ((wr.drewN q2)).cell? ⟨p, o, none⟩ = some (.slice (some ⟨g, 0, none⟩) N c) := q0
          have m2 := meth_swap q1
          have HC := Lib.hid (swap_calls B g c l' (wr.drewN q2) (own_grown HI.out.2.2.2.1 (grown_drewN _ _ _)) i a N HI.out.2.2.2.2.2.1 HLT.out.1 (by omega) hm (by have := HLT.out; omega))
          go_wp2_with fail
          refine HC.out.mono ?_
          rintro e w1 ⟨rfl, hr1, hg1⟩
          have q2' := hg1.cell q1 (fun e => HH.out.2.2.2 (Option.some.inj e))
          have HR := Lib.hid (And.intro hr1 (And.intro hg1 q2'))
          clear m2 HC hr1 hg1 q1 q0 q2'
          go_wp2_with fail
          go_roundg (N - a)
          case measure => rw [HI.out.1]; have := HLT.out; omega
          case rel => exact ⟨a, swp l' i a, rfl, rfl, by omega, HP.out, HQ.out, HU.out, HR.out.2.2, HR.out.1, ((HI.out.2.2.2.2.1.trans (grown_drewN _ _ _))).trans HR.out.2.1⟩
    · have k3 : decide ((n : Int) ≤ (a : Int)) = true := decide_eq_true (by omega)
      have k5 : decide (n ≤ a) = true := decide_eq_true (by omega)
      go_wp2_with fail
      go_ret
      refine ⟨⟨_, rfl⟩, l', HI.out.2.1, ?_, HI.out.2.2.2.2.2.2, HI.out.2.2.2.1, HI.out.2.2.2.2.1⟩
      have h := HA.out
      exact dn_stop HI.out.2.2.1 (fun _ => by omega) (fun _ => by omega)
end Go.Proofs.YtihaheinkpmnnaaGreat

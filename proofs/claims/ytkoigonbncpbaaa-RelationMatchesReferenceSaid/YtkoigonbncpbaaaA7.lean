/- Transpose. -/
import Derived.Test.YtkoigonbncpbaaaA6
namespace Go.Proofs.Ytkoigonbncpbaaa
open Go.RowKit Go.Maps Go.Sort Go.Shelf

theorem results21 (tmps : Array Value) (w : World) (b : Nat) (a : Option Addr) (n c : Nat) (x : Int) (ht : tmps.getD 4 undef = .pointer (some ⟨b, 0, none⟩)) (h0 : w.cell? ⟨b, 0, none⟩ = some (.int .i64 x)) (h1 : w.cell? ⟨b, 1, none⟩ = some (.slice a n c)) :
    (results Try.f21 tmps).run Try.prog w = .ok (.agg #[.int .i64 x, .slice a n c]) w := by
  have ht' : tmps[4]?.getD undef = .pointer (some ⟨b, 0, none⟩) := by simpa using ht
  simp [results, ht', go_sem, h0, h1, Result.andThen]

/-- A relation's tuples turned round, in their order. -/
def turnL (n : Nat) (xs : List Int) : List Int := xs.map fun x => x % (n : Int) * n + x / n
theorem turn_take {n : Nat} {xs : List Int} {i : Nat} {x : Int} (h : xs[i]? = some x) : turnL n (xs.take (i + 1)) = turnL n (xs.take i) ++ [x % (n : Int) * n + x / n] := by
  unfold turnL
  rw [List.take_add_one, h]
  simp

/-- What a function of this package holds: its own two boxes and what came in. -/
theorem ret_rel {w w3 : World} {B p : Nat} {a : Option Addr} {c : Nat} {k : Int} {L : List Int} (hs : Span (B + 1) w3.heap.size w3 (fun V => IntsW V a c L)) (hB : w.heap.size ≤ B) (hg : w.grownBy w3 none) :
    Span w.heap.size ((w3.setCell ⟨B, 0, none⟩ (.int .i64 k)).setCell ⟨B, 1, none⟩ (.slice a p c)).heap.size ((w3.setCell ⟨B, 0, none⟩ (.int .i64 k)).setCell ⟨B, 1, none⟩ (.slice a p c)) (fun V => IntsW V a c L) ∧
      w.grownBy ((w3.setCell ⟨B, 0, none⟩ (.int .i64 k)).setCell ⟨B, 1, none⟩ (.slice a p c)) none := by
  constructor
  · have h1 := (hs.off (grown_set _ B 0 (.int .i64 k)) (fun x e => by cases e; exact .inl (by omega))).off (grown_set _ B 1 (.slice a p c)) (fun x e => by cases e; exact .inl (by omega))
    exact h1.wide (by omega) (by simp [World.setCell]) (Nat.le_refl _)
  · exact grown_own (grown_own hg (grown_set _ B 0 _) (fun k hk => by cases hk; omega)) (grown_set _ B 1 _) (fun k hk => by cases hk; omega)

set_option maxRecDepth 100000 in
set_option maxHeartbeats 8000000 in
theorem transpose_calls (n : Nat) (k : Int) (xs : List Int) (xa : Option Addr) (xc : Nat) (w : World) (h : IntsW w xa xc xs) (hl : xs.length ≤ 100000) (hn : 1 ≤ n) (hn2 : n ≤ 12) (hx : ∀ x ∈ xs, 0 ≤ x ∧ x ≤ 2000) :
    Calls Try.prog 21 #[.int .i64 (n : Int), .agg #[.int .i64 k, .slice xa xs.length xc]] w fun e w' => ∃ a c, e = .returned (.agg #[.int .i64 k, .slice a (uniq (turnL n xs)).length c]) ∧ Span w.heap.size w'.heap.size w' (fun W => IntsW W a c (uniq (turnL n xs))) ∧ w.grownBy w' none := by
  obtain ⟨m, hm⟩ : ∃ m, xs.length = m := ⟨_, rfl⟩
  obtain ⟨p, hp⟩ : ∃ p, (uniq (turnL n xs)).length = p := ⟨_, rfl⟩
  have hc := two_cells w (.int .i64 k) (.slice xa m xc) (.int .i64 0) (.slice none 0 0) 27 27
  have hg := (World.grownBy_alloc w (.cells #[.int .i64 k, .slice xa m xc] 27) none).trans (World.grownBy_alloc (w.alloc (.cells #[.int .i64 k, .slice xa m xc] 27)) (.cells #[.int .i64 0, .slice none 0 0] 27) none)
  have hsz : ((w.alloc (.cells #[.int .i64 k, .slice xa m xc] 27)).alloc (.cells #[.int .i64 0, .slice none 0 0] 27)).heap.size = w.heap.size + 2 := by simp
  obtain ⟨W, hW⟩ : ∃ W, (w.alloc (.cells #[.int .i64 k, .slice xa m xc] 27)).alloc (.cells #[.int .i64 0, .slice none 0 0] 27) = W := ⟨_, rfl⟩
  rw [hW] at hc hg hsz
  have HH := Lib.hid (And.intro (h.grown hg) (And.intro hm hx))
  have hl' := hl
  rw [hm] at hl' ⊢
  have HP := Lib.hid hp
  rw [hp]
  clear h hm hx hp hl
  have HG := Lib.hid (And.intro hg hsz); clear hg hsz
  have HC := Lib.hid hc
  obtain ⟨_, c0, c1, d0, d1, f0, f1⟩ := hc
  have hmm := @run_makeMap Try.prog
  have hga := World.grownBy_alloc W (.map #[] 0) none
  have c1' := hga.cell c1 (by simp)
  go_enter Try.func21, Try.ntmps21
  go_wp2_with fail
  clear hW
  have hnew := SetM.new W
  obtain ⟨W0, hW0⟩ : ∃ W0, W.alloc (.map #[] 0) = W0 := ⟨_, rfl⟩
  rw [hW0] at hnew hga ⊢
  clear hW0 c1' c0 c1 d0 d1 f0 f1 hmm
  have HN := Lib.hid (And.intro hnew hga); clear hnew hga
  go_loopg [12] m (fun g s12 wr => ∃ (i : Nat), s12 = .int .i64 (i : Int) ∧ g = m - i ∧ i ≤ m ∧ SetM wr W.heap.size (turnL n (xs.take i)) ∧ W.grownBy wr none)
  case atStart => exact ⟨0, rfl, rfl, Nat.zero_le _, HN.out.1, HN.out.2⟩
  case round =>
    obtain ⟨i, rfl, hgk, hi, hsd, hgr⟩ := hrel
    have HSD := Lib.hid hsd; clear hsd
    have HWR := Lib.hid hgr; clear hgr
    have HI := Lib.hid hgk; clear hgk
    by_cases hin : i < m
    · have hinB : decide (i < m) = true := by simpa using hin
      have hinI : (i : Int) < (m : Int) := by omega
      obtain ⟨z, hz⟩ : ∃ z, xs[i]? = some z := ⟨_, List.getElem?_eq_getElem (by rw [HH.out.2.1]; exact hin)⟩
      obtain ⟨b, o, rfl, hcell0⟩ := HH.out.1.at hz
      have hzb := HH.out.2.2 z (List.mem_of_getElem? hz)
      obtain ⟨x, rfl⟩ : ∃ x : Nat, z = (x : Int) := ⟨z.toNat, by omega⟩
      obtain ⟨r, hr⟩ : ∃ r, x % n = r := ⟨_, rfl⟩
      obtain ⟨q, hq⟩ : ∃ q, x / n = q := ⟨_, rfl⟩
      have hT := turn_take (n := n) hz
      have hri : (x : Int) % (n : Int) = (r : Int) := by omega
      have hqi : (x : Int) / (n : Int) = (q : Int) := by rw [← hq]; rfl
      have hrn : r < n := by rw [← hr]; exact Nat.mod_lt _ (by omega)
      have hqx : q ≤ 2000 := by rw [← hq]; exact Nat.le_trans (Nat.div_le_self _ _) (by omega)
      have hrq : r * n ≤ 144 := Nat.le_trans (Nat.mul_le_mul (Nat.le_of_lt hrn) (Nat.le_refl n)) (by have := Nat.mul_le_mul hn2 hn2; omega)
      rw [hri, hqi] at hT
      obtain ⟨P, hP⟩ : ∃ P, r * n = P := ⟨_, rfl⟩
      obtain ⟨V, hV⟩ : ∃ V, P + q = V := ⟨_, rfl⟩
      have hPi : (r : Int) * (n : Int) = (P : Int) := by rw [← hP]; simp
      have HT := Lib.hid (show turnL n (xs.take (i + 1)) = turnL n (xs.take i) ++ [(V : Int)] by rw [hT, hPi, ← hV]; simp)
      rw [hP] at hrq
      have hmod : (x : Int).tmod (n : Int) = (r : Int) := by rw [← hri, Int.tmod_eq_emod_of_nonneg (by omega)]
      have hwq : IntKind.i64.wrap (q : Int) = (q : Int) := IntWalk.i64_in _ (by omega)
      have hwP : IntKind.i64.wrap ((r : Int) * (n : Int)) = (P : Int) := by rw [hPi]; exact IntWalk.i64_in _ (by omega)
      have hwV : IntKind.i64.wrap ((P : Int) + (q : Int)) = (V : Int) := by rw [IntWalk.i64_in _ (by omega)]; omega
      have HV := Lib.hid (show V ≤ 3000 by omega)
      have hnn : n ≠ 0 := by omega
      have HLT := Lib.hid (show (turnL n (xs.take i)).length ≤ 100000 by unfold turnL; rw [List.length_map, List.length_take]; omega)
      have hn0 : ((n : Int) == 0) = false := by simp; omega
      have hn00 : (n : Int) ≠ 0 := by omega
      have hnB : decide ((0 : Int) < (n : Int)) = true := by simp; omega
      have hnC : decide (0 < n) = true := by simp; omega
      have e1 := HWR.out.cell HC.out.2.2.1 (by simp)
      have e2 := HWR.out.cell hcell0 (by simp)
      clear hT hr hq hz hzb hP hV hPi hri
      go_wp2_with fail
      clear e1 e2
      have HS := Lib.hid (fun (Wh : World) (hWh : W.grownBy Wh none) => (hWh : (fun Wh : World => W.grownBy Wh none) Wh))
      have hdr : W.grownBy wr.drew none := World.grownBy.trans HWR.out (⟨rfl, rfl, rfl, Nat.le_refl _, fun _ _ _ => rfl⟩ : wr.grownBy wr.drew none)
      refine wp_region_held_drew (S := (fun Wh : World => W.grownBy Wh none)) (by kernel_rfl) (HS.out _ hdr) (fun hHeld => ?_)
      refine wpAnyH_take (i := 0) (oi := { dst := some 18, op := Op.move (Operand.tmp 5), type := 52, pos := "relation.go:136", after := #[], guard := none }) (v := ?_) rfl (by kernel_rfl) (by kernel_rfl) (by kernel_rfl) (fun _ _ _ h => h) (Or.inl ⟨by rfl, ?_⟩) (by assumption) ?_
      rotate_left 1
      · (intro W hSW; (try dsimp only at hSW); first | (go_simp; done) | (go_simp; with_reducible rfl))
      try simp only [Act.put, List.setIfInBounds_toArray, List.set_cons_zero, List.set_cons_succ]
      refine wpAnyH_take (i := 1) (oi := { dst := some 19, op := Op.move (Operand.tmp 7), type := 3, pos := "relation.go:136", after := #[], guard := none }) (v := ?_) rfl (by kernel_rfl) (by kernel_rfl) (by kernel_rfl) (fun _ _ _ h => h) (Or.inl ⟨by rfl, ?_⟩) (by assumption) ?_
      rotate_left 1
      · (intro W hSW; (try dsimp only at hSW); first | (go_simp; done) | (go_simp; with_reducible rfl))
      try simp only [Act.put, List.setIfInBounds_toArray, List.set_cons_zero, List.set_cons_succ]
      refine wpAnyH_take (i := 2) (oi := { dst := some 20, op := Op.move (Operand.tmp 0), type := 3, pos := "relation.go:136", after := #[], guard := none }) (v := ?_) rfl (by kernel_rfl) (by kernel_rfl) (by kernel_rfl) (fun _ _ _ h => h) (Or.inl ⟨by rfl, ?_⟩) (by assumption) ?_
      rotate_left 1
      · (intro W hSW; (try dsimp only at hSW); first | (go_simp; done) | (go_simp; with_reducible rfl))
      try simp only [Act.put, List.setIfInBounds_toArray, List.set_cons_zero, List.set_cons_succ]
      refine wpAnyH_take (i := 3) (oi := { dst := some 21, op := Op.binOp BinOp.rem 3 (Operand.tmp 19) (Operand.tmp 20) 3, type := 3, pos := "relation.go:136", after := #[{ on := 1, ground := Ground.data }, { on := 2, ground := Ground.data }], guard := none }) (v := ?_) rfl (by kernel_rfl) (by kernel_rfl) (by kernel_rfl) (fun _ _ _ h => h) (Or.inl ⟨by rfl, ?_⟩) (by assumption) ?_
      rotate_left 1
      · (intro W hSW; (try dsimp only at hSW); first | (go_simp; done) | (go_simp; with_reducible rfl))
      try simp only [Act.put, List.setIfInBounds_toArray, List.set_cons_zero, List.set_cons_succ]
      refine wpAnyH_take (i := 4) (oi := { dst := some 22, op := Op.move (Operand.tmp 0), type := 3, pos := "relation.go:136", after := #[], guard := none }) (v := ?_) rfl (by kernel_rfl) (by kernel_rfl) (by kernel_rfl) (fun _ _ _ h => h) (Or.inl ⟨by rfl, ?_⟩) (by assumption) ?_
      rotate_left 1
      · (intro W hSW; (try dsimp only at hSW); first | (go_simp; done) | (go_simp; with_reducible rfl))
      try simp only [Act.put, List.setIfInBounds_toArray, List.set_cons_zero, List.set_cons_succ]
      refine wpAnyH_take (i := 5) (oi := { dst := some 23, op := Op.binOp BinOp.mul 3 (Operand.tmp 21) (Operand.tmp 22) 3, type := 3, pos := "relation.go:136", after := #[{ on := 3, ground := Ground.data }, { on := 4, ground := Ground.data }], guard := none }) (v := ?_) rfl (by kernel_rfl) (by kernel_rfl) (by kernel_rfl) (fun _ _ _ h => h) (Or.inl ⟨by rfl, ?_⟩) (by assumption) ?_
      rotate_left 1
      · (intro W hSW; (try dsimp only at hSW); first | (go_simp; done) | (go_simp; with_reducible rfl))
      try simp only [Act.put, List.setIfInBounds_toArray, List.set_cons_zero, List.set_cons_succ]
      refine wpAnyH_take (i := 6) (oi := { dst := some 24, op := Op.move (Operand.tmp 7), type := 3, pos := "relation.go:136", after := #[], guard := none }) (v := ?_) rfl (by kernel_rfl) (by kernel_rfl) (by kernel_rfl) (fun _ _ _ h => h) (Or.inl ⟨by rfl, ?_⟩) (by assumption) ?_
      rotate_left 1
      · (intro W hSW; (try dsimp only at hSW); first | (go_simp; done) | (go_simp; with_reducible rfl))
      try simp only [Act.put, List.setIfInBounds_toArray, List.set_cons_zero, List.set_cons_succ]
      refine wpAnyH_take (i := 7) (oi := { dst := some 25, op := Op.move (Operand.tmp 0), type := 3, pos := "relation.go:136", after := #[], guard := none }) (v := ?_) rfl (by kernel_rfl) (by kernel_rfl) (by kernel_rfl) (fun _ _ _ h => h) (Or.inl ⟨by rfl, ?_⟩) (by assumption) ?_
      rotate_left 1
      · (intro W hSW; (try dsimp only at hSW); first | (go_simp; done) | (go_simp; with_reducible rfl))
      try simp only [Act.put, List.setIfInBounds_toArray, List.set_cons_zero, List.set_cons_succ]
      refine wpAnyH_take (i := 8) (oi := { dst := some 26, op := Op.binOp BinOp.quo 3 (Operand.tmp 24) (Operand.tmp 25) 3, type := 3, pos := "relation.go:136", after := #[{ on := 6, ground := Ground.data }, { on := 7, ground := Ground.data }], guard := none }) (v := ?_) rfl (by kernel_rfl) (by kernel_rfl) (by kernel_rfl) (fun _ _ _ h => h) (Or.inl ⟨by rfl, ?_⟩) (by assumption) ?_
      rotate_left 1
      · (intro W hSW; (try dsimp only at hSW); first | (go_simp; done) | (go_simp; with_reducible rfl))
      try simp only [Act.put, List.setIfInBounds_toArray, List.set_cons_zero, List.set_cons_succ]
      refine wpAnyH_take (i := 9) (oi := { dst := some 27, op := Op.binOp BinOp.add 3 (Operand.tmp 23) (Operand.tmp 26) 3, type := 3, pos := "relation.go:136", after := #[{ on := 5, ground := Ground.data }, { on := 8, ground := Ground.data }], guard := none }) (v := ?_) rfl (by kernel_rfl) (by kernel_rfl) (by kernel_rfl) (fun _ _ _ h => h) (Or.inl ⟨by rfl, ?_⟩) (by assumption) ?_
      rotate_left 1
      · (intro W hSW; (try dsimp only at hSW); first | (go_simp; done) | (go_simp; with_reducible rfl))
      try simp only [Act.put, List.setIfInBounds_toArray, List.set_cons_zero, List.set_cons_succ]
      refine wpAnyH_ready (rs := [10]) (by kernel_rfl) (by simp) ?_
      refine (AllReadyH.cons (o := { dst := none, op := Op.mapUpdate 52 (Operand.tmp 18) (Operand.tmp 27) (Operand.const (Value.bool true)), type := 0, pos := "relation.go:136", after := #[{ on := 0, ground := Ground.data }, { on := 9, ground := Ground.data }, { on := 0, ground := Ground.phase }, { on := 1, ground := Ground.phase }, { on := 2, ground := Ground.phase }, { on := 3, ground := Ground.phase }, { on := 4, ground := Ground.phase }, { on := 5, ground := Ground.phase }, { on := 6, ground := Ground.phase }, { on := 7, ground := Ground.phase }, { on := 8, ground := Ground.phase }, { on := 9, ground := Ground.phase }], guard := none }) rfl (fun K hK => ?_) AllReadyH.nil)
      refine ready_setM (.tmp 18) (.tmp 27) rfl rfl W.heap.size (turnL n (xs.take i)) rfl HSD.out (by have := HLT.out; omega) (V : Int) rfl (wf64 (by omega) (by have := HV.out; omega)) (fun w6 hset hgr6 => ?_)
      have hgs := grown_own hdr hgr6 (fun k hk => by cases hk; exact Nat.le_refl _)
      refine hK.out _ _ (HS.out _ hgs) (fun hHeld => ?_)
      clear hK K
      try simp only [Act.put]
      refine wpAnyH_done (by kernel_rfl) ?_ _
      have hEND := hgs
      clear hHeld
      have HE := Lib.hid (And.intro hset hEND)
      clear hset hEND hgr6 hgs hdr
      go_wp2_with fail
      go_roundg (m - (i + 1))
      case measure => rw [HI.out]; omega
      case rel => exact ⟨i + 1, rfl, rfl, by omega, by rw [HT.out]; exact HE.out.1, HE.out.2⟩
    · have hie : i = m := by omega
      subst hie
      have hinB : decide (i < i) = false := by simp
      have e0 := HWR.out.cell HC.out.2.1 (by simp)
      have hall : xs.take i = xs := List.take_of_length_le (by rw [HH.out.2.1]; exact Nat.le_refl _)
      have HF := Lib.hid (fun (U : World) (g : wr.grownBy U none) => fromSet_calls k W.heap.size (turnL n (xs.take i)) U (HSD.out.grown g (by simp)) (by unfold turnL; rw [List.length_map, List.length_take]; omega))
      rw [hall, HP.out] at HF
      clear hall
      go_wp2_with fail
      refine (HF.out wr (grown_refl _ _)).mono ?_
      rintro e w3 ⟨a', c', rfl, hi, g3⟩
      have g := World.grownBy.trans HWR.out g3
      have m0 := g.cell HC.out.2.2.2.1 (by simp)
      have m1 := g.cell HC.out.2.2.2.2.1 (by simp)
      have f0 := (grown_frozen g HC.out.1 0).trans HC.out.2.2.2.2.2.1
      have f1 := (grown_frozen g HC.out.1 1).trans HC.out.2.2.2.2.2.2
      have HI3 := Lib.hid hi
      have HG3 := Lib.hid g
      clear hi g
      go_wp2_with fail
      have hret := ret_rel (p := p) (k := k) (B := w.heap.size + 1) (HI3.out.wide (by have := HG.out.2; have := HWR.out.size; omega) (Nat.le_refl _) (Nat.le_refl _)) (by omega) (HG.out.1.trans HG3.out)
      refine bodyPost_ret (results21 _ _ (w.heap.size + 1) a' p c' k rfl (by rw [World.cell?_setCell_other _ _ _ _ (by intro e; injection e with _ e; cases e)]; exact World.cell?_setCell_same _ _ _ m0) (World.cell?_setCell_same _ _ _ (by rw [World.cell?_setCell_other _ _ _ _ (by intro e; injection e with _ e; cases e)]; exact m1))) rfl ⟨a', c', rfl, hret⟩
end Go.Proofs.Ytkoigonbncpbaaa

/- One circuit keeps the gates of another: the law's extends, where it says yes. -/
import Derived.Test.YthagoihpppppkaaT1
import Derived.Test.YthagoihpppppkaaF2
import Derived.Deep.DeepCutAuto
namespace Go.Proofs.Ythagoihpppppkaa
open Go.RowKit Go.Maps

theorem GatesW.pre {w : World} {a : Option Addr} {c : Nat} {gs g : List Gt} (h : GatesW w a c g) (hp : gs <+: g) : GatesW w a c gs := by
  obtain ⟨hc, h | ⟨b, o, ha, ht, hz⟩⟩ := h
  · exact ⟨Nat.le_trans hp.length_le hc, .inl (by subst h; exact List.prefix_nil.1 hp)⟩
  · exact ⟨Nat.le_trans hp.length_le hc, .inr ⟨b, o, ha, ht, fun j x hj => hz j x (by
      have hjl := (List.getElem?_eq_some_iff.1 hj).1
      obtain ⟨t, rfl⟩ := hp
      rw [List.getElem?_append_left hjl]; exact hj)⟩⟩
theorem same_n {gs : List Gt} {n : Nat} {a : Option Addr} {c : Nat} {a2 : Option Addr} {c2 : Nat} {w : World} (hn : gs.length = n) (hl : gs.length ≤ 2000) (h : GatesW w a c gs) (h2 : GatesW w a2 c2 gs) : Calls Try.prog 26 #[.agg #[.slice a n c], .agg #[.slice a2 n c2]] w fun x w' => x = .returned (.bool true) ∧ w.grownBy w' none := by
  subst hn
  have := same_calls gs gs a c a2 c2 w h h2 hl hl
  rw [decide_eq_true (rfl : gs = gs)] at this
  exact this
theorem valid_n {gs : List Gt} {n : Nat} {a : Option Addr} {c : Nat} {w : World} (hn : gs.length = n) (hl : gs.length ≤ 2000) (hG : Good gs) (h : GatesW w a c gs) : Calls Try.prog 47 #[.agg #[.slice a n c]] w fun x w' => x = .returned (.bool true) ∧ w.grownBy w' none := by
  subst hn
  have h1 := rvalid_calls gs a c w h.weak hl (good_wf hG (by omega))
  refine h1.mono (fun x w' hh => ?_)
  obtain ⟨b, e, hb, hg⟩ := hh
  exact ⟨by rw [e, hb.2 hG], hg⟩
theorem valid24_n {gs : List Gt} {v : List Bool} {l : List Int} {n k : Nat} {a : Option Addr} {c : Nat} {b : Option Addr} {d : Nat} {w : World} (hn : l.length = n) (hd : Den gs v l k) (hl : gs.length ≤ 990) (h : GatesW w a c gs) (hu : IntsW w b d l) (h9 : n ≤ 100) : Calls Try.prog 24 #[.agg #[.slice a gs.length c], .slice b n d] w fun x w' => x = .returned (.bool true) ∧ w.grownBy w' none := by
  subst hn
  have := validR_calls gs l a c b d w h hu (by omega) (by omega)
  rw [okB_iff.2 hd.2.2] at this
  exact this
theorem ints_news {w : World} {ad : Addr} {c : Nat} {news : List Int} (hi : IntsW w (some ad) c news) : ∀ j u, (intCells news)[j]? = some u → w.cell? (ad.add j) = some u := by
  intro j u hj
  rw [intCells, List.getElem?_map] at hj
  obtain ⟨z, hz, rfl⟩ := Option.map_eq_some_iff.1 hj
  obtain ⟨b, o, e, h0⟩ := hi.at hz
  cases e
  have hadd : (⟨b, o, none⟩ : Addr).add j = ⟨b, o + j, none⟩ := by unfold Addr.add; split <;> simp_all
  rw [hadd]; exact h0
theorem run_append_nilI {w : World} {base n : Nat} {v : Value} {xs : List Value} (hown : w.ownsRow base 3 1 v n xs) (ty : TypeId) (c : Nat) : (Builtin.append_ #[33, 33] ty #[v, .slice none 0 c]).run Try.prog w = .ok v w := by
  obtain ⟨i0, hi, hz0, hz1, hz2⟩ := info_parts info3
  rcases hown.2 with ⟨rfl, rfl⟩ | ⟨g, cap, cur, rfl, _, _, hnc, _⟩
  · simp [Builtin.append_, run_underlying Try.underlying33, sizeOf, typeInfo, hi, Builtin.lenOf, Builtin.firstCells]
  · simp [Builtin.append_, run_underlying Try.underlying33, sizeOf, typeInfo, hi, Builtin.lenOf, Builtin.firstCells, hnc, storeCells]
theorem run_append_intsR (base : Nat) (ty : TypeId) {v : Value} {n : Nat} {l : List Int} {w : World} (hown : w.ownsRow base 3 1 v n (intCells l)) {xa : Option Addr} {m c : Nat} {news : List Int} (hm : news.length = m) (hi : IntsW w xa c news)
    (h63 : n + m ≤ 100000) (hbase : base ≤ w.heap.size) :
    ∃ v' w', (Builtin.append_ #[33, 33] ty #[v, .slice xa m c]).run Try.prog w = .ok v' w' ∧ w'.ownsRow base 3 1 v' (n + m) (intCells (l ++ news)) ∧ w.grownBy w' v.ownBlock := by
  obtain ⟨i0, hi0, hz0, hz1, hz2⟩ := info_parts info3
  cases xa with
  | none =>
    obtain rfl : news = [] := by
      rcases hi.2 with h0 | ⟨_, _, e, _⟩
      · exact h0
      · cases e
    obtain rfl : 0 = m := hm
    exact ⟨v, w, run_append_nilI hown ty c, by rw [List.append_nil]; exact hown, grown_refl _ _⟩
  | some ad =>
    obtain ⟨v', w', hr, h2, h3, _, _⟩ := run_append_own_at (P := Try.prog) w base 33 ty 3 i0 (.int .i64 0) 1 8 Try.underlying33 hi0 hz0 hz1 hz2 rfl (by decide) v n (intCells l) hown ad m c (intCells news) (by rw [intCells, List.length_map, hm, Nat.mul_one]) (ints_news hi) (fun u hu => by obtain ⟨z, _, rfl⟩ := List.mem_map.1 hu; rfl) (by unfold maxLen; omega) (by omega) hbase
    exact ⟨v', w', hr, by rw [intCells, List.map_append]; exact h2, h3⟩
/-- The append of a row of integers. -/
theorem append_intsR {ops : Array Oper} {rest : List Oper} {o : Oper} {a : Act} {Q : Exit → Act → World → Prop} {w : World} (hgd : o.guard = none) (s x : Operand)
    (ho : o.op = .call { callee := .builtin .append, args := #[s, x], argTypes := #[33, 33] })
    (base : Nat) (v : Value) (n : Nat) (l : List Int) (hs : a.eval s = v) (hown : w.ownsRow base 3 1 v n (intCells l))
    (xa : Option Addr) (m c : Nat) (news : List Int) (hx : a.eval x = .slice xa m c) (hm : news.length = m) (hi : IntsW w xa c news)
    (h63 : n + m ≤ 100000) (hbase : base ≤ w.heap.size)
    (h : ∀ v' w', w'.ownsRow base 3 1 v' (n + m) (intCells (l ++ news)) → w.grownBy w' v.ownBlock → wpList Try.prog ops Q rest (a.put o.dst v') w') : wpList Try.prog ops Q (o :: rest) a w := by
  refine wpList_plain hgd fun K' hK' => ?_
  obtain ⟨v', w', hr, h2, h3⟩ := run_append_intsR base o.type hown hm hi h63 hbase
  unfold Oper.wp execOp
  simp only [ho, resolve, invoke, builtin, Sem.run_bind, Sem.run_pure, Result.andThen_ok, List.map_toArray, List.map_cons, List.map_nil, hs, hx, hr]
  exact hK' _ _ (h v' w' h2 h3)

set_option maxRecDepth 100000 in
set_option maxHeartbeats 4000000 in
theorem extends_yes (gs g : List Gt) (a : Option Addr) (ca : Nat) (a2 : Option Addr) (c2 : Nat) (w : World) (h : GatesW w a ca gs) (h2 : GatesW w a2 c2 g) (hp : gs <+: g) (hG : Good g) (hl : g.length ≤ 1000) :
    Calls Try.prog 23 #[.agg #[.slice a gs.length ca], .agg #[.slice a2 g.length c2]] w fun x w' => x = .returned (.bool true) ∧ w.grownBy w' none := by
  obtain ⟨n, hn⟩ : ∃ n, gs.length = n := ⟨_, rfl⟩
  obtain ⟨m, hm⟩ : ∃ n, g.length = n := ⟨_, rfl⟩
  have hnm : n ≤ m := by rw [← hn, ← hm]; exact hp.length_le
  have hmc : m ≤ c2 := by rw [← hm]; exact h2.1
  have hp0 := hG.pos
  have hg1 := World.grownBy_alloc w (.cells #[.slice a n ca] 32) none
  have hc1 := one_cell w (.slice a n ca) 32
  obtain ⟨W1, hW1⟩ : ∃ z, w.alloc (.cells #[.slice a n ca] 32) = z := ⟨_, rfl⟩
  rw [hW1] at hg1 hc1
  have hg2 := World.grownBy_alloc W1 (.cells #[.slice a2 m c2] 32) none
  have hc2 := one_cell W1 (.slice a2 m c2) 32
  obtain ⟨W2, hW2⟩ : ∃ z, W1.alloc (.cells #[.slice a2 m c2] 32) = z := ⟨_, rfl⟩
  rw [hW2] at hg2 hc2
  obtain ⟨b0, hb0⟩ : ∃ z, w.heap.size = z := ⟨_, rfl⟩
  obtain ⟨b1, hb1⟩ : ∃ z, W1.heap.size = z := ⟨_, rfl⟩
  rw [hb0] at hc1
  rw [hb1] at hc2
  have HQ := Lib.hid (And.intro (hg2.cell hc1.2.1 (by simp)) hc2.2.1)
  have HG := Lib.hid (World.grownBy.trans hg1 hg2)
  have HSM := Lib.hid (fun (U : World) (hU : W2.grownBy U none) => same_n (w := U) hn (by rw [hn]; omega) (((h.grown hg1).grown hg2).grown hU) ((((h2.grown hg1).grown hg2).grown hU).pre hp))
  have HVL := Lib.hid (fun (U : World) (hU : W2.grownBy U none) => valid_n (w := U) hm (by omega) hG (((h2.grown hg1).grown hg2).grown hU))
  rw [hn, hm]
  have f1 : decide ((n : Int) ≤ (m : Int)) = true := decide_eq_true (by omega)
  have f2 : decide (n ≤ m) = true := decide_eq_true hnm
  have d1 : (n : Int) ≤ (m : Int) := by omega
  have d2 : (m : Int) ≤ (c2 : Int) := by omega
  have d3 : (n : Int) ≤ (c2 : Int) := by omega
  have d4 : ¬ (c2 = 0) := by omega
  have d7 : n ≤ c2 := by omega
  clear h h2 hp hG hl hn hm hp0 hg1 hg2 hc1 hc2
  go_enter Try.func23, Try.ntmps23
  go_upto_region 1 with fail
  clear hW1 hW2 hb0 hb1
  have HS := Lib.hid (fun (Wh : World) (hWh : W2.grownBy Wh none) => (⟨hWh, hWh.cell HQ.out.1 (by simp), hWh.cell HQ.out.2 (by simp)⟩ : (fun Wh : World => W2.grownBy Wh none ∧ Wh.cell? ⟨b0, 0, none⟩ = some (.slice a n ca) ∧ Wh.cell? ⟨b1, 0, none⟩ = some (.slice a2 m c2)) Wh))
  have hdr : W2.grownBy W2.drew none := ⟨rfl, rfl, rfl, Nat.le_refl _, fun _ _ _ => rfl⟩
  refine wp_region_held_drew (S := (fun Wh : World => W2.grownBy Wh none ∧ Wh.cell? ⟨b0, 0, none⟩ = some (.slice a n ca) ∧ Wh.cell? ⟨b1, 0, none⟩ = some (.slice a2 m c2))) (by kernel_rfl) (HS.out _ hdr) (fun hHeld => ?_)
  refine wpAnyH_take (i := 0) (oi := { dst := some 5, op := Op.fieldAddr 32 (Operand.tmp 3) 0, type := 0, pos := "law.go:85", after := #[], guard := none }) (v := ?_) rfl (by kernel_rfl) (by kernel_rfl) (by kernel_rfl) (fun _ _ _ h => h) (Or.inl ⟨by rfl, ?_⟩) (by assumption) ?_
  rotate_left 1
  · (intro W hSW; (try dsimp only at hSW); first | (go_simp; done) | (go_simp; with_reducible rfl))
  try simp only [Act.put, List.setIfInBounds_toArray, List.set_cons_zero, List.set_cons_succ]
  refine wpAnyH_take (i := 1) (oi := { dst := some 6, op := Op.load 30 (Operand.tmp 5), type := 30, pos := "law.go:85", after := #[{ on := 0, ground := Ground.data }], guard := none }) (v := ?_) rfl (by kernel_rfl) (by kernel_rfl) (by kernel_rfl) (fun _ _ _ h => h) (Or.inl ⟨by rfl, ?_⟩) (by assumption) ?_
  rotate_left 1
  · (intro W hSW; (try dsimp only at hSW); first | (go_simp; done) | (go_simp; with_reducible rfl))
  try simp only [Act.put, List.setIfInBounds_toArray, List.set_cons_zero, List.set_cons_succ]
  refine wpAnyH_take (i := 2) (oi := { dst := some 7, op := Op.call { callee := Callee.builtin Builtin.len, args := #[Operand.tmp 6], argTypes := #[30] }, type := 3, pos := "law.go:85", after := #[{ on := 1, ground := Ground.data }], guard := none }) (v := ?_) rfl (by kernel_rfl) (by kernel_rfl) (by kernel_rfl) (fun _ _ _ h => h) (Or.inl ⟨by rfl, ?_⟩) (by assumption) ?_
  rotate_left 1
  · (intro W hSW; (try dsimp only at hSW); first | (go_simp; done) | (go_simp; with_reducible rfl))
  try simp only [Act.put, List.setIfInBounds_toArray, List.set_cons_zero, List.set_cons_succ]
  refine wpAnyH_take (i := 3) (oi := { dst := some 8, op := Op.fieldAddr 32 (Operand.tmp 2) 0, type := 0, pos := "law.go:85", after := #[], guard := none }) (v := ?_) rfl (by kernel_rfl) (by kernel_rfl) (by kernel_rfl) (fun _ _ _ h => h) (Or.inl ⟨by rfl, ?_⟩) (by assumption) ?_
  rotate_left 1
  · (intro W hSW; (try dsimp only at hSW); first | (go_simp; done) | (go_simp; with_reducible rfl))
  try simp only [Act.put, List.setIfInBounds_toArray, List.set_cons_zero, List.set_cons_succ]
  refine wpAnyH_take (i := 4) (oi := { dst := some 9, op := Op.load 30 (Operand.tmp 8), type := 30, pos := "law.go:85", after := #[{ on := 3, ground := Ground.data }], guard := none }) (v := ?_) rfl (by kernel_rfl) (by kernel_rfl) (by kernel_rfl) (fun _ _ _ h => h) (Or.inl ⟨by rfl, ?_⟩) (by assumption) ?_
  rotate_left 1
  · (intro W hSW; (try dsimp only at hSW); first | (go_simp; done) | (go_simp; with_reducible rfl))
  try simp only [Act.put, List.setIfInBounds_toArray, List.set_cons_zero, List.set_cons_succ]
  refine wpAnyH_take (i := 5) (oi := { dst := some 10, op := Op.call { callee := Callee.builtin Builtin.len, args := #[Operand.tmp 9], argTypes := #[30] }, type := 3, pos := "law.go:85", after := #[{ on := 4, ground := Ground.data }], guard := none }) (v := ?_) rfl (by kernel_rfl) (by kernel_rfl) (by kernel_rfl) (fun _ _ _ h => h) (Or.inl ⟨by rfl, ?_⟩) (by assumption) ?_
  rotate_left 1
  · (intro W hSW; (try dsimp only at hSW); first | (go_simp; done) | (go_simp; with_reducible rfl))
  try simp only [Act.put, List.setIfInBounds_toArray, List.set_cons_zero, List.set_cons_succ]
  refine wpAnyH_take (i := 6) (oi := { dst := some 11, op := Op.binOp BinOp.geq 3 (Operand.tmp 7) (Operand.tmp 10) 3, type := 4, pos := "law.go:85", after := #[{ on := 2, ground := Ground.data }, { on := 5, ground := Ground.data }], guard := none }) (v := ?_) rfl (by kernel_rfl) (by kernel_rfl) (by kernel_rfl) (fun _ _ _ h => h) (Or.inl ⟨by rfl, ?_⟩) (by assumption) ?_
  rotate_left 1
  · (intro W hSW; (try dsimp only at hSW); first | (go_simp; done) | (go_simp; with_reducible rfl))
  try simp only [Act.put, List.setIfInBounds_toArray, List.set_cons_zero, List.set_cons_succ]
  refine wpAnyH_take (i := 7) (oi := { dst := some 12, op := Op.move (Operand.tmp 11), type := 4, pos := "law.go:85", after := #[{ on := 6, ground := Ground.data }], guard := none }) (v := ?_) rfl (by kernel_rfl) (by kernel_rfl) (by kernel_rfl) (fun _ _ _ h => h) (Or.inl ⟨by rfl, ?_⟩) (by assumption) ?_
  rotate_left 1
  · (intro W hSW; (try dsimp only at hSW); first | (go_simp; done) | (go_simp; with_reducible rfl))
  try simp only [Act.put, List.setIfInBounds_toArray, List.set_cons_zero, List.set_cons_succ]
  refine wpAnyH_take (i := 8) (oi := { dst := some 13, op := Op.load 32 (Operand.tmp 2), type := 32, pos := "law.go:85", after := #[{ on := 7, ground := Ground.guard }], guard := some (7, true) }) (v := ?_) rfl (by kernel_rfl) (by kernel_rfl) (by kernel_rfl) (fun _ _ _ h => h) (Or.inl ⟨by rfl, ?_⟩) (by assumption) ?_
  rotate_left 1
  · (intro W hSW; (try dsimp only at hSW); first | (go_simp; done) | (go_simp; with_reducible rfl))
  try simp only [Act.put, List.setIfInBounds_toArray, List.set_cons_zero, List.set_cons_succ]
  refine wpAnyH_take (i := 9) (oi := { dst := some 14, op := Op.fieldAddr 32 (Operand.tmp 3) 0, type := 0, pos := "law.go:85", after := #[{ on := 7, ground := Ground.guard }], guard := some (7, true) }) (v := ?_) rfl (by kernel_rfl) (by kernel_rfl) (by kernel_rfl) (fun _ _ _ h => h) (Or.inl ⟨by rfl, ?_⟩) (by assumption) ?_
  rotate_left 1
  · (intro W hSW; (try dsimp only at hSW); first | (go_simp; done) | (go_simp; with_reducible rfl))
  try simp only [Act.put, List.setIfInBounds_toArray, List.set_cons_zero, List.set_cons_succ]
  refine wpAnyH_take (i := 10) (oi := { dst := some 15, op := Op.load 30 (Operand.tmp 14), type := 30, pos := "law.go:85", after := #[{ on := 9, ground := Ground.data }, { on := 7, ground := Ground.guard }], guard := some (7, true) }) (v := ?_) rfl (by kernel_rfl) (by kernel_rfl) (by kernel_rfl) (fun _ _ _ h => h) (Or.inl ⟨by rfl, ?_⟩) (by assumption) ?_
  rotate_left 1
  · (intro W hSW; (try dsimp only at hSW); first | (go_simp; done) | (go_simp; with_reducible rfl))
  try simp only [Act.put, List.setIfInBounds_toArray, List.set_cons_zero, List.set_cons_succ]
  refine wpAnyH_take (i := 11) (oi := { dst := some 16, op := Op.fieldAddr 32 (Operand.tmp 2) 0, type := 0, pos := "law.go:85", after := #[{ on := 7, ground := Ground.guard }], guard := some (7, true) }) (v := ?_) rfl (by kernel_rfl) (by kernel_rfl) (by kernel_rfl) (fun _ _ _ h => h) (Or.inl ⟨by rfl, ?_⟩) (by assumption) ?_
  rotate_left 1
  · (intro W hSW; (try dsimp only at hSW); first | (go_simp; done) | (go_simp; with_reducible rfl))
  try simp only [Act.put, List.setIfInBounds_toArray, List.set_cons_zero, List.set_cons_succ]
  refine wpAnyH_take (i := 12) (oi := { dst := some 17, op := Op.load 30 (Operand.tmp 16), type := 30, pos := "law.go:85", after := #[{ on := 11, ground := Ground.data }, { on := 7, ground := Ground.guard }], guard := some (7, true) }) (v := ?_) rfl (by kernel_rfl) (by kernel_rfl) (by kernel_rfl) (fun _ _ _ h => h) (Or.inl ⟨by rfl, ?_⟩) (by assumption) ?_
  rotate_left 1
  · (intro W hSW; (try dsimp only at hSW); first | (go_simp; done) | (go_simp; with_reducible rfl))
  try simp only [Act.put, List.setIfInBounds_toArray, List.set_cons_zero, List.set_cons_succ]
  refine wpAnyH_take (i := 13) (oi := { dst := some 18, op := Op.call { callee := Callee.builtin Builtin.len, args := #[Operand.tmp 17], argTypes := #[30] }, type := 3, pos := "law.go:85", after := #[{ on := 12, ground := Ground.data }, { on := 7, ground := Ground.guard }], guard := some (7, true) }) (v := ?_) rfl (by kernel_rfl) (by kernel_rfl) (by kernel_rfl) (fun _ _ _ h => h) (Or.inl ⟨by rfl, ?_⟩) (by assumption) ?_
  rotate_left 1
  · (intro W hSW; (try dsimp only at hSW); first | (go_simp; done) | (go_simp; with_reducible rfl))
  try simp only [Act.put, List.setIfInBounds_toArray, List.set_cons_zero, List.set_cons_succ]
  refine wpAnyH_take (i := 14) (oi := { dst := some 19, op := Op.slice 30 (Operand.tmp 15) none (some (Operand.tmp 18)) none, type := 30, pos := "law.go:85", after := #[{ on := 10, ground := Ground.data }, { on := 13, ground := Ground.data }, { on := 7, ground := Ground.guard }], guard := some (7, true) }) (v := ?_) rfl (by kernel_rfl) (by kernel_rfl) (by kernel_rfl) (fun _ _ _ h => h) (Or.inl ⟨by rfl, ?_⟩) (by assumption) ?_
  rotate_left 1
  · (intro W hSW; (try dsimp only at hSW); first | (go_simp; done) | (go_simp; with_reducible rfl))
  try simp only [Act.put, List.setIfInBounds_toArray, List.set_cons_zero, List.set_cons_succ]
  refine wpAnyH_take (i := 15) (oi := { dst := some 20, op := Op.build 32 #[(0, Operand.tmp 19)], type := 32, pos := "law.go:85", after := #[{ on := 14, ground := Ground.data }, { on := 7, ground := Ground.guard }], guard := some (7, true) }) (v := ?_) rfl (by kernel_rfl) (by kernel_rfl) (by kernel_rfl) (fun _ _ _ h => h) (Or.inl ⟨by rfl, ?_⟩) (by assumption) ?_
  rotate_left 1
  · (intro W hSW; (try dsimp only at hSW); first | (go_simp; done) | (go_simp; with_reducible rfl))
  try simp only [Act.put, List.setIfInBounds_toArray, List.set_cons_zero, List.set_cons_succ]
  refine wpAnyH_ready (rs := [16]) (by kernel_rfl) (by simp) ?_
  refine (AllReadyH.cons (o := { dst := some 21, op := Op.call { callee := Callee.value (Operand.func 26), args := #[Operand.tmp 13, Operand.tmp 20], argTypes := #[32, 32] }, type := 4, pos := "law.go:85", after := #[{ on := 8, ground := Ground.data }, { on := 15, ground := Ground.data }, { on := 7, ground := Ground.chain }, { on := 7, ground := Ground.guard }], guard := some (7, true) }) rfl (fun K hK => ?_) AllReadyH.nil)
  rw [if_pos (by rfl)]
  go_simp
  go_at_call 26
  refine (HSM.out _ hdr).mono ?_
  rintro e wc1 ⟨rfl, gc1⟩
  have hgr1 := World.grownBy.trans hdr gc1
  go_wp2_with fail
  refine hK.out _ _ (HS.out _ hgr1) (fun hHeld => ?_)
  clear hK K
  try simp only [Act.put, List.setIfInBounds_toArray, List.set_cons_zero, List.set_cons_succ]
  refine wpAnyH_take (i := 17) (oi := { dst := some 22, op := Op.pick (Operand.tmp 12) (Operand.tmp 21) (Operand.const (Value.bool false)), type := 4, pos := "law.go:85", after := #[{ on := 7, ground := Ground.data }, { on := 16, ground := Ground.data }], guard := none }) (v := ?_) rfl (by kernel_rfl) (by kernel_rfl) (by kernel_rfl) (fun _ _ _ h => h) (Or.inl ⟨by rfl, ?_⟩) (by assumption) ?_
  rotate_left 1
  · (intro W hSW; (try dsimp only at hSW); first | (go_simp; done) | (go_simp; with_reducible rfl))
  try simp only [Act.put, List.setIfInBounds_toArray, List.set_cons_zero, List.set_cons_succ]
  refine wpAnyH_take (i := 18) (oi := { dst := some 23, op := Op.move (Operand.tmp 22), type := 4, pos := "law.go:85", after := #[{ on := 17, ground := Ground.data }, { on := 16, ground := Ground.chain }], guard := none }) (v := ?_) rfl (by kernel_rfl) (by kernel_rfl) (by kernel_rfl) (fun _ _ _ h => h) (Or.inl ⟨by rfl, ?_⟩) (by assumption) ?_
  rotate_left 1
  · (intro W hSW; (try dsimp only at hSW); first | (go_simp; done) | (go_simp; with_reducible rfl))
  try simp only [Act.put, List.setIfInBounds_toArray, List.set_cons_zero, List.set_cons_succ]
  refine wpAnyH_take (i := 19) (oi := { dst := some 24, op := Op.load 32 (Operand.tmp 3), type := 32, pos := "law.go:85", after := #[{ on := 18, ground := Ground.guard }], guard := some (18, true) }) (v := ?_) rfl (by kernel_rfl) (by kernel_rfl) (by kernel_rfl) (fun _ _ _ h => h) (Or.inl ⟨by rfl, ?_⟩) (by assumption) ?_
  rotate_left 1
  · (intro W hSW; (try dsimp only at hSW); first | (go_simp; done) | (go_simp; with_reducible rfl))
  try simp only [Act.put, List.setIfInBounds_toArray, List.set_cons_zero, List.set_cons_succ]
  refine wpAnyH_ready (rs := [20]) (by kernel_rfl) (by simp) ?_
  refine (AllReadyH.cons (o := { dst := some 25, op := Op.call { callee := Callee.value (Operand.func 47), args := #[Operand.tmp 24], argTypes := #[32] }, type := 4, pos := "law.go:85", after := #[{ on := 19, ground := Ground.data }, { on := 18, ground := Ground.chain }, { on := 18, ground := Ground.guard }], guard := some (18, true) }) rfl (fun K hK => ?_) AllReadyH.nil)
  rw [if_pos (by rfl)]
  go_simp
  go_at_call 47
  refine (HVL.out _ hgr1).mono ?_
  rintro e wc2 ⟨rfl, gc2⟩
  have hgr2 := World.grownBy.trans hgr1 gc2
  go_wp2_with fail
  refine hK.out _ _ (HS.out _ hgr2) (fun hHeld => ?_)
  clear hK K
  try simp only [Act.put, List.setIfInBounds_toArray, List.set_cons_zero, List.set_cons_succ]
  refine wpAnyH_take (i := 21) (oi := { dst := some 26, op := Op.pick (Operand.tmp 23) (Operand.tmp 25) (Operand.const (Value.bool false)), type := 4, pos := "law.go:85", after := #[{ on := 18, ground := Ground.data }, { on := 20, ground := Ground.data }], guard := none }) (v := ?_) rfl (by kernel_rfl) (by kernel_rfl) (by kernel_rfl) (fun _ _ _ h => h) (Or.inl ⟨by rfl, ?_⟩) (by assumption) ?_
  rotate_left 1
  · (intro W hSW; (try dsimp only at hSW); first | (go_simp; done) | (go_simp; with_reducible rfl))
  try simp only [Act.put, List.setIfInBounds_toArray, List.set_cons_zero, List.set_cons_succ]
  refine wpAnyH_take (i := 22) (oi := { dst := some 4, op := Op.assign (Operand.tmp 26), type := 4, pos := "law.go:85", after := #[{ on := 21, ground := Ground.data }, { on := 20, ground := Ground.chain }, { on := 0, ground := Ground.phase }, { on := 1, ground := Ground.phase }, { on := 2, ground := Ground.phase }, { on := 3, ground := Ground.phase }, { on := 4, ground := Ground.phase }, { on := 5, ground := Ground.phase }, { on := 6, ground := Ground.phase }, { on := 7, ground := Ground.phase }, { on := 8, ground := Ground.phase }, { on := 9, ground := Ground.phase }, { on := 10, ground := Ground.phase }, { on := 11, ground := Ground.phase }, { on := 12, ground := Ground.phase }, { on := 13, ground := Ground.phase }, { on := 14, ground := Ground.phase }, { on := 15, ground := Ground.phase }, { on := 16, ground := Ground.phase }, { on := 17, ground := Ground.phase }, { on := 18, ground := Ground.phase }, { on := 19, ground := Ground.phase }, { on := 20, ground := Ground.phase }, { on := 21, ground := Ground.phase }], guard := none }) (v := ?_) rfl (by kernel_rfl) (by kernel_rfl) (by kernel_rfl) (fun _ _ _ h => h) (Or.inl ⟨by rfl, ?_⟩) (by assumption) ?_
  rotate_left 1
  · (intro W hSW; (try dsimp only at hSW); first | (go_simp; done) | (go_simp; with_reducible rfl))
  try simp only [Act.put, List.setIfInBounds_toArray, List.set_cons_zero, List.set_cons_succ]
  refine wpAnyH_done (by kernel_rfl) ?_ _
  have hEND := hgr2
  clear hHeld
  have HE := Lib.hid (World.grownBy.trans HG.out hEND)
  clear hEND
  go_wp2_with fail
  go_ret
  exact ⟨rfl, HE.out⟩
end Go.Proofs.Ythagoihpppppkaa

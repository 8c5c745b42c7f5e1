/- Override. -/
import Derived.Test.YtkoigonbncpbaaaB7
import Derived.Shelf.SlicesE.DeleteFunc
import Derived.Ground.SlgfProg
namespace Go.Proofs.Ytkoigonbncpbaaa
open Go.RowKit Go.Shelf Go.Sort

def Try.delA_ren : Go.Shelf.Ren := ⟨fun | 10 => 52 | 6 => 58 | n => n, fun | 22 => 25 | 23 => 3 | 25 => 63 | 3 => 3 | 4 => 4 | 0 => 0 | n => n, fun | n => n⟩
theorem Try.delA : Go.Proofs.SlLaysH.n10 Try.prog Try.delA_ren where
  mixed := by kernel_rfl
  f6 := ⟨Try.f58.name, of_decide_eq_true (by kernel_rfl), Try.func58.trans (congrArg some (by kernel_rfl))⟩
  f10 := ⟨Try.f52.name, of_decide_eq_true (by kernel_rfl), Try.func52.trans (congrArg some (by kernel_rfl))⟩
  t0 := Try.underlying0
  a0 := Try.isAgg0
  z0 := Try.sizeOf0
  v0 := Try.zeroValue0
  t3 := Try.underlying3
  a3 := Try.isAgg3
  z3 := Try.sizeOf3
  v3 := Try.zeroValue3
  t4 := Try.underlying4
  a4 := Try.isAgg4
  z4 := Try.sizeOf4
  v4 := Try.zeroValue4
  t22 := Try.underlying25
  a22 := Try.isAgg25
  z22 := Try.sizeOf25
  v22 := Try.zeroValue25
  a23 := Try.isAgg3
  z23 := Try.sizeOf3
  t25 := Try.underlying63
  a25 := Try.isAgg63
  z25 := Try.sizeOf63
  v25 := Try.zeroValue63

set_option maxRecDepth 100000 in
set_option maxHeartbeats 2000000 in
theorem cloneOwn_calls (zs : List Int) (a : Option Addr) (c : Nat) (w : World) (h : IntsW w a c zs) (hl : zs.length ≤ 100000) :
    Calls Try.prog 53 #[.slice a zs.length c] w fun e w' => ∃ v', e = .returned v' ∧ w'.ownsRow w.heap.size 3 1 v' zs.length (intCells zs) ∧ w.grownBy w' none := by
  obtain ⟨n, hn⟩ : ∃ n, zs.length = n := ⟨_, rfl⟩
  rw [hn] at hl ⊢
  have HN := Lib.hid hn; clear hn
  cases a with
  | none =>
    obtain rfl : zs = [] := by
      obtain ⟨_, h | ⟨_, _, e, _⟩⟩ := h
      · exact h
      · cases e
    have q28 : ∀ (w : World) (a : Option Addr) (n c n' c' : Nat), (binOp .eql 25 (.slice a n c) (.slice none n' c')).run Try.prog w = .ok (.bool a.isNone) w := fun w a n c n' c' => Lib.run_eql_slice_nil w _ _ a n c n' c' Try.underlying25
    have hn0 : n = 0 := by rw [← HN.out]; rfl
    subst hn0
    go_enter Try.func53, Try.ntmps53
    go_wp2_with fail
    go_ret
    exact ⟨.slice none 0 0, rfl, World.ownsRow_nil _ _ _ _, grown_refl _ _⟩
  | some ad =>
    obtain ⟨i0, hi0, hz0, hz1, hz2⟩ := info_parts info3
    have HC := Lib.hid h.2; have hc := h.1; clear h
    rw [HN.out] at hc
    have q28 : ∀ (w : World) (a : Option Addr) (n c n' c' : Nat), (binOp .eql 25 (.slice a n c) (.slice none n' c')).run Try.prog w = .ok (.bool a.isNone) w := fun w a n c n' c' => Lib.run_eql_slice_nil w _ _ a n c n' c' Try.underlying25
    go_enter Try.func53, Try.ntmps53
    go_wp2_with (at_builtin; refine wpList_append_own _ rfl _ _ 25 rfl w.heap.size 3 i0 (.int .i64 0) 1 8 Try.underlying25 hi0 hz0 hz1 hz2 rfl (by decide) _ _ _ rfl (World.ownsRow_made w #[] 0 (Nat.le_refl _) (Nat.zero_le _) rfl) ad n c (intCells zs) rfl ?qc1 ?qc2 ?qc3 ?qc4 ?qc5 ?qc6 ?_)
    case qc1 => rw [intCells, List.length_map, HN.out]; omega
    case qc2 =>
      intro j u hj
      rw [intCells, List.getElem?_map] at hj
      cases hq : zs[j]? with
      | none => rw [hq] at hj; simp at hj
      | some z =>
        rw [hq] at hj
        simp only [Option.map_some, Option.some.injEq] at hj
        rcases HC.out with h0 | ⟨b, o, e, hz⟩
        · rw [h0] at hq; simp at hq
        · cases e
          have hadd : (⟨b, o, none⟩ : Addr).add j = ⟨b, o + j, none⟩ := by unfold Addr.add; split <;> simp_all
          rw [hadd, ← hj]
          exact (World.grownBy_alloc w _ none).cell (hz j z hq) (by simp)
    case qc3 => intro u hu; obtain ⟨x, _, rfl⟩ := List.mem_map.1 hu; rfl
    case qc4 => unfold maxLen; omega
    case qc5 => omega
    case qc6 => simp
    intro v' w1 hown hgrow hnil
    have hown' : w1.ownsRow w.heap.size 3 1 v' zs.length (intCells zs) := by rw [HN.out]; simpa using hown
    obtain ⟨a', c', rfl, hi⟩ := ints_span hown'
    have HR := Lib.hid hown'; clear hi hown hown' hnil
    have HG : Hid (w.grownBy w1 none) := Lib.hid (grown_own (World.grownBy_alloc w _ none) hgrow (fun k hk => by simp [Value.ownBlock] at hk; omega))
    clear hgrow
    rw [HN.out]
    go_wp2
    go_ret
    refine ⟨_, rfl, ?_, HG.out⟩
    have := HR.out
    rw [HN.out] at this
    exact this

/-- The numbers that an override deals with. -/
abbrev Sm := Fin 2001
abbrev smV (x : Sm) : Value := .int .i64 ((x.val : Nat) : Int)
def smL (zs : List Sm) : List Int := zs.map fun z => ((z.val : Nat) : Int)
theorem sm_of : ∀ {xs : List Int}, (∀ x ∈ xs, 0 ≤ x ∧ x ≤ 2000) → ∃ zs, xs = smL zs
  | [], _ => ⟨[], rfl⟩
  | x :: xs, h => by
    obtain ⟨zs, hz⟩ := sm_of (xs := xs) fun y hy => h y (List.mem_cons_of_mem _ hy)
    have hx := h x (List.mem_cons_self ..)
    exact ⟨⟨x.toNat, by omega⟩ :: zs, by rw [hz]; show x :: smL zs = ((x.toNat : Nat) : Int) :: smL zs; congr 1; omega⟩
def divL (r : Nat) (ys : List Int) : List Int := ys.map fun y => y / (r : Int)
theorem div_take {r : Nat} {ys : List Int} {i : Nat} {y : Int} (h : ys[i]? = some y) : divL r (ys.take (i + 1)) = divL r (ys.take i) ++ [y / (r : Int)] := by
  unfold divL
  rw [List.take_add_one, h]
  simp
def keepL (r : Nat) (xs ys : List Int) : List Int := xs.filter fun x => !decide (x / (r : Int) ∈ divL r ys)
abbrev overL (r : Nat) (xs ys : List Int) : List Int := unionL (keepL r xs ys) ys

set_option maxRecDepth 100000 in
set_option maxHeartbeats 2000000 in
/-- Is the tuple's first atom replaced? -/
theorem replaced_gives (mb rb M r : Nat) (T : List Int) (w : World) (x : Sm) (hr1 : 1 ≤ r) (hr2 : r ≤ 2000) (hset : SetM w M T) (hm : w.cell? ⟨mb, 0, none⟩ = some (.map (some M))) (hr : w.cell? ⟨rb, 0, none⟩ = some (.int .i64 (r : Int))) :
    FnGives Try.prog 54 #[.pointer (some ⟨mb, 0, none⟩), .pointer (some ⟨rb, 0, none⟩)] #[smV x] (.bool (decide (((x.val : Nat) : Int) / (r : Int) ∈ T))) w := by
  show Calls Try.prog 54 #[.int .i64 ((x.val : Nat) : Int), .pointer (some ⟨mb, 0, none⟩), .pointer (some ⟨rb, 0, none⟩)] w _
  obtain ⟨n, hn⟩ := x
  simp only
  obtain ⟨q, hq⟩ : ∃ q, n / r = q := ⟨_, rfl⟩
  have hqi : ((n : Nat) : Int) / (r : Int) = (q : Int) := by rw [← hq]; rfl
  have hq2 : q ≤ 2000 := by rw [← hq]; exact Nat.le_trans (Nat.div_le_self _ _) (by omega)
  have hwq : IntKind.i64.wrap (q : Int) = (q : Int) := IntWalk.i64_in _ (by omega)
  have hwf : (Lit.int .i64 (q : Int)).wf = true := wf64 (by omega) (by omega)
  have hr0 : r ≠ 0 := by omega
  obtain ⟨B, hB⟩ : ∃ B, decide ((q : Int) ∈ T) = B := ⟨_, rfl⟩
  have HSET := Lib.hid hset
  rw [hqi, hB]
  clear hset hq
  go_enter Try.func54, Try.ntmps54
  go_wp2_with fail
  have HS := Lib.hid (fun (Wh : World) (hWh : w.grownBy Wh none) => (⟨hWh, hWh.cell hm (by simp), hWh.cell hr (by simp)⟩ : (fun Wh : World => w.grownBy Wh none ∧ Wh.cell? ⟨mb, 0, none⟩ = some (.map (some M)) ∧ Wh.cell? ⟨rb, 0, none⟩ = some (.int .i64 (r : Int))) Wh))
  have hdr : w.grownBy w.drew none := ⟨rfl, rfl, rfl, Nat.le_refl _, fun _ _ _ => rfl⟩
  refine wp_region_held_drew (S := (fun Wh : World => w.grownBy Wh none ∧ Wh.cell? ⟨mb, 0, none⟩ = some (.map (some M)) ∧ Wh.cell? ⟨rb, 0, none⟩ = some (.int .i64 (r : Int)))) (by kernel_rfl) (HS.out _ hdr) (fun hHeld => ?_)
  refine wpAnyH_take (i := 0) (oi := { dst := some 5, op := Op.load 52 (Operand.tmp 1), type := 52, pos := "relation.go:168", after := #[], guard := none }) (v := ?_) rfl (by kernel_rfl) (by kernel_rfl) (by kernel_rfl) (fun _ _ _ h => h) (Or.inl ⟨by rfl, ?_⟩) (by assumption) ?_
  rotate_left 1
  · (intro W hSW; (try dsimp only at hSW); first | (go_simp; done) | (go_simp; with_reducible rfl))
  try simp only [Act.put, List.setIfInBounds_toArray, List.set_cons_zero, List.set_cons_succ]
  refine wpAnyH_take (i := 1) (oi := { dst := some 6, op := Op.move (Operand.tmp 0), type := 3, pos := "relation.go:168", after := #[], guard := none }) (v := ?_) rfl (by kernel_rfl) (by kernel_rfl) (by kernel_rfl) (fun _ _ _ h => h) (Or.inl ⟨by rfl, ?_⟩) (by assumption) ?_
  rotate_left 1
  · (intro W hSW; (try dsimp only at hSW); first | (go_simp; done) | (go_simp; with_reducible rfl))
  try simp only [Act.put, List.setIfInBounds_toArray, List.set_cons_zero, List.set_cons_succ]
  refine wpAnyH_take (i := 2) (oi := { dst := some 7, op := Op.load 3 (Operand.tmp 2), type := 3, pos := "relation.go:168", after := #[], guard := none }) (v := ?_) rfl (by kernel_rfl) (by kernel_rfl) (by kernel_rfl) (fun _ _ _ h => h) (Or.inl ⟨by rfl, ?_⟩) (by assumption) ?_
  rotate_left 1
  · (intro W hSW; (try dsimp only at hSW); first | (go_simp; done) | (go_simp; with_reducible rfl))
  try simp only [Act.put, List.setIfInBounds_toArray, List.set_cons_zero, List.set_cons_succ]
  refine wpAnyH_take (i := 3) (oi := { dst := some 8, op := Op.binOp BinOp.quo 3 (Operand.tmp 6) (Operand.tmp 7) 3, type := 3, pos := "relation.go:168", after := #[{ on := 1, ground := Ground.data }, { on := 2, ground := Ground.data }], guard := none }) (v := ?_) rfl (by kernel_rfl) (by kernel_rfl) (by kernel_rfl) (fun _ _ _ h => h) (Or.inl ⟨by rfl, ?_⟩) (by assumption) ?_
  rotate_left 1
  · (intro W hSW; (try dsimp only at hSW); first | (go_simp; done) | (go_simp; with_reducible rfl))
  try simp only [Act.put, List.setIfInBounds_toArray, List.set_cons_zero, List.set_cons_succ]
  refine wpAnyH_take (i := 4) (oi := { dst := some 9, op := Op.lookup 52 (Operand.tmp 5) (Operand.tmp 8) false, type := 4, pos := "relation.go:168", after := #[{ on := 0, ground := Ground.data }, { on := 3, ground := Ground.data }], guard := none }) (v := ?_) rfl (by kernel_rfl) (by kernel_rfl) (by kernel_rfl) (fun _ _ _ h => h) (Or.inl ⟨by rfl, ?_⟩) (by assumption) ?_
  rotate_left 1
  · (intro W hSW; (try dsimp only at hSW); have hlk := (HSET.out.grown hSW.1 (by simp)).look hwf; rw [hB] at hlk; first | (go_simp; done) | (go_simp; with_reducible rfl))
  try simp only [Act.put, List.setIfInBounds_toArray, List.set_cons_zero, List.set_cons_succ]
  refine wpAnyH_take (i := 5) (oi := { dst := some 4, op := Op.assign (Operand.tmp 9), type := 4, pos := "relation.go:168", after := #[{ on := 4, ground := Ground.data }, { on := 0, ground := Ground.phase }, { on := 1, ground := Ground.phase }, { on := 2, ground := Ground.phase }, { on := 3, ground := Ground.phase }, { on := 4, ground := Ground.phase }], guard := none }) (v := ?_) rfl (by kernel_rfl) (by kernel_rfl) (by kernel_rfl) (fun _ _ _ h => h) (Or.inl ⟨by rfl, ?_⟩) (by assumption) ?_
  rotate_left 1
  · (intro W hSW; (try dsimp only at hSW); first | (go_simp; done) | (go_simp; with_reducible rfl))
  try simp only [Act.put, List.setIfInBounds_toArray, List.set_cons_zero, List.set_cons_succ]
  refine wpAnyH_done (by kernel_rfl) ?_ _
  have hEND := hdr
  clear hHeld
  go_wp2_with fail
  go_ret
  exact ⟨rfl, 1, rfl⟩
theorem sm_pred (mb rb M r : Nat) (T : List Int) (w : World) (hr1 : 1 ≤ r) (hr2 : r ≤ 2000) (hset : SetM w M T) (hm : w.cell? ⟨mb, 0, none⟩ = some (.map (some M))) (hr : w.cell? ⟨rb, 0, none⟩ = some (.int .i64 (r : Int))) :
    PredAt Try.prog 54 #[.pointer (some ⟨mb, 0, none⟩), .pointer (some ⟨rb, 0, none⟩)] smV (fun x => decide (((x.val : Nat) : Int) / (r : Int) ∈ T)) w := fun W x hb =>
  have g := grown_of_below hb
  replaced_gives mb rb M r T W x hr1 hr2 (hset.grown g (by simp)) (g.cell hm (by simp)) (g.cell hr (by simp))
/-- A row put, new blocks made: the row's block alone has turned. -/
theorem sort_grown (w : World) (blk off m : Nat) (d : Array Sm) (os : Array Obj) : w.grownBy (sortWorld smV w blk off m d os) (some blk) :=
  ⟨rfl, rfl, rfl, by simp [sortWorld, grow, Sort.ahead], fun k hk hne => by
    rw [sortWorld, heap_grow_old _ _ (by simpa [Sort.ahead] using hk)]
    show ((Sort.ahead w m).heap.modify blk _)[k]? = w.heap[k]?
    rw [Array.getElem?_modify, if_neg (fun e => hne (by rw [e]))]
    rfl⟩
theorem sm_over (mb rb M r : Nat) (T : List Int) (w : World) (blk off sz : Nat) (hr1 : 1 ≤ r) (hr2 : r ≤ 2000) (hset : SetM w M T) (hm : w.cell? ⟨mb, 0, none⟩ = some (.map (some M))) (hr : w.cell? ⟨rb, 0, none⟩ = some (.int .i64 (r : Int))) (hne : M ≠ blk ∧ mb ≠ blk ∧ rb ≠ blk) :
    PredOver Try.prog 54 #[.pointer (some ⟨mb, 0, none⟩), .pointer (some ⟨rb, 0, none⟩)] smV (fun x => decide (((x.val : Nat) : Int) / (r : Int) ∈ T)) blk off sz w := fun m os dk x _ =>
  have g := sort_grown w blk off m dk os
  replaced_gives mb rb M r T _ x hr1 hr2 (hset.grown g (by simp [hne.1])) (g.cell hm (by simp [hne.2.1])) (g.cell hr (by simp [hne.2.2]))

theorem delA_empty (p : Option Addr) (c : Nat) (fv : Value) (w : World) : Calls Try.prog 52 #[.slice p 0 c, fv] w fun e w' => e = .returned (.slice p 0 c) ∧ w' = w := by
  have h6 : SlLaysH.n6 Try.prog Try.delA_ren := { Try.delA with }
  have hE := AnyE.slices_IndexFunc_empty h6 p c fv
  change ∀ w, Calls Try.prog 58 _ _ _ at hE
  go_enter Try.func52, Try.ntmps52
  go_wp2_with (go_at_call 58; refine (hE _).mono ?_; rintro e w' ⟨rfl, rfl⟩)
  go_ret
  exact ⟨rfl, rfl⟩

/-- DeleteFunc over a row that the call owns. -/
theorem delete_calls (zs : List Sm) (v : Value) (B mb rb M r : Nat) (T : List Int) (w : World) (hown : w.ownsRow B 3 1 v zs.length (intCells (smL zs))) (hB : M < B ∧ mb < B ∧ rb < B) (hr1 : 1 ≤ r) (hr2 : r ≤ 2000) (hset : SetM w M T) (hm : w.cell? ⟨mb, 0, none⟩ = some (.map (some M))) (hr : w.cell? ⟨rb, 0, none⟩ = some (.int .i64 (r : Int))) (hl : zs.length ≤ 100000) :
    Calls Try.prog 52 #[v, .func (.func 54) #[] #[.pointer (some ⟨mb, 0, none⟩), .pointer (some ⟨rb, 0, none⟩)]] w fun e w' => ∃ a c, e = .returned (.slice a (smL (zs.filter fun x => !decide (((x.val : Nat) : Int) / (r : Int) ∈ T))).length c) ∧ IntsW w' a c (smL (zs.filter fun x => !decide (((x.val : Nat) : Int) / (r : Int) ∈ T))) ∧ ∃ k, w.grownBy w' k ∧ ∀ x, k = some x → B ≤ x := by
  have hown2 := hown
  rcases hown.2 with ⟨rfl, hz⟩ | ⟨g, cap, cur, rfl, hb, hg, h1, h2, h3, h4⟩
  · obtain rfl : zs = [] := List.eq_nil_of_length_eq_zero hz
    refine (delA_empty none 0 _ w).mono ?_
    rintro e w' ⟨rfl, rfl⟩
    exact ⟨none, 0, rfl, intsW_nil _ _ _, none, grown_refl _ _, fun x e => by cases e⟩
  · have hgl := (hown.lt g rfl).2
    have hcell : ∀ j z, zs[j]? = some z → w.cell? ⟨g, 0 + j, none⟩ = some (smV z) := fun j z hj => by
      have h := World.ownsRow.cells hown (g := g) rfl j (smV z) (by rw [intCells, List.getElem?_map, smL, List.getElem?_map, hj]; rfl)
      rw [add_at] at h
      rw [Nat.zero_add]; exact h
    have hH : Holds smV w g 0 zs.toArray := fun j hj => by
      have hj' : j < zs.length := by simpa using hj
      refine ⟨?_, by rw [Nat.zero_add]; exact hown.frozenAt j⟩
      rw [hcell j zs[j] (List.getElem?_eq_getElem hj')]
      congr 2
      simp [getElem!_pos, hj']
    have eg : ∀ args w, (callFunc 54 args).run Try.prog w = .ok (.enter 54 args) w := enters_of Try.func54 (by kernel_rfl) rfl
    have hcon := AnyE.slices_DeleteFunc Try.delA smV (fun _ => rfl) (fun x => decide (((x.val : Nat) : Int) / (r : Int) ∈ T)) 54 #[.pointer (some ⟨mb, 0, none⟩), .pointer (some ⟨rb, 0, none⟩)] eg (0 : Sm) Try.zeroValue3 g 0 cap zs.toArray w
      (sm_pred mb rb M r T w hr1 hr2 hset hm hr) (sm_over mb rb M r T w g 0 _ hr1 hr2 hset hm hr ⟨by omega, by omega, by omega⟩) hH (by simp; omega) (by simpa using h1)
    change Calls Try.prog 52 _ _ _ at hcon
    simp only [List.size_toArray] at hcon
    refine hcon.mono ?_
    rintro e w' ⟨rfl, q, rfl⟩
    obtain ⟨R, hR⟩ : ∃ R, (zs.filter fun x => !decide (((x.val : Nat) : Int) / (r : Int) ∈ T)) = R := ⟨_, rfl⟩
    have hRl : R.length ≤ zs.length := by rw [← hR]; exact List.length_filter_le _ _
    simp only [hR]
    have hput := holds_putRow smV (Sort.ahead w q) g 0 zs.toArray (R ++ List.replicate (zs.length - R.length) 0).toArray (fun j hj => hH j hj) (by simp; omega)
    have hgr := sort_grown w g 0 q (R ++ List.replicate (zs.length - R.length) 0).toArray #[]
    have he : sortWorld smV w g 0 q (R ++ List.replicate (zs.length - R.length) 0).toArray #[] = putRow smV (Sort.ahead w q) g 0 (R ++ List.replicate (zs.length - R.length) 0).toArray := by simp [sortWorld, grow]; rfl
    rw [he] at hgr
    refine ⟨some ⟨g, 0, none⟩, cap, by rw [show (smL R).length = R.length by simp [smL]], ⟨by simp [smL]; omega, .inr ⟨g, 0, rfl, fun j z hj => ?_⟩⟩, some g, hgr, fun x e => by cases e; exact hb⟩
    rw [smL, List.getElem?_map] at hj
    cases hq : R[j]? with
    | none => rw [hq] at hj; simp at hj
    | some y =>
      rw [hq] at hj
      simp at hj
      have hjl : j < R.length := (List.getElem?_eq_some_iff.1 hq).1
      have := (hput j (by simp; omega)).1
      rw [this, ← hj]
      congr 2
      have e1 : (R ++ List.replicate (zs.length - R.length) (0 : Sm))[j]? = some y := by rw [List.getElem?_append_left hjl]; exact hq
      simp [e1]
end Go.Proofs.Ytkoigonbncpbaaa

/- The reference puts a number into a row; rows put in order; the union of two. -/
import Derived.Test.YtbddpjofhddilaaYB
namespace Go.Proofs.Ytbddpjofhddilaa
open Go.RowKit

theorem slice_take {l : List Int} {a : Option Addr} {c k q : Nat} {w : World} (h : IntsW w a c l) (hk : l.length = k) (hq : q ≤ k) :
    (∀ w, (Instr.slice 28 (.slice a k c) none (some (.int .i64 (q : Int))) none).run Try.prog w = .ok (.slice a q c) w) ∧ IntsW w a c (l.take q) := by
  have hkc : k ≤ c := by rw [← hk]; exact h.1
  refine ⟨?_, Nat.le_trans (by rw [List.length_take]; omega) h.1, ?_⟩
  · intro w
    have a3 : (q : Int) ≤ (c : Int) := by omega
    have a4 : q ≤ c := by omega
    have a5 : (0 : Int) ≤ (q : Int) := by omega
    cases a with
    | none =>
      rcases h.2 with h0 | ⟨b, o, e, _⟩
      · subst h0
        obtain rfl : 0 = k := hk
        obtain rfl : q = 0 := by omega
        go_simp
      · cases e
    | some ad => go_simp
  · rcases h.2 with h0 | ⟨b, o, e, hz⟩
    · subst h0; exact .inl (by simp)
    · exact .inr ⟨b, o, e, fun j z hj => hz j z (by rw [List.getElem?_take] at hj; split at hj <;> first | exact hj | cases hj)⟩
theorem slice_drop {l : List Int} {a : Option Addr} {c k q : Nat} {w : World} (h : IntsW w a c l) (hk : l.length = k) (hq : q ≤ k) :
    ∃ a' c', (∀ w, (Instr.slice 28 (.slice a k c) (some (.int .i64 (q : Int))) none none).run Try.prog w = .ok (.slice a' (k - q) c') w) ∧ IntsW w a' c' (l.drop q) := by
  have hkc : k ≤ c := by rw [← hk]; exact h.1
  have a3 : (q : Int) ≤ (k : Int) := by omega
  cases a with
  | none =>
    rcases h.2 with h0 | ⟨b, o, e, _⟩
    · subst h0
      obtain rfl : 0 = k := hk
      obtain rfl : q = 0 := by omega
      exact ⟨none, c, fun w => by go_simp, Nat.zero_le _, .inl rfl⟩
    · cases e
  | some ad =>
    by_cases hqc : c = q
    · obtain rfl : q = k := by omega
      subst hqc
      refine ⟨some ad, 0, fun w => by go_simp, by simp [hk], .inl ?_⟩
      rw [← hk, List.drop_length]
    · rcases h.2 with h0 | ⟨b, o, e, hz⟩
      · subst h0
        obtain rfl : 0 = k := hk
        obtain rfl : q = 0 := by omega
        refine ⟨some (ad.add 0), c, fun w => ?_, Nat.zero_le _, .inl rfl⟩
        have : ¬ (c = 0) := hqc
        go_simp
      · cases e
        refine ⟨some ⟨b, o + q, none⟩, c - q, fun w => ?_, by rw [List.length_drop]; omega, .inr ⟨b, o + q, rfl, fun j z hj => ?_⟩⟩
        · have a4 : q ≤ k := hq
          go_simp
        · rw [List.getElem?_drop] at hj
          have := hz (q + j) z hj
          rw [Nat.add_assoc]; exact this
theorem run_append_nil {w : World} {base n : Nat} {v : Value} {xs : List Value} (hown : w.ownsRow base 3 1 v n xs) (ty : TypeId) (c : Nat) : (Builtin.append_ #[28, 28] ty #[v, .slice none 0 c]).run Try.prog w = .ok v w := by
  obtain ⟨i0, hi, hz0, hz1, hz2⟩ := info_parts info3
  rcases hown.2 with ⟨rfl, rfl⟩ | ⟨g, cap, cur, rfl, _, _, hnc, _⟩
  · simp [Builtin.append_, run_underlying Try.underlying28, sizeOf, typeInfo, hi, Builtin.lenOf, Builtin.firstCells]
  · simp [Builtin.append_, run_underlying Try.underlying28, sizeOf, typeInfo, hi, Builtin.lenOf, Builtin.firstCells, hnc, storeCells]
theorem intCells_len (l : List Int) : (intCells l).length = l.length := by rw [intCells, List.length_map]
/-- A row of numbers appended whole to a row of one's own: the row may be nil. -/
theorem append_ints {ops : Array Oper} {rest : List Oper} {o : Oper} {a : Act} {Q : Exit → Act → World → Prop} {w : World} (hgd : o.guard = none) (s x : Operand)
    (ho : o.op = .call { callee := .builtin .append, args := #[s, x], argTypes := #[28, 28] })
    (base : Nat) (v : Value) (n : Nat) (l : List Int) (hs : a.eval s = v) (hown : w.ownsRow base 3 1 v n (intCells l))
    (xa : Option Addr) (m c : Nat) (news : List Int) (hx : a.eval x = .slice xa m c) (hm : news.length = m) (hi : IntsW w xa c news)
    (h63 : n + m ≤ 1000000) (hbase : base ≤ w.heap.size)
    (h : ∀ v' w', w'.ownsRow base 3 1 v' (n + m) (intCells (l ++ news)) → w.grownBy w' v.ownBlock → wpList Try.prog ops Q rest (a.put o.dst v') w') : wpList Try.prog ops Q (o :: rest) a w := by
  obtain ⟨i0, hi0, hz0, hz1, hz2⟩ := info_parts info3
  have hap : intCells (l ++ news) = intCells l ++ intCells news := by rw [intCells, intCells, intCells, List.map_append]
  cases xa with
  | none =>
    have h0 : news = [] := by
      rcases hi.2 with h0 | ⟨_, _, e, _⟩
      · exact h0
      · cases e
    subst h0
    obtain rfl : 0 = m := hm
    refine wpList_plain hgd fun K hK => ?_
    have hrun := run_append_nil hown o.type c
    unfold Oper.wp
    simp [execOp, ho, resolve, invoke, builtin, hs, hx, hrun, Result.andThen]
    refine hK _ _ (h v w (by rw [List.append_nil]; exact hown) ?_)
    exact ⟨rfl, rfl, rfl, Nat.le_refl _, fun _ _ _ => rfl⟩
  | some ad =>
    refine wpList_append_own w hgd s x 28 ho base 3 i0 (.int .i64 0) 1 8 Try.underlying28 hi0 hz0 hz1 hz2 rfl (by decide) v n (intCells l) hs hown ad m c (intCells news) hx (by rw [intCells_len, hm, Nat.mul_one]) ?_ ?_ (by unfold maxLen; omega) (by omega) hbase (fun v' w' h1 h2 _ => h v' w' (by rw [hap]; exact h1) h2)
    · intro j u hj
      rw [intCells, List.getElem?_map] at hj
      cases hq : news[j]? with
      | none => rw [hq] at hj; simp at hj
      | some z =>
        rw [hq] at hj
        simp only [Option.map_some, Option.some.injEq] at hj
        rcases hi.2 with h0 | ⟨b, o, e, hz⟩
        · rw [h0] at hq; simp at hq
        · cases e
          have hadd : (⟨b, o, none⟩ : Addr).add j = ⟨b, o + j, none⟩ := by unfold Addr.add; split <;> simp_all
          rw [hadd, ← hj]
          exact hz j z hq
    · intro u hu
      obtain ⟨x, _, rfl⟩ := List.mem_map.1 hu
      rfl
theorem intsW_one (w : World) (z : Int) : IntsW (w.alloc (.cells #[.int .i64 z] 3)) (some ⟨w.heap.size, 0, none⟩) 1 [z] := ⟨Nat.le_refl _, .inr ⟨_, _, rfl, fun j u hj => by
  match j, hj with
  | 0, hj => simp at hj; subst hj; go_simp⟩⟩

set_option maxRecDepth 100000 in
set_option maxHeartbeats 8000000 in
theorem add_calls (l : List Int) (a : Option Addr) (c lo : Nat) (z : Int) (w : World) (h : Span lo w.heap.size w (fun W => IntsW W a c l)) (hlo : lo ≤ w.heap.size) (hl : l.length ≤ 10000) (hu : Up l) :
    Calls Try.prog 133 #[.slice a l.length c, .int .i64 z] w fun e w' => ∃ a' c', e = .returned (.slice a' (addL l z).length c') ∧ Span lo w'.heap.size w' (fun W => IntsW W a' c' (addL l z)) ∧ w.grownBy w' none := by
  obtain ⟨n, hn⟩ : ∃ n, l.length = n := ⟨_, rfl⟩
  rw [hn] at hl ⊢
  have hc : n ≤ c := by rw [← hn]; exact h.here.1
  have HN := Lib.hid (And.intro hn (And.intro h (And.intro hu hlo))); clear hn h hu hlo
  go_enter Try.func133, Try.ntmps133
  go_wp2_with fail
  go_loopg [5] n (fun g s5 wr => ∃ k : Nat, s5 = .int .i64 (k : Int) ∧ g = k ∧ k ≤ n ∧ (∀ (j : Nat) (y : Int), k ≤ j → l[j]? = some y → z ≤ y) ∧ wr = w)
  case atStart => exact ⟨n, rfl, rfl, Nat.le_refl _, fun j y hj hy => by have := (List.getElem?_eq_some_iff.1 hy).1; rw [HN.out.1] at this; omega, rfl⟩
  case round =>
    obtain ⟨k, rfl, hgi, hi, hok, rfl⟩ := hrel
    have HI := Lib.hid (And.intro hgi hok); clear hgi hok
    cases k with
    | zero =>
      obtain ⟨k, hk⟩ : ∃ k : Nat, k = 0 := ⟨_, rfl⟩
      have HBE : Hid (∀ (j : Nat) (y : Int), j < k → l[j]? = some y → y < z) := Lib.hid (fun j y hj => by omega)
      replace HI : Hid (∀ (j : Nat) (y : Int), k ≤ j → l[j]? = some y → z ≤ y) := Lib.hid (by rw [hk]; exact HI.out.2)
      have hkn : k ≤ n := by omega
      have f1 : decide (0 < (k : Int)) = false := by simp; omega
      have f2 : decide (0 < k) = false := by simp; omega
      rw [show ((0 : Nat) : Int) = (k : Int) by rw [hk]]
      clear hk hi
      by_cases hkl : k < n
      · have b0 : decide (k < n) = true := decide_eq_true hkl
        have bI : (k : Int) < (n : Int) := by omega
        obtain ⟨u, hu⟩ : ∃ u, l[k]? = some u := ⟨_, List.getElem?_eq_getElem (by rw [HN.out.1]; exact hkl)⟩
        obtain ⟨b, o, rfl, hcell⟩ := HN.out.2.1.here.at hu
        by_cases huz : u = z
        · have b1 : (u == z) = true := by simpa using huz
          have HR : Hid (addL l z = l) := Lib.hid (addL_has HN.out.2.2.1 (huz ▸ List.mem_of_getElem? hu))
          clear hu huz
          go_wp2_with fail
          go_ret
          exact ⟨_, _, by rw [HR.out, HN.out.1]; rfl, by rw [HR.out]; exact HN.out.2.1, grown_refl _ _⟩
        · have b1 : (u == z) = false := by simpa using huz
          have HC : Hid (addL l z = l.take k ++ [z] ++ l.drop k) := Lib.hid (addL_cut HN.out.2.2.1 HBE.out (fun j y hj hy => by
            by_cases hjk : j = k
            · subst hjk
              have h1 := HI.out j y hj hy
              rw [hu] at hy
              cases hy
              omega
            · have h1 := up_get HN.out.2.2.1 (show k < j by omega) hu hy
              have h2 := HI.out k u (Nat.le_refl _) hu
              omega))
          clear hu huz
          obtain ⟨hs1, hi1⟩ := slice_take HN.out.2.1.here HN.out.1 hkn
          obtain ⟨a3, c3, hs3, hi3⟩ := slice_drop HN.out.2.1.here HN.out.1 hkn
          have HI1 := Lib.hid (And.intro (show (l.take k).length = k by rw [List.length_take, HN.out.1]; omega) hi1); clear hi1
          have HI3 := Lib.hid (And.intro (show (l.drop k).length = n - k by rw [List.length_drop, HN.out.1]) hi3); clear hi3
          go_wp2_with (at_builtin; refine append_ints rfl _ _ rfl wr.heap.size _ 0 [] rfl (World.ownsRow_made wr #[] 0 (Nat.le_refl _) (Nat.zero_le _) rfl) (some ⟨b, o, none⟩) k c (l.take k) rfl HI1.out.1 (HI1.out.2.grown (World.grownBy_alloc wr _ none)) (by omega) (World.grownBy.size (World.grownBy_alloc wr (.cells #[] 3) none)) ?_)
          intro v1 x1 ho1 hg1
          replace ho1 : x1.ownsRow wr.heap.size 3 1 v1 k (intCells (l.take k)) := by simpa [intCells] using ho1
          obtain ⟨va1, vc1, rfl⟩ := own_shape ho1
          have HO1 := Lib.hid ho1; clear ho1
          have HG1 : Hid (wr.grownBy x1 none) := Lib.hid (grown_own (World.grownBy_alloc wr _ none) hg1 (fun k hk => by simp [Value.ownBlock] at hk; omega))
          clear hg1
          go_wp2_with (at_builtin; refine append_ints rfl _ _ rfl wr.heap.size _ k (l.take k) rfl (HO1.out.alloc _) (some ⟨x1.heap.size, 0, none⟩) 1 1 [z] rfl rfl (intsW_one x1 z) (by omega) (Nat.le_trans HG1.out.size (World.grownBy.size (World.grownBy_alloc x1 (.cells #[.int .i64 z] 3) none))) ?_)
          intro v2 x2 ho2 hg2
          replace ho2 : x2.ownsRow wr.heap.size 3 1 v2 (k + 1) (intCells (l.take k ++ [z])) := by simpa [intCells] using ho2
          obtain ⟨va2, vc2, rfl⟩ := own_shape ho2
          have HO2 := Lib.hid ho2; clear ho2
          have HG2 : Hid (wr.grownBy x2 none) := Lib.hid (grown_own (HG1.out.trans (World.grownBy_alloc x1 _ none)) hg2 (fun k hk => (HO1.out.lt k hk).1))
          clear hg2
          go_wp2_with (at_builtin; refine append_ints rfl _ _ rfl wr.heap.size _ (k + 1) (l.take k ++ [z]) rfl HO2.out a3 (n - k) c3 (l.drop k) rfl HI3.out.1 (HI3.out.2.grown HG2.out) (by omega) HG2.out.size ?_)
          intro v3 x3 ho3 hg3
          replace ho3 : x3.ownsRow wr.heap.size 3 1 v3 (k + 1 + (n - k)) (intCells (l.take k ++ [z] ++ l.drop k)) := by simpa [intCells] using ho3
          have hlen : (addL l z).length = k + 1 + (n - k) := by rw [HC.out]; simp only [List.length_append, List.length_take, List.length_drop, List.length_cons, List.length_nil, HN.out.1]; omega
          rw [← HC.out, ← hlen] at ho3
          obtain ⟨a', c', rfl, hi'⟩ := ints_span ho3
          have HR := Lib.hid (And.intro hi' (grown_own HG2.out hg3 (fun k hk => (HO2.out.lt k hk).1)))
          clear hi' ho3 hg3
          obtain ⟨q, hq⟩ : ∃ q, (addL l z).length = q := ⟨_, rfl⟩
          rw [hq]
          clear hlen hs1 hs3
          go_wp2_with fail
          go_ret
          exact ⟨a', c', by rw [hq]; rfl, (HR.out.1.map (fun _ h => h.weak)).wide HN.out.2.2.2 (Nat.le_refl _) (Nat.le_refl _), HR.out.2⟩
      · have b0 : decide (k < n) = false := decide_eq_false hkl
        have HC : Hid (addL l z = l.take k ++ [z] ++ l.drop k) := Lib.hid (addL_cut HN.out.2.2.1 HBE.out (fun j y hj hy => by
          have := (List.getElem?_eq_some_iff.1 hy).1
          rw [HN.out.1] at this
          omega))
        obtain ⟨hs1, hi1⟩ := slice_take HN.out.2.1.here HN.out.1 hkn
        obtain ⟨a3, c3, hs3, hi3⟩ := slice_drop HN.out.2.1.here HN.out.1 hkn
        have HI1 := Lib.hid (And.intro (show (l.take k).length = k by rw [List.length_take, HN.out.1]; omega) hi1); clear hi1
        have HI3 := Lib.hid (And.intro (show (l.drop k).length = n - k by rw [List.length_drop, HN.out.1]) hi3); clear hi3
        go_wp2_with (at_builtin; refine append_ints rfl _ _ rfl wr.heap.size _ 0 [] rfl (World.ownsRow_made wr #[] 0 (Nat.le_refl _) (Nat.zero_le _) rfl) a k c (l.take k) rfl HI1.out.1 (HI1.out.2.grown (World.grownBy_alloc wr _ none)) (by omega) (World.grownBy.size (World.grownBy_alloc wr (.cells #[] 3) none)) ?_)
        intro v1 x1 ho1 hg1
        replace ho1 : x1.ownsRow wr.heap.size 3 1 v1 k (intCells (l.take k)) := by simpa [intCells] using ho1
        obtain ⟨va1, vc1, rfl⟩ := own_shape ho1
        have HO1 := Lib.hid ho1; clear ho1
        have HG1 : Hid (wr.grownBy x1 none) := Lib.hid (grown_own (World.grownBy_alloc wr _ none) hg1 (fun k hk => by simp [Value.ownBlock] at hk; omega))
        clear hg1
        go_wp2_with (at_builtin; refine append_ints rfl _ _ rfl wr.heap.size _ k (l.take k) rfl (HO1.out.alloc _) (some ⟨x1.heap.size, 0, none⟩) 1 1 [z] rfl rfl (intsW_one x1 z) (by omega) (Nat.le_trans HG1.out.size (World.grownBy.size (World.grownBy_alloc x1 (.cells #[.int .i64 z] 3) none))) ?_)
        intro v2 x2 ho2 hg2
        replace ho2 : x2.ownsRow wr.heap.size 3 1 v2 (k + 1) (intCells (l.take k ++ [z])) := by simpa [intCells] using ho2
        obtain ⟨va2, vc2, rfl⟩ := own_shape ho2
        have HO2 := Lib.hid ho2; clear ho2
        have HG2 : Hid (wr.grownBy x2 none) := Lib.hid (grown_own (HG1.out.trans (World.grownBy_alloc x1 _ none)) hg2 (fun k hk => (HO1.out.lt k hk).1))
        clear hg2
        go_wp2_with (at_builtin; refine append_ints rfl _ _ rfl wr.heap.size _ (k + 1) (l.take k ++ [z]) rfl HO2.out a3 (n - k) c3 (l.drop k) rfl HI3.out.1 (HI3.out.2.grown HG2.out) (by omega) HG2.out.size ?_)
        intro v3 x3 ho3 hg3
        replace ho3 : x3.ownsRow wr.heap.size 3 1 v3 (k + 1 + (n - k)) (intCells (l.take k ++ [z] ++ l.drop k)) := by simpa [intCells] using ho3
        have hlen : (addL l z).length = k + 1 + (n - k) := by rw [HC.out]; simp only [List.length_append, List.length_take, List.length_drop, List.length_cons, List.length_nil, HN.out.1]; omega
        rw [← HC.out, ← hlen] at ho3
        obtain ⟨a', c', rfl, hi'⟩ := ints_span ho3
        have HR := Lib.hid (And.intro hi' (grown_own HG2.out hg3 (fun k hk => (HO2.out.lt k hk).1)))
        clear hi' ho3 hg3
        obtain ⟨q, hq⟩ : ∃ q, (addL l z).length = q := ⟨_, rfl⟩
        rw [hq]
        clear hlen hs1 hs3
        go_wp2_with fail
        go_ret
        exact ⟨a', c', by rw [hq]; rfl, (HR.out.1.map (fun _ h => h.weak)).wide HN.out.2.2.2 (Nat.le_refl _) (Nat.le_refl _), HR.out.2⟩
    | succ j =>
      obtain ⟨y, hy⟩ : ∃ y, l[j]? = some y := ⟨_, List.getElem?_eq_getElem (by rw [HN.out.1]; omega)⟩
      obtain ⟨b, o, rfl, hcell⟩ := HN.out.2.1.here.at hy
      have hj0 : (0 : Int) ≤ (j : Int) := by omega
      have hj3 : (j : Int) < (n : Int) := by omega
      have hwj : IntKind.i64.wrap (j : Int) = (j : Int) := IntWalk.i64_in _ (by omega)
      have f1 : decide (0 < (j : Int) + 1) = true := decide_eq_true (by omega)
      by_cases hzy : z ≤ y
      · have f2 : decide (z ≤ y) = true := decide_eq_true hzy
        have HS : Hid (∀ (i : Nat) (x : Int), j ≤ i → l[i]? = some x → z ≤ x) := Lib.hid (fun i x hi hx => by
          by_cases hij : i = j
          · subst hij; rw [hy] at hx; cases hx; exact hzy
          · exact HI.out.2 i x (by omega) hx)
        clear hy hzy
        go_wp2_with fail
        go_roundg j
        case measure => rw [HI.out.1]; omega
        case rel => exact ⟨j, rfl, rfl, by omega, HS.out, rfl⟩
      · have f2 : decide (z ≤ y) = false := decide_eq_false hzy
        obtain ⟨k, hk⟩ : ∃ k : Nat, k = j + 1 := ⟨_, rfl⟩
        have HBE : Hid (∀ (i : Nat) (x : Int), i < k → l[i]? = some x → x < z) := Lib.hid (fun i x hi hx => by
          by_cases hij : i = j
          · subst hij; rw [hy] at hx; cases hx; omega
          · have := up_get HN.out.2.2.1 (show i < j by omega) hx hy; omega)
        replace HI : Hid (∀ (j : Nat) (y : Int), k ≤ j → l[j]? = some y → z ≤ y) := Lib.hid (by rw [hk]; exact HI.out.2)
        have hkn : k ≤ n := by omega
        have hkj : (k : Int) - 1 = (j : Int) := by omega
        have f3 : decide (0 < (k : Int)) = true := decide_eq_true (by omega)
        have f4 : decide (0 < k) = true := decide_eq_true (by omega)
        rw [show ((j + 1 : Nat) : Int) = (k : Int) by rw [hk]]
        clear hk hi hy hzy f1
        by_cases hkl : k < n
        · have b0 : decide (k < n) = true := decide_eq_true hkl
          have bI : (k : Int) < (n : Int) := by omega
          obtain ⟨u, hu⟩ : ∃ u, l[k]? = some u := ⟨_, List.getElem?_eq_getElem (by rw [HN.out.1]; exact hkl)⟩
          obtain ⟨b', o', e', hcell⟩ := HN.out.2.1.here.at hu
          injection e' with e'
          injection e' with e1 e2 _
          subst e1 e2
          by_cases huz : u = z
          · have b1 : (u == z) = true := by simpa using huz
            have HR : Hid (addL l z = l) := Lib.hid (addL_has HN.out.2.2.1 (huz ▸ List.mem_of_getElem? hu))
            clear hu huz
            go_wp2_with fail
            go_ret
            exact ⟨_, _, by rw [HR.out, HN.out.1]; rfl, by rw [HR.out]; exact HN.out.2.1, grown_refl _ _⟩
          · have b1 : (u == z) = false := by simpa using huz
            have HC : Hid (addL l z = l.take k ++ [z] ++ l.drop k) := Lib.hid (addL_cut HN.out.2.2.1 HBE.out (fun j y hj hy => by
              by_cases hjk : j = k
              · subst hjk
                have h1 := HI.out j y hj hy
                rw [hu] at hy
                cases hy
                omega
              · have h1 := up_get HN.out.2.2.1 (show k < j by omega) hu hy
                have h2 := HI.out k u (Nat.le_refl _) hu
                omega))
            clear hu huz
            obtain ⟨hs1, hi1⟩ := slice_take HN.out.2.1.here HN.out.1 hkn
            obtain ⟨a3, c3, hs3, hi3⟩ := slice_drop HN.out.2.1.here HN.out.1 hkn
            have HI1 := Lib.hid (And.intro (show (l.take k).length = k by rw [List.length_take, HN.out.1]; omega) hi1); clear hi1
            have HI3 := Lib.hid (And.intro (show (l.drop k).length = n - k by rw [List.length_drop, HN.out.1]) hi3); clear hi3
            go_wp2_with (at_builtin; refine append_ints rfl _ _ rfl wr.heap.size _ 0 [] rfl (World.ownsRow_made wr #[] 0 (Nat.le_refl _) (Nat.zero_le _) rfl) (some ⟨b, o, none⟩) k c (l.take k) rfl HI1.out.1 (HI1.out.2.grown (World.grownBy_alloc wr _ none)) (by omega) (World.grownBy.size (World.grownBy_alloc wr (.cells #[] 3) none)) ?_)
            intro v1 x1 ho1 hg1
            replace ho1 : x1.ownsRow wr.heap.size 3 1 v1 k (intCells (l.take k)) := by simpa [intCells] using ho1
            obtain ⟨va1, vc1, rfl⟩ := own_shape ho1
            have HO1 := Lib.hid ho1; clear ho1
            have HG1 : Hid (wr.grownBy x1 none) := Lib.hid (grown_own (World.grownBy_alloc wr _ none) hg1 (fun k hk => by simp [Value.ownBlock] at hk; omega))
            clear hg1
            go_wp2_with (at_builtin; refine append_ints rfl _ _ rfl wr.heap.size _ k (l.take k) rfl (HO1.out.alloc _) (some ⟨x1.heap.size, 0, none⟩) 1 1 [z] rfl rfl (intsW_one x1 z) (by omega) (Nat.le_trans HG1.out.size (World.grownBy.size (World.grownBy_alloc x1 (.cells #[.int .i64 z] 3) none))) ?_)
            intro v2 x2 ho2 hg2
            replace ho2 : x2.ownsRow wr.heap.size 3 1 v2 (k + 1) (intCells (l.take k ++ [z])) := by simpa [intCells] using ho2
            obtain ⟨va2, vc2, rfl⟩ := own_shape ho2
            have HO2 := Lib.hid ho2; clear ho2
            have HG2 : Hid (wr.grownBy x2 none) := Lib.hid (grown_own (HG1.out.trans (World.grownBy_alloc x1 _ none)) hg2 (fun k hk => (HO1.out.lt k hk).1))
            clear hg2
            go_wp2_with (at_builtin; refine append_ints rfl _ _ rfl wr.heap.size _ (k + 1) (l.take k ++ [z]) rfl HO2.out a3 (n - k) c3 (l.drop k) rfl HI3.out.1 (HI3.out.2.grown HG2.out) (by omega) HG2.out.size ?_)
            intro v3 x3 ho3 hg3
            replace ho3 : x3.ownsRow wr.heap.size 3 1 v3 (k + 1 + (n - k)) (intCells (l.take k ++ [z] ++ l.drop k)) := by simpa [intCells] using ho3
            have hlen : (addL l z).length = k + 1 + (n - k) := by rw [HC.out]; simp only [List.length_append, List.length_take, List.length_drop, List.length_cons, List.length_nil, HN.out.1]; omega
            rw [← HC.out, ← hlen] at ho3
            obtain ⟨a', c', rfl, hi'⟩ := ints_span ho3
            have HR := Lib.hid (And.intro hi' (grown_own HG2.out hg3 (fun k hk => (HO2.out.lt k hk).1)))
            clear hi' ho3 hg3
            obtain ⟨q, hq⟩ : ∃ q, (addL l z).length = q := ⟨_, rfl⟩
            rw [hq]
            clear hlen hs1 hs3
            go_wp2_with fail
            go_ret
            exact ⟨a', c', by rw [hq]; rfl, (HR.out.1.map (fun _ h => h.weak)).wide HN.out.2.2.2 (Nat.le_refl _) (Nat.le_refl _), HR.out.2⟩
        · have b0 : decide (k < n) = false := decide_eq_false hkl
          have HC : Hid (addL l z = l.take k ++ [z] ++ l.drop k) := Lib.hid (addL_cut HN.out.2.2.1 HBE.out (fun j y hj hy => by
            have := (List.getElem?_eq_some_iff.1 hy).1
            rw [HN.out.1] at this
            omega))
          obtain ⟨hs1, hi1⟩ := slice_take HN.out.2.1.here HN.out.1 hkn
          obtain ⟨a3, c3, hs3, hi3⟩ := slice_drop HN.out.2.1.here HN.out.1 hkn
          have HI1 := Lib.hid (And.intro (show (l.take k).length = k by rw [List.length_take, HN.out.1]; omega) hi1); clear hi1
          have HI3 := Lib.hid (And.intro (show (l.drop k).length = n - k by rw [List.length_drop, HN.out.1]) hi3); clear hi3
          go_wp2_with (at_builtin; refine append_ints rfl _ _ rfl wr.heap.size _ 0 [] rfl (World.ownsRow_made wr #[] 0 (Nat.le_refl _) (Nat.zero_le _) rfl) (some ⟨b, o, none⟩) k c (l.take k) rfl HI1.out.1 (HI1.out.2.grown (World.grownBy_alloc wr _ none)) (by omega) (World.grownBy.size (World.grownBy_alloc wr (.cells #[] 3) none)) ?_)
          intro v1 x1 ho1 hg1
          replace ho1 : x1.ownsRow wr.heap.size 3 1 v1 k (intCells (l.take k)) := by simpa [intCells] using ho1
          obtain ⟨va1, vc1, rfl⟩ := own_shape ho1
          have HO1 := Lib.hid ho1; clear ho1
          have HG1 : Hid (wr.grownBy x1 none) := Lib.hid (grown_own (World.grownBy_alloc wr _ none) hg1 (fun k hk => by simp [Value.ownBlock] at hk; omega))
          clear hg1
          go_wp2_with (at_builtin; refine append_ints rfl _ _ rfl wr.heap.size _ k (l.take k) rfl (HO1.out.alloc _) (some ⟨x1.heap.size, 0, none⟩) 1 1 [z] rfl rfl (intsW_one x1 z) (by omega) (Nat.le_trans HG1.out.size (World.grownBy.size (World.grownBy_alloc x1 (.cells #[.int .i64 z] 3) none))) ?_)
          intro v2 x2 ho2 hg2
          replace ho2 : x2.ownsRow wr.heap.size 3 1 v2 (k + 1) (intCells (l.take k ++ [z])) := by simpa [intCells] using ho2
          obtain ⟨va2, vc2, rfl⟩ := own_shape ho2
          have HO2 := Lib.hid ho2; clear ho2
          have HG2 : Hid (wr.grownBy x2 none) := Lib.hid (grown_own (HG1.out.trans (World.grownBy_alloc x1 _ none)) hg2 (fun k hk => (HO1.out.lt k hk).1))
          clear hg2
          go_wp2_with (at_builtin; refine append_ints rfl _ _ rfl wr.heap.size _ (k + 1) (l.take k ++ [z]) rfl HO2.out a3 (n - k) c3 (l.drop k) rfl HI3.out.1 (HI3.out.2.grown HG2.out) (by omega) HG2.out.size ?_)
          intro v3 x3 ho3 hg3
          replace ho3 : x3.ownsRow wr.heap.size 3 1 v3 (k + 1 + (n - k)) (intCells (l.take k ++ [z] ++ l.drop k)) := by simpa [intCells] using ho3
          have hlen : (addL l z).length = k + 1 + (n - k) := by rw [HC.out]; simp only [List.length_append, List.length_take, List.length_drop, List.length_cons, List.length_nil, HN.out.1]; omega
          rw [← HC.out, ← hlen] at ho3
          obtain ⟨a', c', rfl, hi'⟩ := ints_span ho3
          have HR := Lib.hid (And.intro hi' (grown_own HG2.out hg3 (fun k hk => (HO2.out.lt k hk).1)))
          clear hi' ho3 hg3
          obtain ⟨q, hq⟩ : ∃ q, (addL l z).length = q := ⟨_, rfl⟩
          rw [hq]
          clear hlen hs1 hs3
          go_wp2_with fail
          go_ret
          exact ⟨a', c', by rw [hq]; rfl, (HR.out.1.map (fun _ h => h.weak)).wide HN.out.2.2.2 (Nat.le_refl _) (Nat.le_refl _), HR.out.2⟩
end Go.Proofs.Ytbddpjofhddilaa

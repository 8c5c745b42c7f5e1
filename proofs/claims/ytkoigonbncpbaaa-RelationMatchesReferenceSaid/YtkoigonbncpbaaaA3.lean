/- Ported from stages 7 and 9: TV WV YA YD YE YJ. -/
import Derived.Test.YtkoigonbncpbaaaA2
namespace Go.Proofs.Ytkoigonbncpbaaa
open Go.RowKit

theorem up_at {l : List Int} (h : Up l) {i j : Nat} {x y : Int} (hij : i < j) (hx : l[i]? = some x) (hy : l[j]? = some y) : x < y := by
  obtain ⟨h1, rfl⟩ := List.getElem?_eq_some_iff.1 hx
  obtain ⟨h2, rfl⟩ := List.getElem?_eq_some_iff.1 hy
  exact List.pairwise_iff_getElem.1 h i j h1 h2 hij
set_option maxRecDepth 100000 in
set_option maxHeartbeats 4000000 in
theorem has_calls (k : Int) (zs : List Int) (a : Option Addr) (c : Nat) (z : Int) (w : World) (h : IntsW w a c zs) (hl : zs.length ≤ 1000000) (hu : Up zs) :
    Calls Try.prog 47 #[.agg #[.int .i64 k, .slice a zs.length c], .int .i64 z] w fun e w' => e = .returned (.bool (decide (z ∈ zs))) ∧ w.grownBy w' none := by
  obtain ⟨n, hn⟩ : ∃ n, zs.length = n := ⟨_, rfl⟩
  rw [hn] at hl ⊢
  have hg := World.grownBy_alloc w (.cells #[.int .i64 k, .slice a n c] 27) none
  have HN := Lib.hid (And.intro hn (And.intro (h.grown hg) hu)); clear hn h hu
  have k1 : (w.alloc (.cells #[.int .i64 k, .slice a n c] 27)).cell? ⟨w.heap.size, 1, none⟩ = some (.slice a n c) := by go_simp
  obtain ⟨W, hW⟩ : ∃ W, w.alloc (.cells #[.int .i64 k, .slice a n c] 27) = W := ⟨_, rfl⟩
  rw [hW] at hg HN k1
  have HG := Lib.hid hg; clear hg
  go_enter Try.func47, Try.ntmps47
  go_wp2_with fail
  clear hW
  go_loopg [5, 6, 7] n (fun g s5 s6 s7 wr => ∃ lo hi : Nat, s5 = .int .i64 (lo : Int) ∧ s6 = .int .i64 (hi : Int) ∧ g = hi - lo ∧ lo ≤ hi ∧ hi ≤ n ∧ (∀ (j : Nat) (y : Int), j < lo → zs[j]? = some y → y < z) ∧ (∀ (j : Nat) (y : Int), hi ≤ j → zs[j]? = some y → z ≤ y) ∧ wr = W)
  case atStart => exact ⟨0, n, rfl, rfl, rfl, Nat.zero_le _, Nat.le_refl _, fun j y hj => absurd hj (Nat.not_lt_zero _), fun j y hj hy => by have := (List.getElem?_eq_some_iff.1 hy).1; rw [HN.out.1] at this; omega, rfl⟩
  case round =>
    obtain ⟨lo, hi, rfl, rfl, hgk, hlh, hhn, h1, h2, rfl⟩ := hrel
    have HI := Lib.hid (And.intro hgk (And.intro h1 h2)); clear hgk h1 h2
    by_cases hc : lo < hi
    · have hcB : decide (lo < hi) = true := by simpa using hc
      obtain ⟨M, hM⟩ : ∃ M, (lo + hi) / 2 = M := ⟨_, rfl⟩
      have hM1 : lo ≤ M := by omega
      have hM2 : M < hi := by omega
      have hMI : ((lo : Int) + (hi : Int)) / 2 = (M : Int) := by omega
      have hMn : (M : Int) < (n : Int) := by omega
      obtain ⟨y, hy⟩ : ∃ y, zs[M]? = some y := ⟨_, List.getElem?_eq_getElem (by rw [HN.out.1]; omega)⟩
      obtain ⟨b, o, rfl, hcell⟩ := HN.out.2.1.at hy
      have HY := Lib.hid hy; clear hy hM
      by_cases hyz : y < z
      · have hb : decide (y < z) = true := decide_eq_true hyz
        have HZ := Lib.hid hyz; clear hyz
        go_wp2_with fail
        go_roundg (hi - (M + 1))
        case measure => rw [HI.out.1]; omega
        case rel => exact ⟨M + 1, hi, rfl, rfl, rfl, by omega, hhn, fun j y' hj hy' => by
          by_cases hjM : j = M
          · subst hjM
            rw [HY.out] at hy'
            cases hy'
            exact HZ.out
          · have := up_at HN.out.2.2 (show j < M by omega) hy' HY.out
            have := HZ.out
            omega, HI.out.2.2, rfl⟩
      · have hb : decide (y < z) = false := decide_eq_false hyz
        have HZ := Lib.hid hyz; clear hyz
        go_wp2_with fail
        go_roundg (M - lo)
        case measure => rw [HI.out.1]; omega
        case rel => exact ⟨lo, M, rfl, rfl, rfl, by omega, by omega, HI.out.2.1, fun j y' hj hy' => by
          by_cases hjM : j = M
          · subst hjM
            rw [HY.out] at hy'
            cases hy'
            have := HZ.out
            omega
          · have := up_at HN.out.2.2 (show M < j by omega) HY.out hy'
            have := HZ.out
            omega, rfl⟩
    · have hle : lo = hi := by omega
      subst hle
      have hcB : decide (lo < lo) = false := by simp
      by_cases hln : lo < n
      · have hlB : decide (lo < n) = true := decide_eq_true hln
        have hlI : (lo : Int) < (n : Int) := by omega
        obtain ⟨y, hy⟩ : ∃ y, zs[lo]? = some y := ⟨_, List.getElem?_eq_getElem (by rw [HN.out.1]; omega)⟩
        obtain ⟨b, o, rfl, hcell⟩ := HN.out.2.1.at hy
        have HR : Hid (decide (z ∈ zs) = (y == z)) := Lib.hid (by
          by_cases hyz : y = z
          · subst hyz
            rw [decide_eq_true (List.mem_of_getElem? hy)]; simp
          · rw [decide_eq_false]
            · simp [hyz]
            · intro hz
              obtain ⟨j, hj⟩ := List.getElem?_of_mem hz
              by_cases hj1 : j < lo
              · have := HI.out.2.1 j z hj1 hj; omega
              · by_cases hj2 : j = lo
                · subst hj2; rw [hy] at hj; cases hj; exact hyz rfl
                · have h3 := up_at HN.out.2.2 (show lo < j by omega) hy hj
                  have h4 := HI.out.2.2 lo y (Nat.le_refl _) hy
                  omega)
        clear hy
        obtain ⟨Q, hQ⟩ : ∃ Q, (y == z) = Q := ⟨_, rfl⟩
        rw [hQ] at HR
        go_wp2_with fail
        go_ret
        exact ⟨by rw [HR.out]; rfl, HG.out⟩
      · have hlB : decide (lo < n) = false := decide_eq_false hln
        have HR : Hid (decide (z ∈ zs) = false) := Lib.hid (decide_eq_false (by
          intro hz
          obtain ⟨j, hj⟩ := List.getElem?_of_mem hz
          have h5 := (List.getElem?_eq_some_iff.1 hj).1
          rw [HN.out.1] at h5
          have := HI.out.2.1 j z (by omega) hj
          omega))
        go_wp2_with fail
        go_ret
        exact ⟨by rw [HR.out]; rfl, HG.out⟩

theorem rising_up {hi : Int} : ∀ {l : List Int} {lo : Int}, Up l → (∀ z ∈ l, lo < z ∧ z < hi) → rising hi lo l = true
  | [], _, _, _ => rfl
  | z :: l, lo, h, hb => by
    have h1 := hb z (by simp)
    have hp := List.pairwise_cons.1 h
    simp only [rising, Bool.and_eq_true, decide_eq_true_eq]
    exact ⟨h1, rising_up hp.2 (fun y hy => ⟨hp.1 y hy, (hb y (by simp [hy])).2⟩)⟩

theorem take_mem {α : Type} {l : List α} {i : Nat} {y : α} (h : y ∈ l.take i) : ∃ j, j < i ∧ l[j]? = some y := by
  obtain ⟨j, hj⟩ := List.getElem?_of_mem h
  rw [List.getElem?_take] at hj
  split at hj
  · exact ⟨j, by assumption, hj⟩
  · cases hj
theorem up_rising {hi : Int} : ∀ {l : List Int} {lo : Int}, rising hi lo l = true → Up l ∧ ∀ z ∈ l, lo < z ∧ z < hi
  | [], _, _ => ⟨List.Pairwise.nil, fun z hz => by cases hz⟩
  | x :: l, lo, h => by
    rw [rising, Bool.and_eq_true, Bool.and_eq_true, decide_eq_true_eq, decide_eq_true_eq] at h
    obtain ⟨h1, h2⟩ := up_rising h.2
    refine ⟨List.pairwise_cons.2 ⟨fun z hz => (h2 z hz).1, h1⟩, fun z hz => ?_⟩
    rcases List.mem_cons.1 hz with rfl | hz
    · exact h.1
    · have := h2 z hz
      exact ⟨by omega, this.2⟩
theorem rising_iff {hi lo : Int} {l : List Int} : rising hi lo l = true ↔ Up l ∧ ∀ z ∈ l, lo < z ∧ z < hi := ⟨up_rising, fun h => rising_up h.1 h.2⟩
theorem relValid_up {n x : Int} {zs : List Int} (h : relValid n x zs = true) : Up zs := (up_rising (relValid_iff.1 h).2).1
/-- A number put into a row in its order. -/
def addL (l : List Int) (z : Int) : List Int := unionL l [z]
theorem addL_up {l : List Int} {z : Int} (h : Up l) : Up (addL l z) := merge_up _ _ _ h (List.pairwise_singleton _ _)
theorem mem_addL {l : List Int} {z x : Int} (h : Up l) : x ∈ addL l z ↔ x ∈ l ∨ x = z := by
  rw [addL, mem_union h (List.pairwise_singleton _ _), List.mem_singleton]
theorem addL_len (l : List Int) (z : Int) : (addL l z).length ≤ l.length + 1 := merge_len (fun x y => x || y) l [z]
theorem addL_has {l : List Int} {z : Int} (h : Up l) (hz : z ∈ l) : addL l z = l :=
  up_ext (addL_up h) h fun _x => (mem_addL h).trans ⟨fun e => e.elim id fun e => e ▸ hz, .inl⟩
theorem addL_cut {l : List Int} {z : Int} {k : Nat} (h : Up l) (h1 : ∀ (j : Nat) (y : Int), j < k → l[j]? = some y → y < z) (h2 : ∀ (j : Nat) (y : Int), k ≤ j → l[j]? = some y → z < y) : addL l z = l.take k ++ [z] ++ l.drop k := by
  have hk1 : ∀ y ∈ l.take k, y < z := fun y hy => by
    obtain ⟨j, hj, e⟩ := take_mem hy
    exact h1 j y hj e
  have hk2 : ∀ y ∈ l.drop k, z < y := fun y hy => by
    obtain ⟨j, hj⟩ := List.getElem?_of_mem hy
    rw [List.getElem?_drop] at hj
    exact h2 (k + j) y (by omega) hj
  refine up_ext (addL_up h) ?_ fun x => ?_
  · rw [Up, List.pairwise_append]
    refine ⟨up_snoc (h.sublist (List.take_sublist _ _)) hk1, h.sublist (List.drop_sublist _ _), fun a ha b hb => ?_⟩
    have hb' := hk2 b hb
    rw [List.mem_append, List.mem_singleton] at ha
    rcases ha with ha | rfl
    · have := hk1 a ha; omega
    · exact hb'
  · rw [mem_addL h, List.mem_append, List.mem_append, List.mem_singleton]
    have : x ∈ l ↔ x ∈ l.take k ∨ x ∈ l.drop k := by rw [← List.mem_append, List.take_append_drop]
    rw [this]
    exact ⟨fun e => by rcases e with (e | e) | e <;> simp [e], fun e => by rcases e with (e | e) | e <;> simp [e]⟩
/-- The first i of a row put in order. -/
def ofTo (rs : List Int) : Nat → List Int
  | 0 => []
  | i + 1 => match rs[i]? with | some z => addL (ofTo rs i) z | none => ofTo rs i
theorem ofTo_next {rs : List Int} {i : Nat} {z : Int} (h : rs[i]? = some z) : ofTo rs (i + 1) = addL (ofTo rs i) z := by rw [ofTo, h]
theorem ofTo_up {rs : List Int} : ∀ {i : Nat}, Up (ofTo rs i)
  | 0 => List.Pairwise.nil
  | i + 1 => by
    rw [ofTo]
    split
    · exact addL_up ofTo_up
    · exact ofTo_up
theorem ofTo_len {rs : List Int} : ∀ {i : Nat}, (ofTo rs i).length ≤ i
  | 0 => Nat.le_refl _
  | i + 1 => by
    have ih := ofTo_len (rs := rs) (i := i)
    rw [ofTo]
    split
    · exact Nat.le_trans (addL_len _ _) (by omega)
    · omega
theorem mem_ofTo {rs : List Int} {x : Int} : ∀ {i : Nat}, x ∈ ofTo rs i ↔ ∃ j, j < i ∧ rs[j]? = some x
  | 0 => by simp [ofTo]
  | i + 1 => by
    cases h : rs[i]? with
    | none =>
      rw [ofTo, h]
      simp only []
      rw [mem_ofTo]
      exact ⟨fun ⟨j, h1, h2⟩ => ⟨j, by omega, h2⟩, fun ⟨j, h1, h2⟩ => ⟨j, by
        by_cases hj : j = i
        · subst hj; rw [h] at h2; cases h2
        · omega, h2⟩⟩
    | some z =>
      rw [ofTo_next h, mem_addL ofTo_up, mem_ofTo]
      constructor
      · rintro (⟨j, h1, h2⟩ | rfl)
        · exact ⟨j, by omega, h2⟩
        · exact ⟨i, by omega, h⟩
      · rintro ⟨j, h1, h2⟩
        by_cases hj : j = i
        · subst hj; rw [h] at h2; cases h2; exact .inr rfl
        · exact .inl ⟨j, by omega, h2⟩

theorem slice_take {l : List Int} {a : Option Addr} {c k q : Nat} {w : World} (h : IntsW w a c l) (hk : l.length = k) (hq : q ≤ k) :
    (∀ w, (Instr.slice 25 (.slice a k c) none (some (.int .i64 (q : Int))) none).run Try.prog w = .ok (.slice a q c) w) ∧ IntsW w a c (l.take q) := by
  have hkc : k ≤ c := by rw [← hk]; exact h.1
  refine ⟨?_, Nat.le_trans (by rw [List.length_take]; omega) h.1, ?_⟩
  · intro w
    have a3 : (q : Int) ≤ (c : Int) := by omega
    have a4 : q ≤ c := by omega
    have a5 : (0 : Int) ≤ (q : Int) := by omega
    cases a with
    | none =>
      rcases h.2 with h0 | ⟨b, o, e, _⟩
      · subst h0
        obtain rfl : 0 = k := hk
        obtain rfl : q = 0 := by omega
        go_simp
      · cases e
    | some ad => go_simp
  · rcases h.2 with h0 | ⟨b, o, e, hz⟩
    · subst h0; exact .inl (by simp)
    · exact .inr ⟨b, o, e, fun j z hj => hz j z (by rw [List.getElem?_take] at hj; split at hj <;> first | exact hj | cases hj)⟩
theorem slice_drop {l : List Int} {a : Option Addr} {c k q : Nat} {w : World} (h : IntsW w a c l) (hk : l.length = k) (hq : q ≤ k) :
    ∃ a' c', (∀ w, (Instr.slice 25 (.slice a k c) (some (.int .i64 (q : Int))) none none).run Try.prog w = .ok (.slice a' (k - q) c') w) ∧ IntsW w a' c' (l.drop q) := by
  have hkc : k ≤ c := by rw [← hk]; exact h.1
  have a3 : (q : Int) ≤ (k : Int) := by omega
  cases a with
  | none =>
    rcases h.2 with h0 | ⟨b, o, e, _⟩
    · subst h0
      obtain rfl : 0 = k := hk
      obtain rfl : q = 0 := by omega
      exact ⟨none, c, fun w => by go_simp, Nat.zero_le _, .inl rfl⟩
    · cases e
  | some ad =>
    by_cases hqc : c = q
    · obtain rfl : q = k := by omega
      subst hqc
      refine ⟨some ad, 0, fun w => by go_simp, by simp [hk], .inl ?_⟩
      rw [← hk, List.drop_length]
    · rcases h.2 with h0 | ⟨b, o, e, hz⟩
      · subst h0
        obtain rfl : 0 = k := hk
        obtain rfl : q = 0 := by omega
        refine ⟨some (ad.add 0), c, fun w => ?_, Nat.zero_le _, .inl rfl⟩
        have : ¬ (c = 0) := hqc
        go_simp
      · cases e
        refine ⟨some ⟨b, o + q, none⟩, c - q, fun w => ?_, by rw [List.length_drop]; omega, .inr ⟨b, o + q, rfl, fun j z hj => ?_⟩⟩
        · have a4 : q ≤ k := hq
          go_simp
        · rw [List.getElem?_drop] at hj
          have := hz (q + j) z hj
          rw [Nat.add_assoc]; exact this
theorem run_append_nil {w : World} {base n : Nat} {v : Value} {xs : List Value} (hown : w.ownsRow base 3 1 v n xs) (ty : TypeId) (c : Nat) : (Builtin.append_ #[25, 25] ty #[v, .slice none 0 c]).run Try.prog w = .ok v w := by
  obtain ⟨i0, hi, hz0, hz1, hz2⟩ := info_parts info3
  rcases hown.2 with ⟨rfl, rfl⟩ | ⟨g, cap, cur, rfl, _, _, hnc, _⟩
  · simp [Builtin.append_, run_underlying Try.underlying25, sizeOf, typeInfo, hi, Builtin.lenOf, Builtin.firstCells]
  · simp [Builtin.append_, run_underlying Try.underlying25, sizeOf, typeInfo, hi, Builtin.lenOf, Builtin.firstCells, hnc, storeCells]
theorem intCells_len (l : List Int) : (intCells l).length = l.length := by rw [intCells, List.length_map]
/-- A row of numbers appended whole to a row of one's own: the row may be nil. -/
theorem append_ints {ops : Array Oper} {rest : List Oper} {o : Oper} {a : Act} {Q : Exit → Act → World → Prop} {w : World} (hgd : o.guard = none) (s x : Operand)
    (ho : o.op = .call { callee := .builtin .append, args := #[s, x], argTypes := #[25, 25] })
    (base : Nat) (v : Value) (n : Nat) (l : List Int) (hs : a.eval s = v) (hown : w.ownsRow base 3 1 v n (intCells l))
    (xa : Option Addr) (m c : Nat) (news : List Int) (hx : a.eval x = .slice xa m c) (hm : news.length = m) (hi : IntsW w xa c news)
    (h63 : n + m ≤ 1000000) (hbase : base ≤ w.heap.size)
    (h : ∀ v' w', w'.ownsRow base 3 1 v' (n + m) (intCells (l ++ news)) → w.grownBy w' v.ownBlock → wpList Try.prog ops Q rest (a.put o.dst v') w') : wpList Try.prog ops Q (o :: rest) a w := by
  obtain ⟨i0, hi0, hz0, hz1, hz2⟩ := info_parts info3
  have hap : intCells (l ++ news) = intCells l ++ intCells news := by rw [intCells, intCells, intCells, List.map_append]
  cases xa with
  | none =>
    have h0 : news = [] := by
      rcases hi.2 with h0 | ⟨_, _, e, _⟩
      · exact h0
      · cases e
    subst h0
    obtain rfl : 0 = m := hm
    refine wpList_plain hgd fun K hK => ?_
    have hrun := run_append_nil hown o.type c
    unfold Oper.wp
    simp [execOp, ho, resolve, invoke, builtin, hs, hx, hrun, Result.andThen]
    refine hK _ _ (h v w (by rw [List.append_nil]; exact hown) ?_)
    exact ⟨rfl, rfl, rfl, Nat.le_refl _, fun _ _ _ => rfl⟩
  | some ad =>
    refine wpList_append_own w hgd s x 25 ho base 3 i0 (.int .i64 0) 1 8 Try.underlying25 hi0 hz0 hz1 hz2 rfl (by decide) v n (intCells l) hs hown ad m c (intCells news) hx (by rw [intCells_len, hm, Nat.mul_one]) ?_ ?_ (by unfold maxLen; omega) (by omega) hbase (fun v' w' h1 h2 _ => h v' w' (by rw [hap]; exact h1) h2)
    · intro j u hj
      rw [intCells, List.getElem?_map] at hj
      cases hq : news[j]? with
      | none => rw [hq] at hj; simp at hj
      | some z =>
        rw [hq] at hj
        simp only [Option.map_some, Option.some.injEq] at hj
        rcases hi.2 with h0 | ⟨b, o, e, hz⟩
        · rw [h0] at hq; simp at hq
        · cases e
          have hadd : (⟨b, o, none⟩ : Addr).add j = ⟨b, o + j, none⟩ := by unfold Addr.add; split <;> simp_all
          rw [hadd, ← hj]
          exact hz j z hq
    · intro u hu
      obtain ⟨x, _, rfl⟩ := List.mem_map.1 hu
      rfl
theorem intsW_one (w : World) (z : Int) : IntsW (w.alloc (.cells #[.int .i64 z] 3)) (some ⟨w.heap.size, 0, none⟩) 1 [z] := ⟨Nat.le_refl _, .inr ⟨_, _, rfl, fun j u hj => by
  match j, hj with
  | 0, hj => simp at hj; subst hj; go_simp⟩⟩
set_option maxRecDepth 100000 in
set_option maxHeartbeats 8000000 in
theorem add_calls (l : List Int) (a : Option Addr) (c lo : Nat) (z : Int) (w : World) (h : Span lo w.heap.size w (fun W => IntsW W a c l)) (hlo : lo ≤ w.heap.size) (hl : l.length ≤ 10000) (hu : Up l) :
    Calls Try.prog 42 #[.slice a l.length c, .int .i64 z] w fun e w' => ∃ a' c', e = .returned (.slice a' (addL l z).length c') ∧ Span lo w'.heap.size w' (fun W => IntsW W a' c' (addL l z)) ∧ w.grownBy w' none := by
  obtain ⟨n, hn⟩ : ∃ n, l.length = n := ⟨_, rfl⟩
  rw [hn] at hl ⊢
  have hc : n ≤ c := by rw [← hn]; exact h.here.1
  have HN := Lib.hid (And.intro hn (And.intro h (And.intro hu hlo))); clear hn h hu hlo
  go_enter Try.func42, Try.ntmps42
  go_wp2_with fail
  go_loopg [5] n (fun g s5 wr => ∃ k : Nat, s5 = .int .i64 (k : Int) ∧ g = k ∧ k ≤ n ∧ (∀ (j : Nat) (y : Int), k ≤ j → l[j]? = some y → z ≤ y) ∧ wr = w)
  case atStart => exact ⟨n, rfl, rfl, Nat.le_refl _, fun j y hj hy => by have := (List.getElem?_eq_some_iff.1 hy).1; rw [HN.out.1] at this; omega, rfl⟩
  case round =>
    obtain ⟨k, rfl, hgi, hi, hok, rfl⟩ := hrel
    have HI := Lib.hid (And.intro hgi hok); clear hgi hok
    cases k with
    | zero =>
      obtain ⟨k, hk⟩ : ∃ k : Nat, k = 0 := ⟨_, rfl⟩
      have HBE : Hid (∀ (j : Nat) (y : Int), j < k → l[j]? = some y → y < z) := Lib.hid (fun j y hj => by omega)
      replace HI : Hid (∀ (j : Nat) (y : Int), k ≤ j → l[j]? = some y → z ≤ y) := Lib.hid (by rw [hk]; exact HI.out.2)
      have hkn : k ≤ n := by omega
      have f1 : decide (0 < (k : Int)) = false := by simp; omega
      have f2 : decide (0 < k) = false := by simp; omega
      rw [show ((0 : Nat) : Int) = (k : Int) by rw [hk]]
      clear hk hi
      by_cases hkl : k < n
      · have b0 : decide (k < n) = true := decide_eq_true hkl
        have bI : (k : Int) < (n : Int) := by omega
        obtain ⟨u, hu⟩ : ∃ u, l[k]? = some u := ⟨_, List.getElem?_eq_getElem (by rw [HN.out.1]; exact hkl)⟩
        obtain ⟨b, o, rfl, hcell⟩ := HN.out.2.1.here.at hu
        by_cases huz : u = z
        · have b1 : (u == z) = true := by simpa using huz
          have HR : Hid (addL l z = l) := Lib.hid (addL_has HN.out.2.2.1 (huz ▸ List.mem_of_getElem? hu))
          clear hu huz
          go_wp2_with fail
          go_ret
          exact ⟨_, _, by rw [HR.out, HN.out.1]; rfl, by rw [HR.out]; exact HN.out.2.1, grown_refl _ _⟩
        · have b1 : (u == z) = false := by simpa using huz
          have HC : Hid (addL l z = l.take k ++ [z] ++ l.drop k) := Lib.hid (addL_cut HN.out.2.2.1 HBE.out (fun j y hj hy => by
            by_cases hjk : j = k
            · subst hjk
              have h1 := HI.out j y hj hy
              rw [hu] at hy
              cases hy
              omega
            · have h1 := up_get HN.out.2.2.1 (show k < j by omega) hu hy
              have h2 := HI.out k u (Nat.le_refl _) hu
              omega))
          clear hu huz
          obtain ⟨hs1, hi1⟩ := slice_take HN.out.2.1.here HN.out.1 hkn
          obtain ⟨a3, c3, hs3, hi3⟩ := slice_drop HN.out.2.1.here HN.out.1 hkn
          have HI1 := Lib.hid (And.intro (show (l.take k).length = k by rw [List.length_take, HN.out.1]; omega) hi1); clear hi1
          have HI3 := Lib.hid (And.intro (show (l.drop k).length = n - k by rw [List.length_drop, HN.out.1]) hi3); clear hi3
          go_wp2_with (at_builtin; refine append_ints rfl _ _ rfl wr.heap.size _ 0 [] rfl (World.ownsRow_made wr #[] 0 (Nat.le_refl _) (Nat.zero_le _) rfl) (some ⟨b, o, none⟩) k c (l.take k) rfl HI1.out.1 (HI1.out.2.grown (World.grownBy_alloc wr _ none)) (by omega) (World.grownBy.size (World.grownBy_alloc wr (.cells #[] 3) none)) ?_)
          intro v1 x1 ho1 hg1
          replace ho1 : x1.ownsRow wr.heap.size 3 1 v1 k (intCells (l.take k)) := by simpa [intCells] using ho1
          obtain ⟨va1, vc1, rfl⟩ := own_shape ho1
          have HO1 := Lib.hid ho1; clear ho1
          have HG1 : Hid (wr.grownBy x1 none) := Lib.hid (grown_own (World.grownBy_alloc wr _ none) hg1 (fun k hk => by simp [Value.ownBlock] at hk; omega))
          clear hg1
          go_wp2_with (at_builtin; refine append_ints rfl _ _ rfl wr.heap.size _ k (l.take k) rfl (HO1.out.alloc _) (some ⟨x1.heap.size, 0, none⟩) 1 1 [z] rfl rfl (intsW_one x1 z) (by omega) (Nat.le_trans HG1.out.size (World.grownBy.size (World.grownBy_alloc x1 (.cells #[.int .i64 z] 3) none))) ?_)
          intro v2 x2 ho2 hg2
          replace ho2 : x2.ownsRow wr.heap.size 3 1 v2 (k + 1) (intCells (l.take k ++ [z])) := by simpa [intCells] using ho2
          obtain ⟨va2, vc2, rfl⟩ := own_shape ho2
          have HO2 := Lib.hid ho2; clear ho2
          have HG2 : Hid (wr.grownBy x2 none) := Lib.hid (grown_own (HG1.out.trans (World.grownBy_alloc x1 _ none)) hg2 (fun k hk => (HO1.out.lt k hk).1))
          clear hg2
          go_wp2_with (at_builtin; refine append_ints rfl _ _ rfl wr.heap.size _ (k + 1) (l.take k ++ [z]) rfl HO2.out a3 (n - k) c3 (l.drop k) rfl HI3.out.1 (HI3.out.2.grown HG2.out) (by omega) HG2.out.size ?_)
          intro v3 x3 ho3 hg3
          replace ho3 : x3.ownsRow wr.heap.size 3 1 v3 (k + 1 + (n - k)) (intCells (l.take k ++ [z] ++ l.drop k)) := by simpa [intCells] using ho3
          have hlen : (addL l z).length = k + 1 + (n - k) := by rw [HC.out]; simp only [List.length_append, List.length_take, List.length_drop, List.length_cons, List.length_nil, HN.out.1]; omega
          rw [← HC.out, ← hlen] at ho3
          obtain ⟨a', c', rfl, hi'⟩ := ints_span ho3
          have HR := Lib.hid (And.intro hi' (grown_own HG2.out hg3 (fun k hk => (HO2.out.lt k hk).1)))
          clear hi' ho3 hg3
          obtain ⟨q, hq⟩ : ∃ q, (addL l z).length = q := ⟨_, rfl⟩
          rw [hq]
          clear hlen hs1 hs3
          go_wp2_with fail
          go_ret
          exact ⟨a', c', by rw [hq]; rfl, (HR.out.1.map (fun _ h => h.weak)).wide HN.out.2.2.2 (Nat.le_refl _) (Nat.le_refl _), HR.out.2⟩
      · have b0 : decide (k < n) = false := decide_eq_false hkl
        have HC : Hid (addL l z = l.take k ++ [z] ++ l.drop k) := Lib.hid (addL_cut HN.out.2.2.1 HBE.out (fun j y hj hy => by
          have := (List.getElem?_eq_some_iff.1 hy).1
          rw [HN.out.1] at this
          omega))
        obtain ⟨hs1, hi1⟩ := slice_take HN.out.2.1.here HN.out.1 hkn
        obtain ⟨a3, c3, hs3, hi3⟩ := slice_drop HN.out.2.1.here HN.out.1 hkn
        have HI1 := Lib.hid (And.intro (show (l.take k).length = k by rw [List.length_take, HN.out.1]; omega) hi1); clear hi1
        have HI3 := Lib.hid (And.intro (show (l.drop k).length = n - k by rw [List.length_drop, HN.out.1]) hi3); clear hi3
        go_wp2_with (at_builtin; refine append_ints rfl _ _ rfl wr.heap.size _ 0 [] rfl (World.ownsRow_made wr #[] 0 (Nat.le_refl _) (Nat.zero_le _) rfl) a k c (l.take k) rfl HI1.out.1 (HI1.out.2.grown (World.grownBy_alloc wr _ none)) (by omega) (World.grownBy.size (World.grownBy_alloc wr (.cells #[] 3) none)) ?_)
        intro v1 x1 ho1 hg1
        replace ho1 : x1.ownsRow wr.heap.size 3 1 v1 k (intCells (l.take k)) := by simpa [intCells] using ho1
        obtain ⟨va1, vc1, rfl⟩ := own_shape ho1
        have HO1 := Lib.hid ho1; clear ho1
        have HG1 : Hid (wr.grownBy x1 none) := Lib.hid (grown_own (World.grownBy_alloc wr _ none) hg1 (fun k hk => by simp [Value.ownBlock] at hk; omega))
        clear hg1
        go_wp2_with (at_builtin; refine append_ints rfl _ _ rfl wr.heap.size _ k (l.take k) rfl (HO1.out.alloc _) (some ⟨x1.heap.size, 0, none⟩) 1 1 [z] rfl rfl (intsW_one x1 z) (by omega) (Nat.le_trans HG1.out.size (World.grownBy.size (World.grownBy_alloc x1 (.cells #[.int .i64 z] 3) none))) ?_)
        intro v2 x2 ho2 hg2
        replace ho2 : x2.ownsRow wr.heap.size 3 1 v2 (k + 1) (intCells (l.take k ++ [z])) := by simpa [intCells] using ho2
        obtain ⟨va2, vc2, rfl⟩ := own_shape ho2
        have HO2 := Lib.hid ho2; clear ho2
        have HG2 : Hid (wr.grownBy x2 none) := Lib.hid (grown_own (HG1.out.trans (World.grownBy_alloc x1 _ none)) hg2 (fun k hk => (HO1.out.lt k hk).1))
        clear hg2
        go_wp2_with (at_builtin; refine append_ints rfl _ _ rfl wr.heap.size _ (k + 1) (l.take k ++ [z]) rfl HO2.out a3 (n - k) c3 (l.drop k) rfl HI3.out.1 (HI3.out.2.grown HG2.out) (by omega) HG2.out.size ?_)
        intro v3 x3 ho3 hg3
        replace ho3 : x3.ownsRow wr.heap.size 3 1 v3 (k + 1 + (n - k)) (intCells (l.take k ++ [z] ++ l.drop k)) := by simpa [intCells] using ho3
        have hlen : (addL l z).length = k + 1 + (n - k) := by rw [HC.out]; simp only [List.length_append, List.length_take, List.length_drop, List.length_cons, List.length_nil, HN.out.1]; omega
        rw [← HC.out, ← hlen] at ho3
        obtain ⟨a', c', rfl, hi'⟩ := ints_span ho3
        have HR := Lib.hid (And.intro hi' (grown_own HG2.out hg3 (fun k hk => (HO2.out.lt k hk).1)))
        clear hi' ho3 hg3
        obtain ⟨q, hq⟩ : ∃ q, (addL l z).length = q := ⟨_, rfl⟩
        rw [hq]
        clear hlen hs1 hs3
        go_wp2_with fail
        go_ret
        exact ⟨a', c', by rw [hq]; rfl, (HR.out.1.map (fun _ h => h.weak)).wide HN.out.2.2.2 (Nat.le_refl _) (Nat.le_refl _), HR.out.2⟩
    | succ j =>
      obtain ⟨y, hy⟩ : ∃ y, l[j]? = some y := ⟨_, List.getElem?_eq_getElem (by rw [HN.out.1]; omega)⟩
      obtain ⟨b, o, rfl, hcell⟩ := HN.out.2.1.here.at hy
      have hj0 : (0 : Int) ≤ (j : Int) := by omega
      have hj3 : (j : Int) < (n : Int) := by omega
      have hwj : IntKind.i64.wrap (j : Int) = (j : Int) := IntWalk.i64_in _ (by omega)
      have f1 : decide (0 < (j : Int) + 1) = true := decide_eq_true (by omega)
      by_cases hzy : z ≤ y
      · have f2 : decide (z ≤ y) = true := decide_eq_true hzy
        have HS : Hid (∀ (i : Nat) (x : Int), j ≤ i → l[i]? = some x → z ≤ x) := Lib.hid (fun i x hi hx => by
          by_cases hij : i = j
          · subst hij; rw [hy] at hx; cases hx; exact hzy
          · exact HI.out.2 i x (by omega) hx)
        clear hy hzy
        go_wp2_with fail
        go_roundg j
        case measure => rw [HI.out.1]; omega
        case rel => exact ⟨j, rfl, rfl, by omega, HS.out, rfl⟩
      · have f2 : decide (z ≤ y) = false := decide_eq_false hzy
        obtain ⟨k, hk⟩ : ∃ k : Nat, k = j + 1 := ⟨_, rfl⟩
        have HBE : Hid (∀ (i : Nat) (x : Int), i < k → l[i]? = some x → x < z) := Lib.hid (fun i x hi hx => by
          by_cases hij : i = j
          · subst hij; rw [hy] at hx; cases hx; omega
          · have := up_get HN.out.2.2.1 (show i < j by omega) hx hy; omega)
        replace HI : Hid (∀ (j : Nat) (y : Int), k ≤ j → l[j]? = some y → z ≤ y) := Lib.hid (by rw [hk]; exact HI.out.2)
        have hkn : k ≤ n := by omega
        have hkj : (k : Int) - 1 = (j : Int) := by omega
        have f3 : decide (0 < (k : Int)) = true := decide_eq_true (by omega)
        have f4 : decide (0 < k) = true := decide_eq_true (by omega)
        rw [show ((j + 1 : Nat) : Int) = (k : Int) by rw [hk]]
        clear hk hi hy hzy f1
        by_cases hkl : k < n
        · have b0 : decide (k < n) = true := decide_eq_true hkl
          have bI : (k : Int) < (n : Int) := by omega
          obtain ⟨u, hu⟩ : ∃ u, l[k]? = some u := ⟨_, List.getElem?_eq_getElem (by rw [HN.out.1]; exact hkl)⟩
          obtain ⟨b', o', e', hcell⟩ := HN.out.2.1.here.at hu
          injection e' with e'
          injection e' with e1 e2 _
          subst e1 e2
          by_cases huz : u = z
          · have b1 : (u == z) = true := by simpa using huz
            have HR : Hid (addL l z = l) := Lib.hid (addL_has HN.out.2.2.1 (huz ▸ List.mem_of_getElem? hu))
            clear hu huz
            go_wp2_with fail
            go_ret
            exact ⟨_, _, by rw [HR.out, HN.out.1]; rfl, by rw [HR.out]; exact HN.out.2.1, grown_refl _ _⟩
          · have b1 : (u == z) = false := by simpa using huz
            have HC : Hid (addL l z = l.take k ++ [z] ++ l.drop k) := Lib.hid (addL_cut HN.out.2.2.1 HBE.out (fun j y hj hy => by
              by_cases hjk : j = k
              · subst hjk
                have h1 := HI.out j y hj hy
                rw [hu] at hy
                cases hy
                omega
              · have h1 := up_get HN.out.2.2.1 (show k < j by omega) hu hy
                have h2 := HI.out k u (Nat.le_refl _) hu
                omega))
            clear hu huz
            obtain ⟨hs1, hi1⟩ := slice_take HN.out.2.1.here HN.out.1 hkn
            obtain ⟨a3, c3, hs3, hi3⟩ := slice_drop HN.out.2.1.here HN.out.1 hkn
            have HI1 := Lib.hid (And.intro (show (l.take k).length = k by rw [List.length_take, HN.out.1]; omega) hi1); clear hi1
            have HI3 := Lib.hid (And.intro (show (l.drop k).length = n - k by rw [List.length_drop, HN.out.1]) hi3); clear hi3
            go_wp2_with (at_builtin; refine append_ints rfl _ _ rfl wr.heap.size _ 0 [] rfl (World.ownsRow_made wr #[] 0 (Nat.le_refl _) (Nat.zero_le _) rfl) (some ⟨b, o, none⟩) k c (l.take k) rfl HI1.out.1 (HI1.out.2.grown (World.grownBy_alloc wr _ none)) (by omega) (World.grownBy.size (World.grownBy_alloc wr (.cells #[] 3) none)) ?_)
            intro v1 x1 ho1 hg1
            replace ho1 : x1.ownsRow wr.heap.size 3 1 v1 k (intCells (l.take k)) := by simpa [intCells] using ho1
            obtain ⟨va1, vc1, rfl⟩ := own_shape ho1
            have HO1 := Lib.hid ho1; clear ho1
            have HG1 : Hid (wr.grownBy x1 none) := Lib.hid (grown_own (World.grownBy_alloc wr _ none) hg1 (fun k hk => by simp [Value.ownBlock] at hk; omega))
            clear hg1
            go_wp2_with (at_builtin; refine append_ints rfl _ _ rfl wr.heap.size _ k (l.take k) rfl (HO1.out.alloc _) (some ⟨x1.heap.size, 0, none⟩) 1 1 [z] rfl rfl (intsW_one x1 z) (by omega) (Nat.le_trans HG1.out.size (World.grownBy.size (World.grownBy_alloc x1 (.cells #[.int .i64 z] 3) none))) ?_)
            intro v2 x2 ho2 hg2
            replace ho2 : x2.ownsRow wr.heap.size 3 1 v2 (k + 1) (intCells (l.take k ++ [z])) := by simpa [intCells] using ho2
            obtain ⟨va2, vc2, rfl⟩ := own_shape ho2
            have HO2 := Lib.hid ho2; clear ho2
            have HG2 : Hid (wr.grownBy x2 none) := Lib.hid (grown_own (HG1.out.trans (World.grownBy_alloc x1 _ none)) hg2 (fun k hk => (HO1.out.lt k hk).1))
            clear hg2
            go_wp2_with (at_builtin; refine append_ints rfl _ _ rfl wr.heap.size _ (k + 1) (l.take k ++ [z]) rfl HO2.out a3 (n - k) c3 (l.drop k) rfl HI3.out.1 (HI3.out.2.grown HG2.out) (by omega) HG2.out.size ?_)
            intro v3 x3 ho3 hg3
            replace ho3 : x3.ownsRow wr.heap.size 3 1 v3 (k + 1 + (n - k)) (intCells (l.take k ++ [z] ++ l.drop k)) := by simpa [intCells] using ho3
            have hlen : (addL l z).length = k + 1 + (n - k) := by rw [HC.out]; simp only [List.length_append, List.length_take, List.length_drop, List.length_cons, List.length_nil, HN.out.1]; omega
            rw [← HC.out, ← hlen] at ho3
            obtain ⟨a', c', rfl, hi'⟩ := ints_span ho3
            have HR := Lib.hid (And.intro hi' (grown_own HG2.out hg3 (fun k hk => (HO2.out.lt k hk).1)))
            clear hi' ho3 hg3
            obtain ⟨q, hq⟩ : ∃ q, (addL l z).length = q := ⟨_, rfl⟩
            rw [hq]
            clear hlen hs1 hs3
            go_wp2_with fail
            go_ret
            exact ⟨a', c', by rw [hq]; rfl, (HR.out.1.map (fun _ h => h.weak)).wide HN.out.2.2.2 (Nat.le_refl _) (Nat.le_refl _), HR.out.2⟩
        · have b0 : decide (k < n) = false := decide_eq_false hkl
          have HC : Hid (addL l z = l.take k ++ [z] ++ l.drop k) := Lib.hid (addL_cut HN.out.2.2.1 HBE.out (fun j y hj hy => by
            have := (List.getElem?_eq_some_iff.1 hy).1
            rw [HN.out.1] at this
            omega))
          obtain ⟨hs1, hi1⟩ := slice_take HN.out.2.1.here HN.out.1 hkn
          obtain ⟨a3, c3, hs3, hi3⟩ := slice_drop HN.out.2.1.here HN.out.1 hkn
          have HI1 := Lib.hid (And.intro (show (l.take k).length = k by rw [List.length_take, HN.out.1]; omega) hi1); clear hi1
          have HI3 := Lib.hid (And.intro (show (l.drop k).length = n - k by rw [List.length_drop, HN.out.1]) hi3); clear hi3
          go_wp2_with (at_builtin; refine append_ints rfl _ _ rfl wr.heap.size _ 0 [] rfl (World.ownsRow_made wr #[] 0 (Nat.le_refl _) (Nat.zero_le _) rfl) (some ⟨b, o, none⟩) k c (l.take k) rfl HI1.out.1 (HI1.out.2.grown (World.grownBy_alloc wr _ none)) (by omega) (World.grownBy.size (World.grownBy_alloc wr (.cells #[] 3) none)) ?_)
          intro v1 x1 ho1 hg1
          replace ho1 : x1.ownsRow wr.heap.size 3 1 v1 k (intCells (l.take k)) := by simpa [intCells] using ho1
          obtain ⟨va1, vc1, rfl⟩ := own_shape ho1
          have HO1 := Lib.hid ho1; clear ho1
          have HG1 : Hid (wr.grownBy x1 none) := Lib.hid (grown_own (World.grownBy_alloc wr _ none) hg1 (fun k hk => by simp [Value.ownBlock] at hk; omega))
          clear hg1
          go_wp2_with (at_builtin; refine append_ints rfl _ _ rfl wr.heap.size _ k (l.take k) rfl (HO1.out.alloc _) (some ⟨x1.heap.size, 0, none⟩) 1 1 [z] rfl rfl (intsW_one x1 z) (by omega) (Nat.le_trans HG1.out.size (World.grownBy.size (World.grownBy_alloc x1 (.cells #[.int .i64 z] 3) none))) ?_)
          intro v2 x2 ho2 hg2
          replace ho2 : x2.ownsRow wr.heap.size 3 1 v2 (k + 1) (intCells (l.take k ++ [z])) := by simpa [intCells] using ho2
          obtain ⟨va2, vc2, rfl⟩ := own_shape ho2
          have HO2 := Lib.hid ho2; clear ho2
          have HG2 : Hid (wr.grownBy x2 none) := Lib.hid (grown_own (HG1.out.trans (World.grownBy_alloc x1 _ none)) hg2 (fun k hk => (HO1.out.lt k hk).1))
          clear hg2
          go_wp2_with (at_builtin; refine append_ints rfl _ _ rfl wr.heap.size _ (k + 1) (l.take k ++ [z]) rfl HO2.out a3 (n - k) c3 (l.drop k) rfl HI3.out.1 (HI3.out.2.grown HG2.out) (by omega) HG2.out.size ?_)
          intro v3 x3 ho3 hg3
          replace ho3 : x3.ownsRow wr.heap.size 3 1 v3 (k + 1 + (n - k)) (intCells (l.take k ++ [z] ++ l.drop k)) := by simpa [intCells] using ho3
          have hlen : (addL l z).length = k + 1 + (n - k) := by rw [HC.out]; simp only [List.length_append, List.length_take, List.length_drop, List.length_cons, List.length_nil, HN.out.1]; omega
          rw [← HC.out, ← hlen] at ho3
          obtain ⟨a', c', rfl, hi'⟩ := ints_span ho3
          have HR := Lib.hid (And.intro hi' (grown_own HG2.out hg3 (fun k hk => (HO2.out.lt k hk).1)))
          clear hi' ho3 hg3
          obtain ⟨q, hq⟩ : ∃ q, (addL l z).length = q := ⟨_, rfl⟩
          rw [hq]
          clear hlen hs1 hs3
          go_wp2_with fail
          go_ret
          exact ⟨a', c', by rw [hq]; rfl, (HR.out.1.map (fun _ h => h.weak)).wide HN.out.2.2.2 (Nat.le_refl _) (Nat.le_refl _), HR.out.2⟩

theorem results127 (tmps : Array Value) (w : World) (b : Nat) (a : Option Addr) (n c : Nat) (x : Int) (ht : tmps.getD 4 undef = .pointer (some ⟨b, 0, none⟩)) (h0 : w.cell? ⟨b, 0, none⟩ = some (.int .i64 x)) (h1 : w.cell? ⟨b, 1, none⟩ = some (.slice a n c)) :
    (results Try.f40 tmps).run Try.prog w = .ok (.agg #[.int .i64 x, .slice a n c]) w := by
  have ht' : tmps[4]?.getD undef = .pointer (some ⟨b, 0, none⟩) := by simpa using ht
  simp [results, ht', go_sem, h0, h1, Result.andThen]
/-- A relation that is being put together, in its box. -/
structure OfBox (B : Nat) (w : World) (k : Int) (va : Option Addr) (vc : Nat) (l : List Int) : Prop where
  c0 : w.cell? ⟨B, 0, none⟩ = some (.int .i64 k)
  c1 : w.cell? ⟨B, 1, none⟩ = some (.slice va l.length vc)
  f1 : w.frozen? ⟨B, 1, none⟩ = false
  sp : Span (B + 1) w.heap.size w (fun W => IntsW W va vc l)
theorem OfBox.low {B : Nat} {w : World} {k : Int} {va : Option Addr} {vc : Nat} {l : List Int} (h : OfBox B w k va vc l) : B + 1 ≤ w.heap.size := lies_lt h.c0
theorem OfBox.grown {B : Nat} {w w' : World} {k : Int} {va : Option Addr} {vc : Nat} {l : List Int} (h : OfBox B w k va vc l) (hg : w.grownBy w' none) : OfBox B w' k va vc l :=
  ⟨hg.cell h.c0 (by simp), hg.cell h.c1 (by simp), (grown_frozen hg h.low 1).trans h.f1, (h.sp.grown hg).wide (Nat.le_refl _) hg.size (Nat.le_refl _)⟩
theorem OfBox.set {B : Nat} {w : World} {k : Int} {va va' : Option Addr} {vc vc' : Nat} {l l' : List Int} (h : OfBox B w k va vc l) (hs : Span (B + 1) w.heap.size w (fun W => IntsW W va' vc' l')) : OfBox B (w.setCell ⟨B, 1, none⟩ (.slice va' l'.length vc')) k va' vc' l' := by
  refine ⟨?_, ?_, ?_, ?_⟩
  · rw [World.cell?_setCell_other _ _ _ _ (by intro e; injection e with _ e; cases e)]; exact h.c0
  · exact World.cell?_setCell_same _ _ _ h.c1
  · rw [World.frozen?_setCell]; exact h.f1
  · have hz : (w.setCell ⟨B, 1, none⟩ (.slice va' l'.length vc')).heap.size = w.heap.size := by simp [World.setCell]
    rw [hz]
    exact hs.off (grown_set _ B 1 _) (fun x e => by cases e; exact .inl (Nat.lt_succ_self _))
theorem OfBox.new (w : World) (k : Int) : OfBox w.heap.size (w.alloc (.cells #[.int .i64 k, .slice none 0 0] 27)) k none 0 [] :=
  ⟨by go_simp, by go_simp, by go_simp, ⟨by simp, fun W _ => intsW_nil W none 0⟩⟩
set_option maxRecDepth 100000 in
set_option maxHeartbeats 8000000 in
theorem of_calls (k : Int) (rs : List Int) (ra : Option Addr) (rc : Nat) (w : World) (h : IntsW w ra rc rs) (hl : rs.length ≤ 10000) :
    Calls Try.prog 40 #[.int .i64 k, .slice ra rs.length rc] w fun e w' => ∃ a c, e = .returned (.agg #[.int .i64 k, .slice a (ofTo rs rs.length).length c]) ∧ Span w.heap.size w'.heap.size w' (fun W => IntsW W a c (ofTo rs rs.length)) ∧ w.grownBy w' none := by
  obtain ⟨n, hn⟩ : ∃ n, rs.length = n := ⟨_, rfl⟩
  have hg := World.grownBy_alloc w (.cells #[.int .i64 0, .slice none 0 0] 27) none
  have e0 : (w.alloc (.cells #[.int .i64 0, .slice none 0 0] 27)).cell? ⟨w.heap.size, 0, none⟩ = some (.int .i64 0) := by go_simp
  have e1 : (w.alloc (.cells #[.int .i64 0, .slice none 0 0] 27)).cell? ⟨w.heap.size, 1, none⟩ = some (.slice none 0 0) := by go_simp
  have ef0 : (w.alloc (.cells #[.int .i64 0, .slice none 0 0] 27)).frozen? ⟨w.heap.size, 0, none⟩ = false := by go_simp
  have ef1 : (w.alloc (.cells #[.int .i64 0, .slice none 0 0] 27)).frozen? ⟨w.heap.size, 1, none⟩ = false := by go_simp
  obtain ⟨W, hW⟩ : ∃ W, w.alloc (.cells #[.int .i64 0, .slice none 0 0] 27) = W := ⟨_, rfl⟩
  have hsz : W.heap.size = w.heap.size + 1 := by rw [← hW]; simp
  rw [hW] at hg e0 e1 ef0 ef1
  have HH := Lib.hid (And.intro (h.grown hg) hn)
  rw [hn] at hl ⊢
  clear h hn
  have HG := Lib.hid hg; clear hg
  have HC := Lib.hid (And.intro e0 (And.intro e1 (And.intro ef0 ef1)))
  have HB0 := Lib.hid (OfBox.new W k)
  have HG0 := Lib.hid (World.grownBy_alloc W (.cells #[.int .i64 k, .slice none 0 0] 27) none)
  have HSZ := Lib.hid hsz; clear hsz
  go_enter Try.func40, Try.ntmps40
  go_wp2_with fail
  clear hW e0 e1 ef0 ef1
  obtain ⟨W1, hW1⟩ : ∃ W1, W.alloc (.cells #[.int .i64 k, .slice none 0 0] 27) = W1 := ⟨_, rfl⟩
  rw [hW1] at HB0 HG0 ⊢
  clear hW1
  go_loopg [6] n (fun g s6 wr => ∃ (i : Nat) (va : Option Addr) (vc : Nat), s6 = .int .i64 (i : Int) ∧ g = n - i ∧ i ≤ n ∧ OfBox W.heap.size wr k va vc (ofTo rs i) ∧ W.grownBy wr none)
  case atStart => exact ⟨0, none, 0, rfl, rfl, Nat.zero_le _, HB0.out, HG0.out⟩
  case round =>
    obtain ⟨i, va, vc, rfl, hgk, hi, hbx, hgr⟩ := hrel
    have HBX := Lib.hid hbx; clear hbx
    have HWR := Lib.hid hgr; clear hgr
    have HI := Lib.hid hgk; clear hgk
    by_cases hin : i < n
    · have hinB : decide (i < n) = true := by simpa using hin
      have hinI : (i : Int) < (n : Int) := by omega
      obtain ⟨z, hz⟩ : ∃ z, rs[i]? = some z := ⟨_, List.getElem?_eq_getElem (by rw [HH.out.2]; exact hin)⟩
      obtain ⟨b, o, rfl, hcell0⟩ := HH.out.1.at hz
      have HNX := Lib.hid (ofTo_next hz)
      have HLE := Lib.hid (ofTo_len (rs := rs) (i := i))
      have HAD := Lib.hid (fun (U : World) (g : wr.grownBy U none) => add_calls (ofTo rs i) va vc (W.heap.size + 1) z U (HBX.out.grown g).sp (HBX.out.grown g).low (by have := HLE.out; omega) ofTo_up)
      rw [← HNX.out] at HAD
      clear hz
      obtain ⟨p, hp⟩ : ∃ p, (ofTo rs i).length = p := ⟨_, rfl⟩
      obtain ⟨p2, hp2⟩ : ∃ p, (ofTo rs (i + 1)).length = p := ⟨_, rfl⟩
      rw [hp, hp2] at HAD
      have HP := Lib.hid (And.intro hp hp2); clear hp hp2
      go_wp2_with fail
      have HS := Lib.hid (fun (Wh : World) (hWh : W.grownBy Wh none) => (⟨hWh, hWh.cell hcell0 (by simp)⟩ : (fun Wh : World => W.grownBy Wh none ∧ Wh.cell? ⟨b, o + i, none⟩ = some (.int .i64 z)) Wh))
      have hdr : W.grownBy wr.drew none := World.grownBy.trans HWR.out (⟨rfl, rfl, rfl, Nat.le_refl _, fun _ _ _ => rfl⟩ : wr.grownBy wr.drew none)
      refine wp_region_held_drew (S := (fun Wh : World => W.grownBy Wh none ∧ Wh.cell? ⟨b, o + i, none⟩ = some (.int .i64 z))) (by kernel_rfl) (HS.out _ hdr) (fun hHeld => ?_)
      refine wpAnyH_take (i := 0) (oi := { dst := some 15, op := Op.fieldAddr 27 (Operand.tmp 5) 1, type := 0, pos := "ref.go:62", after := #[], guard := none }) (v := ?_) rfl (by kernel_rfl) (by kernel_rfl) (by kernel_rfl) (fun _ _ _ h => h) (Or.inl ⟨by rfl, ?_⟩) (by assumption) ?_
      rotate_left 1
      · (intro W hSW; (try dsimp only at hSW); first | (go_simp; done) | (go_simp; with_reducible rfl))
      try simp only [Act.put, List.setIfInBounds_toArray, List.set_cons_zero, List.set_cons_succ]
      refine wpAnyH_take (i := 2) (oi := { dst := some 17, op := Op.move (Operand.tmp 1), type := 25, pos := "ref.go:62", after := #[], guard := none }) (v := ?_) rfl (by kernel_rfl) (by kernel_rfl) (by kernel_rfl) (fun _ _ _ h => h) (Or.inl ⟨by rfl, ?_⟩) (by assumption) ?_
      rotate_left 1
      · (intro W hSW; (try dsimp only at hSW); first | (go_simp; done) | (go_simp; with_reducible rfl))
      try simp only [Act.put, List.setIfInBounds_toArray, List.set_cons_zero, List.set_cons_succ]
      refine wpAnyH_take (i := 3) (oi := { dst := some 18, op := Op.move (Operand.tmp 6), type := 3, pos := "ref.go:62", after := #[], guard := none }) (v := ?_) rfl (by kernel_rfl) (by kernel_rfl) (by kernel_rfl) (fun _ _ _ h => h) (Or.inl ⟨by rfl, ?_⟩) (by assumption) ?_
      rotate_left 1
      · (intro W hSW; (try dsimp only at hSW); first | (go_simp; done) | (go_simp; with_reducible rfl))
      try simp only [Act.put, List.setIfInBounds_toArray, List.set_cons_zero, List.set_cons_succ]
      refine wpAnyH_take (i := 4) (oi := { dst := some 19, op := Op.indexAddr 25 (Operand.tmp 17) (Operand.tmp 18), type := 0, pos := "ref.go:62", after := #[{ on := 2, ground := Ground.data }, { on := 3, ground := Ground.data }], guard := none }) (v := ?_) rfl (by kernel_rfl) (by kernel_rfl) (by kernel_rfl) (fun _ _ _ h => h) (Or.inl ⟨by rfl, ?_⟩) (by assumption) ?_
      rotate_left 1
      · (intro W hSW; (try dsimp only at hSW); first | (go_simp; done) | (go_simp; with_reducible rfl))
      try simp only [Act.put, List.setIfInBounds_toArray, List.set_cons_zero, List.set_cons_succ]
      refine wpAnyH_take (i := 5) (oi := { dst := some 20, op := Op.load 3 (Operand.tmp 19), type := 3, pos := "ref.go:62", after := #[{ on := 4, ground := Ground.data }], guard := none }) (v := ?_) rfl (by kernel_rfl) (by kernel_rfl) (by kernel_rfl) (fun _ _ _ h => h) (Or.inl ⟨by rfl, ?_⟩) (by assumption) ?_
      rotate_left 1
      · (intro W hSW; (try dsimp only at hSW); first | (go_simp; done) | (go_simp; with_reducible rfl))
      try simp only [Act.put, List.setIfInBounds_toArray, List.set_cons_zero, List.set_cons_succ]
      refine wpAnyH_ready (rs := [1]) (by kernel_rfl) (by simp) ?_
      refine (AllReadyH.cons (o := { dst := some 16, op := Op.load 25 (Operand.tmp 15), type := 25, pos := "ref.go:62", after := #[{ on := 0, ground := Ground.data }], guard := none }) rfl (fun K hK => ?_) AllReadyH.nil)
      rw [if_pos (by rfl)]
      have hrow := HBX.out.c1
      rw [HP.out.1] at hrow
      go_simp
      clear hrow
      refine hK.out _ _ (HS.out _ hdr) (fun hHeld => ?_)
      clear hK K
      try simp only [Act.put, List.setIfInBounds_toArray, List.set_cons_zero, List.set_cons_succ]
      refine wpAnyH_ready (rs := [6]) (by kernel_rfl) (by simp) ?_
      refine (AllReadyH.cons (o := { dst := some 21, op := Op.call { callee := Callee.value (Operand.func 42), args := #[Operand.tmp 16, Operand.tmp 20], argTypes := #[25, 3] }, type := 25, pos := "ref.go:62", after := #[{ on := 1, ground := Ground.data }, { on := 5, ground := Ground.data }], guard := none }) rfl (fun K hK => ?_) AllReadyH.nil)
      rw [if_pos (by rfl)]
      go_simp
      go_at_call 42
      refine (HAD.out wr.drew (⟨rfl, rfl, rfl, Nat.le_refl _, fun _ _ _ => rfl⟩ : wr.grownBy wr.drew none)).mono ?_
      rintro e wc2 ⟨a', c', rfl, hsA, gc2⟩
      have hgr2 := World.grownBy.trans hdr gc2
      go_wp2_with fail
      refine hK.out _ _ (HS.out _ hgr2) (fun hHeld => ?_)
      clear hK K
      try simp only [Act.put, List.setIfInBounds_toArray, List.set_cons_zero, List.set_cons_succ]
      refine wpAnyH_take (i := 7) (oi := { dst := some 22, op := Op.fieldAddr 27 (Operand.tmp 5) 1, type := 0, pos := "ref.go:62", after := #[{ on := 0, ground := Ground.phase }, { on := 1, ground := Ground.phase }, { on := 2, ground := Ground.phase }, { on := 3, ground := Ground.phase }, { on := 4, ground := Ground.phase }, { on := 5, ground := Ground.phase }, { on := 6, ground := Ground.phase }], guard := none }) (v := ?_) rfl (by kernel_rfl) (by kernel_rfl) (by kernel_rfl) (fun _ _ _ h => h) (Or.inl ⟨by rfl, ?_⟩) (by assumption) ?_
      rotate_left 1
      · (intro W hSW; (try dsimp only at hSW); first | (go_simp; done) | (go_simp; with_reducible rfl))
      try simp only [Act.put, List.setIfInBounds_toArray, List.set_cons_zero, List.set_cons_succ]
      refine wpAnyH_ready (rs := [8]) (by kernel_rfl) (by simp) ?_
      refine (AllReadyH.cons (o := { dst := none, op := Op.store 25 (Operand.tmp 22) (Operand.tmp 21), type := 0, pos := "ref.go:62", after := #[{ on := 7, ground := Ground.data }, { on := 6, ground := Ground.data }, { on := 6, ground := Ground.chain }, { on := 0, ground := Ground.phase }, { on := 1, ground := Ground.phase }, { on := 2, ground := Ground.phase }, { on := 3, ground := Ground.phase }, { on := 4, ground := Ground.phase }, { on := 5, ground := Ground.phase }, { on := 6, ground := Ground.phase }], guard := none }) rfl (fun K hK => ?_) AllReadyH.nil)
      rw [if_pos (by rfl)]
      have hbg := HBX.out.grown (World.grownBy.trans (⟨rfl, rfl, rfl, Nat.le_refl _, fun _ _ _ => rfl⟩ : wr.grownBy wr.drew none) gc2)
      have q1 := hbg.c1
      have q2 := hbg.f1
      go_simp
      clear q1 q2
      have hst := hbg.set hsA
      rw [HP.out.2] at hst
      have hgs := grown_own hgr2 (grown_set wc2 W.heap.size 1 (.slice a' p2 c')) (fun k hk => by cases hk; exact Nat.le_refl _)
      clear hbg
      refine hK.out _ _ (HS.out _ hgs) (fun hHeld => ?_)
      clear hK K
      try simp only [Act.put, List.setIfInBounds_toArray, List.set_cons_zero, List.set_cons_succ]
      refine wpAnyH_done (by kernel_rfl) ?_ _
      have hEND := hgs
      clear hHeld
      have HE := Lib.hid (And.intro hst hgs)
      clear hst hgs hEND hsA
      go_wp2_with fail
      go_roundg (n - (i + 1))
      case measure => rw [HI.out]; omega
      case rel => exact ⟨i + 1, _, _, rfl, rfl, by omega, HE.out.1, HE.out.2⟩
    · have hie : i = n := by omega
      subst hie
      have hinB : decide (i < i) = false := by simp
      obtain ⟨p, hp⟩ : ∃ p, (ofTo rs i).length = p := ⟨_, rfl⟩
      have r0 := HBX.out.c0
      have r1 := HBX.out.c1
      have hcs := HC.out
      have m0 := HWR.out.cell hcs.1 (by simp)
      have m1 := HWR.out.cell hcs.2.1 (by simp)
      have f0 := (grown_frozen HWR.out (show w.heap.size < W.heap.size by have := HSZ.out; omega) 0).trans hcs.2.2.1
      have f1 := (grown_frozen HWR.out (show w.heap.size < W.heap.size by have := HSZ.out; omega) 1).trans hcs.2.2.2
      rw [hp] at r1
      clear hcs
      go_wp2_with fail
      refine bodyPost_ret (results127 _ _ w.heap.size va p vc k rfl (by rw [World.cell?_setCell_other _ _ _ _ (by intro e; injection e with _ e; cases e)]; exact World.cell?_setCell_same _ _ _ m0) (World.cell?_setCell_same _ _ _ (by rw [World.cell?_setCell_other _ _ _ _ (by intro e; injection e with _ e; cases e)]; exact m1))) rfl ⟨va, vc, by rw [hp], ?_, ?_⟩
      · have hz1 : (wr.setCell ⟨w.heap.size, 0, none⟩ (.int .i64 k)).heap.size = wr.heap.size := by simp [World.setCell]
        have hz2 : ((wr.setCell ⟨w.heap.size, 0, none⟩ (.int .i64 k)).setCell ⟨w.heap.size, 1, none⟩ (.slice va p vc)).heap.size = wr.heap.size := by simp [World.setCell]
        have h1 := (HBX.out.sp.off (grown_set _ w.heap.size 0 (.int .i64 k)) (fun x e => by cases e; have := HSZ.out; exact .inl (by omega))).off (grown_set _ w.heap.size 1 (.slice va p vc)) (fun x e => by cases e; have := HSZ.out; exact .inl (by omega))
        exact h1.wide (by have := HSZ.out; omega) (by rw [hz2]; exact Nat.le_refl _) (Nat.le_refl _)
      · exact grown_own (grown_own (HG.out.trans HWR.out) (grown_set _ w.heap.size 0 _) (fun k hk => by cases hk; omega)) (grown_set _ w.heap.size 1 _) (fun k hk => by cases hk; omega)

theorem pow_small {n i : Nat} (hn : n ≤ 12) (hi : i ≤ 3) : n ^ i ≤ 1728 := Nat.le_trans (Nat.pow_le_pow_left hn i) (Nat.pow_le_pow_right (n := 12) (by omega) hi)
set_option maxRecDepth 100000 in
set_option maxHeartbeats 2000000 in
theorem power9_calls (n k : Nat) (w : World) (hn : n ≤ 12) (hk : k ≤ 3) :
    Calls Try.prog 39 #[.int .i64 (n : Int), .int .i64 (k : Int)] w fun e w' => e = .returned (.int .i64 ((n ^ k : Nat) : Int)) ∧ w' = w := by
  go_enter Try.func39, Try.ntmps39
  go_wp2_with fail
  go_loopg [5, 6] k (fun g s5 s6 wr => ∃ (i P : Nat), s6 = .int .i64 (i : Int) ∧ s5 = .int .i64 (P : Int) ∧ P = n ^ i ∧ g = k - i ∧ i ≤ k ∧ wr = w)
  case atStart => exact ⟨0, 1, rfl, rfl, rfl, rfl, Nat.zero_le _, rfl⟩
  case round =>
    obtain ⟨i, P, rfl, rfl, hP, hgi, hi, rfl⟩ := hrel
    have hPl : P ≤ 1728 := by rw [hP]; exact pow_small hn (by omega)
    have HI := Lib.hid (And.intro hgi hP); clear hgi hP
    by_cases hin : i < k
    · have f0 : decide (i < k) = true := by simpa using hin
      have f1 : decide (i < 3) = true := by simp; omega
      have f2 : decide ((i : Int) < 3) = true := by simp; omega
      have hmul : (P : Int) * (n : Int) = ((P * n : Nat) : Int) := by simp
      have hle : P * n ≤ 1728 * 12 := Nat.mul_le_mul hPl hn
      have hw : IntKind.i64.wrap ((P : Int) * (n : Int)) = ((P * n : Nat) : Int) := by rw [hmul]; exact IntWalk.i64_in _ (by omega)
      clear hmul
      obtain ⟨Z, hZ⟩ : ∃ Z, P * n = Z := ⟨_, rfl⟩
      rw [hZ] at hw
      have HZ : Hid (Z = n ^ (i + 1)) := Lib.hid (by rw [← hZ, HI.out.2, Nat.pow_succ])
      clear hZ hle
      go_wp2_with fail
      go_roundg (k - (i + 1))
      case measure => rw [HI.out.1]; omega
      case rel => exact ⟨i + 1, Z, rfl, rfl, HZ.out, rfl, by omega, rfl⟩
    · have hie : i = k := by omega
      subst hie
      have f0 : decide (i < i) = false := by simp
      go_wp2_with fail
      go_ret
      exact ⟨by rw [HI.out.2]; rfl, rfl⟩

end Go.Proofs.Ytkoigonbncpbaaa

/- The reference's Closure. -/
import Derived.Test.YtkoigonbncpbaaaS16
import Derived.Test.YtkoigonbncpbaaaB7s
import Derived.Deep.DeepCutAuto
namespace Go.Proofs.Ytkoigonbncpbaaa
open Go.RowKit Go.Shelf

/-- An append of a run of numbers, where the order of a region is drawn. -/
theorem ready_append_ints {ops : Array Oper} {o : Oper} {a : Act} {Q : Exit → Act → World → Prop} {K' : Act → World → Prop} {w : World} (s x : Operand) (hgd : o.guard = none)
    (ho : o.op = .call { callee := .builtin .append, args := #[s, x], argTypes := #[25, 25] })
    (base : Nat) (v : Value) (n : Nat) (l : List Int) (hs : a.eval s = v) (hown : w.ownsRow base 3 1 v n (intCells l))
    (xa : Option Addr) (m c : Nat) (news : List Int) (hx : a.eval x = .slice xa m c) (hm : news.length = m) (hi : IntsW w xa c news)
    (h63 : n + m ≤ 1000000) (hbase : base ≤ w.heap.size)
    (h : ∀ v' w', w'.ownsRow base 3 1 v' (n + m) (intCells (l ++ news)) → w.grownBy w' v.ownBlock → (v'.ownBlock = v.ownBlock ∨ v'.ownBlock = some w.heap.size) → K' (a.put o.dst v') w') :
    if Region.wanted o (yielded ops a.tmps) = true then Oper.wp Try.prog o a w K' Q else K' (a.put o.dst undef) w := by
  obtain ⟨i0, hi0, hz0, hz1, hz2⟩ := info_parts info3
  have hap : intCells (l ++ news) = intCells l ++ intCells news := by rw [intCells, intCells, intCells, List.map_append]
  have hw : Region.wanted o (yielded ops a.tmps) = true := by simp only [Region.wanted, hgd]
  rw [if_pos hw]
  cases xa with
  | none =>
    have h0 : news = [] := by
      rcases hi.2 with h0 | ⟨_, _, e, _⟩
      · exact h0
      · cases e
    subst h0
    obtain rfl : 0 = m := hm
    have hrun := run_append_nil hown o.type c
    unfold Oper.wp
    simp [execOp, ho, resolve, invoke, builtin, hs, hx, hrun, Result.andThen]
    refine h v w (by rw [List.append_nil]; exact hown) ?_ (.inl rfl)
    exact ⟨rfl, rfl, rfl, Nat.le_refl _, fun _ _ _ => rfl⟩
  | some ad =>
    obtain ⟨v', w', hr, h2, h3, h4, h5⟩ := run_append_own_at (P := Try.prog) w base 25 o.type 3 i0 (.int .i64 0) 1 8 Try.underlying25 hi0 hz0 hz1 hz2 rfl (by decide) v n (intCells l) hown ad m c (intCells news) (by rw [intCells_len, hm, Nat.mul_one]) (by
        intro j u hj
        rw [intCells, List.getElem?_map] at hj
        cases hq : news[j]? with
        | none => rw [hq] at hj; simp at hj
        | some z =>
          rw [hq] at hj
          simp only [Option.map_some, Option.some.injEq] at hj
          rcases hi.2 with h0 | ⟨b, o, e, hz⟩
          · rw [h0] at hq; simp at hq
          · cases e
            have hadd : (⟨b, o, none⟩ : Addr).add j = ⟨b, o + j, none⟩ := by unfold Addr.add; split <;> simp_all
            rw [hadd, ← hj]
            exact hz j z hq) (by
        intro u hu
        obtain ⟨x, _, rfl⟩ := List.mem_map.1 hu
        rfl) (by unfold maxLen; omega) (by omega) hbase
    unfold Oper.wp execOp
    simp only [ho, resolve, invoke, builtin, Sem.run_bind, Sem.run_pure, Result.andThen_ok, List.map_toArray, List.map_cons, List.map_nil, hs, hx, hr]
    exact h v' w' (by rw [hap]; exact h2) h3 h5

theorem span_ne {p lo hi : Nat} {w : World} {a : Option Addr} {c : Nat} {l : List Int} (h : Span lo hi w (fun W => IntsW W a c l)) (hl : l ≠ []) (hp : p < lo) : ∀ b o q, a = some ⟨b, o, q⟩ → b ≠ p := by
  rintro b o q rfl rfl
  obtain ⟨z, zs, rfl⟩ : ∃ z zs, l = z :: zs := by cases l with | nil => exact absurd rfl hl | cons z zs => exact ⟨z, zs, rfl⟩
  obtain ⟨b', o', e, hc⟩ := h.here.at (i := 0) (z := z) rfl
  cases e
  have h2 := h.2 (w.setCell ⟨b, o + 0, none⟩ (.bool true)) (fun k hk hh => (grown_set w b (o + 0) (.bool true)).block k (Nat.lt_of_lt_of_le hh h.1) (fun e => by injection e with e; omega))
  obtain ⟨b', o', e, hc2⟩ := h2.at (i := 0) (z := z) rfl
  cases e
  rw [World.cell?_setCell_same _ _ _ hc] at hc2
  cases hc2
theorem IntsW.off {w w' : World} {a : Option Addr} {c p : Nat} {l : List Int} (h : IntsW w a c l) (hg : w.grownBy w' (some p)) (hne : ∀ b o q, a = some ⟨b, o, q⟩ → b ≠ p) : IntsW w' a c l := by
  obtain ⟨hc, h | ⟨b, o, ha, hz⟩⟩ := h
  · exact ⟨hc, .inl h⟩
  · exact ⟨hc, .inr ⟨b, o, ha, fun j z hj => hg.cell (hz j z hj) (fun e => hne b o none ha (by injection e))⟩⟩
/-- A relation in a box, its row anywhere else. -/
structure BoxR (B p : Nat) (w : World) (k : Int) (va : Option Addr) (vc : Nat) (l : List Int) : Prop where
  c0 : w.cell? ⟨p, 0, none⟩ = some (.int .i64 k)
  c1 : w.cell? ⟨p, 1, none⟩ = some (.slice va l.length vc)
  f1 : w.frozen? ⟨p, 1, none⟩ = false
  iw : IntsW w va vc l
  ne : ∀ b o q, va = some ⟨b, o, q⟩ → B ≤ b ∧ b ≠ p
theorem BoxR.low {B p : Nat} {w : World} {k : Int} {va : Option Addr} {vc : Nat} {l : List Int} (h : BoxR B p w k va vc l) : p < w.heap.size := lies_lt h.c0
theorem BoxR.grown {B p : Nat} {w w' : World} {k : Int} {va : Option Addr} {vc : Nat} {l : List Int} (h : BoxR B p w k va vc l) (hg : w.grownBy w' none) : BoxR B p w' k va vc l :=
  ⟨hg.cell h.c0 (by simp), hg.cell h.c1 (by simp), (grown_frozen hg h.low 1).trans h.f1, h.iw.grown hg, h.ne⟩
theorem BoxR.set {B p lo hi : Nat} {w : World} {k : Int} {va va' : Option Addr} {vc vc' : Nat} {l l' : List Int} (h : BoxR B p w k va vc l) (hs : (va' = va ∧ vc' = vc ∧ l' = l) ∨ Span lo hi w (fun W => IntsW W va' vc' l')) (hp : p < lo) (hB : B ≤ lo) (hl : l' ≠ []) :
    BoxR B p (w.setCell ⟨p, 1, none⟩ (.slice va' l'.length vc')) k va' vc' l' := by
  refine ⟨?_, ?_, ?_, ?_, ?_⟩
  · rw [World.cell?_setCell_other _ _ _ _ (by intro e; injection e with _ e; cases e)]; exact h.c0
  · exact World.cell?_setCell_same _ _ _ h.c1
  · rw [World.frozen?_setCell]; exact h.f1
  · rcases hs with ⟨rfl, rfl, rfl⟩ | hs
    · exact h.iw.off (grown_set _ _ _ _) fun b o q e => (h.ne b o q e).2
    · exact (hs.off (grown_set _ _ _ _) (fun x e => by cases e; exact .inl hp)).here
  · rcases hs with ⟨rfl, rfl, rfl⟩ | hs
    · exact h.ne
    · exact fun b o q e => ⟨Nat.le_of_not_lt fun hlt => span_ne hs hl (Nat.lt_of_lt_of_le hlt hB) b o q e rfl, span_ne hs hl hp b o q e⟩
theorem uniq_id {xs : List Int} (h : Up xs) : uniq xs = xs := up_ext (uniq_up _) h fun _z => mem_uniq
theorem addL_ne {l : List Int} {z : Int} (h : Up l) : addL l z ≠ [] := fun e => by have := (mem_addL (z := z) (x := z) h).2 (.inr rfl); rw [e] at this; cases this

set_option maxRecDepth 100000 in
set_option maxHeartbeats 8000000 in
theorem add_calls2 (l : List Int) (a : Option Addr) (c : Nat) (z : Int) (w : World) (h : IntsW w a c l) (hl : l.length ≤ 10000) (hu : Up l) :
    Calls Try.prog 42 #[.slice a l.length c, .int .i64 z] w fun e w' => ∃ a' c', e = .returned (.slice a' (addL l z).length c') ∧ ((a' = a ∧ c' = c ∧ addL l z = l) ∨ Span w.heap.size w'.heap.size w' (fun W => IntsW W a' c' (addL l z))) ∧ w.grownBy w' none := by
  obtain ⟨n, hn⟩ : ∃ n, l.length = n := ⟨_, rfl⟩
  rw [hn] at hl ⊢
  have hc : n ≤ c := by rw [← hn]; exact h.1
  have HN := Lib.hid (And.intro hn (And.intro h (And.intro hu trivial))); clear hn h hu
  go_enter Try.func42, Try.ntmps42
  go_wp2_with fail
  go_loopg [5] n (fun g s5 wr => ∃ k : Nat, s5 = .int .i64 (k : Int) ∧ g = k ∧ k ≤ n ∧ (∀ (j : Nat) (y : Int), k ≤ j → l[j]? = some y → z ≤ y) ∧ wr = w)
  case atStart => exact ⟨n, rfl, rfl, Nat.le_refl _, fun j y hj hy => by have := (List.getElem?_eq_some_iff.1 hy).1; rw [HN.out.1] at this; omega, rfl⟩
  case round =>
    obtain ⟨k, rfl, hgi, hi, hok, rfl⟩ := hrel
    have HI := Lib.hid (And.intro hgi hok); clear hgi hok
    cases k with
    | zero =>
      obtain ⟨k, hk⟩ : ∃ k : Nat, k = 0 := ⟨_, rfl⟩
      have HBE : Hid (∀ (j : Nat) (y : Int), j < k → l[j]? = some y → y < z) := Lib.hid (fun j y hj => by omega)
      replace HI : Hid (∀ (j : Nat) (y : Int), k ≤ j → l[j]? = some y → z ≤ y) := Lib.hid (by rw [hk]; exact HI.out.2)
      have hkn : k ≤ n := by omega
      have f1 : decide (0 < (k : Int)) = false := by simp; omega
      have f2 : decide (0 < k) = false := by simp; omega
      rw [show ((0 : Nat) : Int) = (k : Int) by rw [hk]]
      clear hk hi
      by_cases hkl : k < n
      · have b0 : decide (k < n) = true := decide_eq_true hkl
        have bI : (k : Int) < (n : Int) := by omega
        obtain ⟨u, hu⟩ : ∃ u, l[k]? = some u := ⟨_, List.getElem?_eq_getElem (by rw [HN.out.1]; exact hkl)⟩
        obtain ⟨b, o, rfl, hcell⟩ := HN.out.2.1.at hu
        by_cases huz : u = z
        · have b1 : (u == z) = true := by simpa using huz
          have HR : Hid (addL l z = l) := Lib.hid (addL_has HN.out.2.2.1 (huz ▸ List.mem_of_getElem? hu))
          clear hu huz
          go_wp2_with fail
          go_ret
          exact ⟨_, _, by rw [HR.out, HN.out.1]; rfl, .inl ⟨rfl, rfl, HR.out⟩, grown_refl _ _⟩
        · have b1 : (u == z) = false := by simpa using huz
          have HC : Hid (addL l z = l.take k ++ [z] ++ l.drop k) := Lib.hid (addL_cut HN.out.2.2.1 HBE.out (fun j y hj hy => by
            by_cases hjk : j = k
            · subst hjk
              have h1 := HI.out j y hj hy
              rw [hu] at hy
              cases hy
              omega
            · have h1 := up_get HN.out.2.2.1 (show k < j by omega) hu hy
              have h2 := HI.out k u (Nat.le_refl _) hu
              omega))
          clear hu huz
          obtain ⟨hs1, hi1⟩ := slice_take HN.out.2.1 HN.out.1 hkn
          obtain ⟨a3, c3, hs3, hi3⟩ := slice_drop HN.out.2.1 HN.out.1 hkn
          have HI1 := Lib.hid (And.intro (show (l.take k).length = k by rw [List.length_take, HN.out.1]; omega) hi1); clear hi1
          have HI3 := Lib.hid (And.intro (show (l.drop k).length = n - k by rw [List.length_drop, HN.out.1]) hi3); clear hi3
          go_wp2_with (at_builtin; refine append_ints rfl _ _ rfl wr.heap.size _ 0 [] rfl (World.ownsRow_made wr #[] 0 (Nat.le_refl _) (Nat.zero_le _) rfl) (some ⟨b, o, none⟩) k c (l.take k) rfl HI1.out.1 (HI1.out.2.grown (World.grownBy_alloc wr _ none)) (by omega) (World.grownBy.size (World.grownBy_alloc wr (.cells #[] 3) none)) ?_)
          intro v1 x1 ho1 hg1
          replace ho1 : x1.ownsRow wr.heap.size 3 1 v1 k (intCells (l.take k)) := by simpa [intCells] using ho1
          obtain ⟨va1, vc1, rfl⟩ := own_shape ho1
          have HO1 := Lib.hid ho1; clear ho1
          have HG1 : Hid (wr.grownBy x1 none) := Lib.hid (grown_own (World.grownBy_alloc wr _ none) hg1 (fun k hk => by simp [Value.ownBlock] at hk; omega))
          clear hg1
          go_wp2_with (at_builtin; refine append_ints rfl _ _ rfl wr.heap.size _ k (l.take k) rfl (HO1.out.alloc _) (some ⟨x1.heap.size, 0, none⟩) 1 1 [z] rfl rfl (intsW_one x1 z) (by omega) (Nat.le_trans HG1.out.size (World.grownBy.size (World.grownBy_alloc x1 (.cells #[.int .i64 z] 3) none))) ?_)
          intro v2 x2 ho2 hg2
          replace ho2 : x2.ownsRow wr.heap.size 3 1 v2 (k + 1) (intCells (l.take k ++ [z])) := by simpa [intCells] using ho2
          obtain ⟨va2, vc2, rfl⟩ := own_shape ho2
          have HO2 := Lib.hid ho2; clear ho2
          have HG2 : Hid (wr.grownBy x2 none) := Lib.hid (grown_own (HG1.out.trans (World.grownBy_alloc x1 _ none)) hg2 (fun k hk => (HO1.out.lt k hk).1))
          clear hg2
          go_wp2_with (at_builtin; refine append_ints rfl _ _ rfl wr.heap.size _ (k + 1) (l.take k ++ [z]) rfl HO2.out a3 (n - k) c3 (l.drop k) rfl HI3.out.1 (HI3.out.2.grown HG2.out) (by omega) HG2.out.size ?_)
          intro v3 x3 ho3 hg3
          replace ho3 : x3.ownsRow wr.heap.size 3 1 v3 (k + 1 + (n - k)) (intCells (l.take k ++ [z] ++ l.drop k)) := by simpa [intCells] using ho3
          have hlen : (addL l z).length = k + 1 + (n - k) := by rw [HC.out]; simp only [List.length_append, List.length_take, List.length_drop, List.length_cons, List.length_nil, HN.out.1]; omega
          rw [← HC.out, ← hlen] at ho3
          obtain ⟨a', c', rfl, hi'⟩ := ints_span ho3
          have HR := Lib.hid (And.intro hi' (grown_own HG2.out hg3 (fun k hk => (HO2.out.lt k hk).1)))
          clear hi' ho3 hg3
          obtain ⟨q, hq⟩ : ∃ q, (addL l z).length = q := ⟨_, rfl⟩
          rw [hq]
          clear hlen hs1 hs3
          go_wp2_with fail
          go_ret
          exact ⟨a', c', by rw [hq]; rfl, .inr (HR.out.1.map (fun _ h => h.weak)), HR.out.2⟩
      · have b0 : decide (k < n) = false := decide_eq_false hkl
        have HC : Hid (addL l z = l.take k ++ [z] ++ l.drop k) := Lib.hid (addL_cut HN.out.2.2.1 HBE.out (fun j y hj hy => by
          have := (List.getElem?_eq_some_iff.1 hy).1
          rw [HN.out.1] at this
          omega))
        obtain ⟨hs1, hi1⟩ := slice_take HN.out.2.1 HN.out.1 hkn
        obtain ⟨a3, c3, hs3, hi3⟩ := slice_drop HN.out.2.1 HN.out.1 hkn
        have HI1 := Lib.hid (And.intro (show (l.take k).length = k by rw [List.length_take, HN.out.1]; omega) hi1); clear hi1
        have HI3 := Lib.hid (And.intro (show (l.drop k).length = n - k by rw [List.length_drop, HN.out.1]) hi3); clear hi3
        go_wp2_with (at_builtin; refine append_ints rfl _ _ rfl wr.heap.size _ 0 [] rfl (World.ownsRow_made wr #[] 0 (Nat.le_refl _) (Nat.zero_le _) rfl) a k c (l.take k) rfl HI1.out.1 (HI1.out.2.grown (World.grownBy_alloc wr _ none)) (by omega) (World.grownBy.size (World.grownBy_alloc wr (.cells #[] 3) none)) ?_)
        intro v1 x1 ho1 hg1
        replace ho1 : x1.ownsRow wr.heap.size 3 1 v1 k (intCells (l.take k)) := by simpa [intCells] using ho1
        obtain ⟨va1, vc1, rfl⟩ := own_shape ho1
        have HO1 := Lib.hid ho1; clear ho1
        have HG1 : Hid (wr.grownBy x1 none) := Lib.hid (grown_own (World.grownBy_alloc wr _ none) hg1 (fun k hk => by simp [Value.ownBlock] at hk; omega))
        clear hg1
        go_wp2_with (at_builtin; refine append_ints rfl _ _ rfl wr.heap.size _ k (l.take k) rfl (HO1.out.alloc _) (some ⟨x1.heap.size, 0, none⟩) 1 1 [z] rfl rfl (intsW_one x1 z) (by omega) (Nat.le_trans HG1.out.size (World.grownBy.size (World.grownBy_alloc x1 (.cells #[.int .i64 z] 3) none))) ?_)
        intro v2 x2 ho2 hg2
        replace ho2 : x2.ownsRow wr.heap.size 3 1 v2 (k + 1) (intCells (l.take k ++ [z])) := by simpa [intCells] using ho2
        obtain ⟨va2, vc2, rfl⟩ := own_shape ho2
        have HO2 := Lib.hid ho2; clear ho2
        have HG2 : Hid (wr.grownBy x2 none) := Lib.hid (grown_own (HG1.out.trans (World.grownBy_alloc x1 _ none)) hg2 (fun k hk => (HO1.out.lt k hk).1))
        clear hg2
        go_wp2_with (at_builtin; refine append_ints rfl _ _ rfl wr.heap.size _ (k + 1) (l.take k ++ [z]) rfl HO2.out a3 (n - k) c3 (l.drop k) rfl HI3.out.1 (HI3.out.2.grown HG2.out) (by omega) HG2.out.size ?_)
        intro v3 x3 ho3 hg3
        replace ho3 : x3.ownsRow wr.heap.size 3 1 v3 (k + 1 + (n - k)) (intCells (l.take k ++ [z] ++ l.drop k)) := by simpa [intCells] using ho3
        have hlen : (addL l z).length = k + 1 + (n - k) := by rw [HC.out]; simp only [List.length_append, List.length_take, List.length_drop, List.length_cons, List.length_nil, HN.out.1]; omega
        rw [← HC.out, ← hlen] at ho3
        obtain ⟨a', c', rfl, hi'⟩ := ints_span ho3
        have HR := Lib.hid (And.intro hi' (grown_own HG2.out hg3 (fun k hk => (HO2.out.lt k hk).1)))
        clear hi' ho3 hg3
        obtain ⟨q, hq⟩ : ∃ q, (addL l z).length = q := ⟨_, rfl⟩
        rw [hq]
        clear hlen hs1 hs3
        go_wp2_with fail
        go_ret
        exact ⟨a', c', by rw [hq]; rfl, .inr (HR.out.1.map (fun _ h => h.weak)), HR.out.2⟩
    | succ j =>
      obtain ⟨y, hy⟩ : ∃ y, l[j]? = some y := ⟨_, List.getElem?_eq_getElem (by rw [HN.out.1]; omega)⟩
      obtain ⟨b, o, rfl, hcell⟩ := HN.out.2.1.at hy
      have hj0 : (0 : Int) ≤ (j : Int) := by omega
      have hj3 : (j : Int) < (n : Int) := by omega
      have hwj : IntKind.i64.wrap (j : Int) = (j : Int) := IntWalk.i64_in _ (by omega)
      have f1 : decide (0 < (j : Int) + 1) = true := decide_eq_true (by omega)
      by_cases hzy : z ≤ y
      · have f2 : decide (z ≤ y) = true := decide_eq_true hzy
        have HS : Hid (∀ (i : Nat) (x : Int), j ≤ i → l[i]? = some x → z ≤ x) := Lib.hid (fun i x hi hx => by
          by_cases hij : i = j
          · subst hij; rw [hy] at hx; cases hx; exact hzy
          · exact HI.out.2 i x (by omega) hx)
        clear hy hzy
        go_wp2_with fail
        go_roundg j
        case measure => rw [HI.out.1]; omega
        case rel => exact ⟨j, rfl, rfl, by omega, HS.out, rfl⟩
      · have f2 : decide (z ≤ y) = false := decide_eq_false hzy
        obtain ⟨k, hk⟩ : ∃ k : Nat, k = j + 1 := ⟨_, rfl⟩
        have HBE : Hid (∀ (i : Nat) (x : Int), i < k → l[i]? = some x → x < z) := Lib.hid (fun i x hi hx => by
          by_cases hij : i = j
          · subst hij; rw [hy] at hx; cases hx; omega
          · have := up_get HN.out.2.2.1 (show i < j by omega) hx hy; omega)
        replace HI : Hid (∀ (j : Nat) (y : Int), k ≤ j → l[j]? = some y → z ≤ y) := Lib.hid (by rw [hk]; exact HI.out.2)
        have hkn : k ≤ n := by omega
        have hkj : (k : Int) - 1 = (j : Int) := by omega
        have f3 : decide (0 < (k : Int)) = true := decide_eq_true (by omega)
        have f4 : decide (0 < k) = true := decide_eq_true (by omega)
        rw [show ((j + 1 : Nat) : Int) = (k : Int) by rw [hk]]
        clear hk hi hy hzy f1
        by_cases hkl : k < n
        · have b0 : decide (k < n) = true := decide_eq_true hkl
          have bI : (k : Int) < (n : Int) := by omega
          obtain ⟨u, hu⟩ : ∃ u, l[k]? = some u := ⟨_, List.getElem?_eq_getElem (by rw [HN.out.1]; exact hkl)⟩
          obtain ⟨b', o', e', hcell⟩ := HN.out.2.1.at hu
          injection e' with e'
          injection e' with e1 e2 _
          subst e1 e2
          by_cases huz : u = z
          · have b1 : (u == z) = true := by simpa using huz
            have HR : Hid (addL l z = l) := Lib.hid (addL_has HN.out.2.2.1 (huz ▸ List.mem_of_getElem? hu))
            clear hu huz
            go_wp2_with fail
            go_ret
            exact ⟨_, _, by rw [HR.out, HN.out.1]; rfl, .inl ⟨rfl, rfl, HR.out⟩, grown_refl _ _⟩
          · have b1 : (u == z) = false := by simpa using huz
            have HC : Hid (addL l z = l.take k ++ [z] ++ l.drop k) := Lib.hid (addL_cut HN.out.2.2.1 HBE.out (fun j y hj hy => by
              by_cases hjk : j = k
              · subst hjk
                have h1 := HI.out j y hj hy
                rw [hu] at hy
                cases hy
                omega
              · have h1 := up_get HN.out.2.2.1 (show k < j by omega) hu hy
                have h2 := HI.out k u (Nat.le_refl _) hu
                omega))
            clear hu huz
            obtain ⟨hs1, hi1⟩ := slice_take HN.out.2.1 HN.out.1 hkn
            obtain ⟨a3, c3, hs3, hi3⟩ := slice_drop HN.out.2.1 HN.out.1 hkn
            have HI1 := Lib.hid (And.intro (show (l.take k).length = k by rw [List.length_take, HN.out.1]; omega) hi1); clear hi1
            have HI3 := Lib.hid (And.intro (show (l.drop k).length = n - k by rw [List.length_drop, HN.out.1]) hi3); clear hi3
            go_wp2_with (at_builtin; refine append_ints rfl _ _ rfl wr.heap.size _ 0 [] rfl (World.ownsRow_made wr #[] 0 (Nat.le_refl _) (Nat.zero_le _) rfl) (some ⟨b, o, none⟩) k c (l.take k) rfl HI1.out.1 (HI1.out.2.grown (World.grownBy_alloc wr _ none)) (by omega) (World.grownBy.size (World.grownBy_alloc wr (.cells #[] 3) none)) ?_)
            intro v1 x1 ho1 hg1
            replace ho1 : x1.ownsRow wr.heap.size 3 1 v1 k (intCells (l.take k)) := by simpa [intCells] using ho1
            obtain ⟨va1, vc1, rfl⟩ := own_shape ho1
            have HO1 := Lib.hid ho1; clear ho1
            have HG1 : Hid (wr.grownBy x1 none) := Lib.hid (grown_own (World.grownBy_alloc wr _ none) hg1 (fun k hk => by simp [Value.ownBlock] at hk; omega))
            clear hg1
            go_wp2_with (at_builtin; refine append_ints rfl _ _ rfl wr.heap.size _ k (l.take k) rfl (HO1.out.alloc _) (some ⟨x1.heap.size, 0, none⟩) 1 1 [z] rfl rfl (intsW_one x1 z) (by omega) (Nat.le_trans HG1.out.size (World.grownBy.size (World.grownBy_alloc x1 (.cells #[.int .i64 z] 3) none))) ?_)
            intro v2 x2 ho2 hg2
            replace ho2 : x2.ownsRow wr.heap.size 3 1 v2 (k + 1) (intCells (l.take k ++ [z])) := by simpa [intCells] using ho2
            obtain ⟨va2, vc2, rfl⟩ := own_shape ho2
            have HO2 := Lib.hid ho2; clear ho2
            have HG2 : Hid (wr.grownBy x2 none) := Lib.hid (grown_own (HG1.out.trans (World.grownBy_alloc x1 _ none)) hg2 (fun k hk => (HO1.out.lt k hk).1))
            clear hg2
            go_wp2_with (at_builtin; refine append_ints rfl _ _ rfl wr.heap.size _ (k + 1) (l.take k ++ [z]) rfl HO2.out a3 (n - k) c3 (l.drop k) rfl HI3.out.1 (HI3.out.2.grown HG2.out) (by omega) HG2.out.size ?_)
            intro v3 x3 ho3 hg3
            replace ho3 : x3.ownsRow wr.heap.size 3 1 v3 (k + 1 + (n - k)) (intCells (l.take k ++ [z] ++ l.drop k)) := by simpa [intCells] using ho3
            have hlen : (addL l z).length = k + 1 + (n - k) := by rw [HC.out]; simp only [List.length_append, List.length_take, List.length_drop, List.length_cons, List.length_nil, HN.out.1]; omega
            rw [← HC.out, ← hlen] at ho3
            obtain ⟨a', c', rfl, hi'⟩ := ints_span ho3
            have HR := Lib.hid (And.intro hi' (grown_own HG2.out hg3 (fun k hk => (HO2.out.lt k hk).1)))
            clear hi' ho3 hg3
            obtain ⟨q, hq⟩ : ∃ q, (addL l z).length = q := ⟨_, rfl⟩
            rw [hq]
            clear hlen hs1 hs3
            go_wp2_with fail
            go_ret
            exact ⟨a', c', by rw [hq]; rfl, .inr (HR.out.1.map (fun _ h => h.weak)), HR.out.2⟩
        · have b0 : decide (k < n) = false := decide_eq_false hkl
          have HC : Hid (addL l z = l.take k ++ [z] ++ l.drop k) := Lib.hid (addL_cut HN.out.2.2.1 HBE.out (fun j y hj hy => by
            have := (List.getElem?_eq_some_iff.1 hy).1
            rw [HN.out.1] at this
            omega))
          obtain ⟨hs1, hi1⟩ := slice_take HN.out.2.1 HN.out.1 hkn
          obtain ⟨a3, c3, hs3, hi3⟩ := slice_drop HN.out.2.1 HN.out.1 hkn
          have HI1 := Lib.hid (And.intro (show (l.take k).length = k by rw [List.length_take, HN.out.1]; omega) hi1); clear hi1
          have HI3 := Lib.hid (And.intro (show (l.drop k).length = n - k by rw [List.length_drop, HN.out.1]) hi3); clear hi3
          go_wp2_with (at_builtin; refine append_ints rfl _ _ rfl wr.heap.size _ 0 [] rfl (World.ownsRow_made wr #[] 0 (Nat.le_refl _) (Nat.zero_le _) rfl) (some ⟨b, o, none⟩) k c (l.take k) rfl HI1.out.1 (HI1.out.2.grown (World.grownBy_alloc wr _ none)) (by omega) (World.grownBy.size (World.grownBy_alloc wr (.cells #[] 3) none)) ?_)
          intro v1 x1 ho1 hg1
          replace ho1 : x1.ownsRow wr.heap.size 3 1 v1 k (intCells (l.take k)) := by simpa [intCells] using ho1
          obtain ⟨va1, vc1, rfl⟩ := own_shape ho1
          have HO1 := Lib.hid ho1; clear ho1
          have HG1 : Hid (wr.grownBy x1 none) := Lib.hid (grown_own (World.grownBy_alloc wr _ none) hg1 (fun k hk => by simp [Value.ownBlock] at hk; omega))
          clear hg1
          go_wp2_with (at_builtin; refine append_ints rfl _ _ rfl wr.heap.size _ k (l.take k) rfl (HO1.out.alloc _) (some ⟨x1.heap.size, 0, none⟩) 1 1 [z] rfl rfl (intsW_one x1 z) (by omega) (Nat.le_trans HG1.out.size (World.grownBy.size (World.grownBy_alloc x1 (.cells #[.int .i64 z] 3) none))) ?_)
          intro v2 x2 ho2 hg2
          replace ho2 : x2.ownsRow wr.heap.size 3 1 v2 (k + 1) (intCells (l.take k ++ [z])) := by simpa [intCells] using ho2
          obtain ⟨va2, vc2, rfl⟩ := own_shape ho2
          have HO2 := Lib.hid ho2; clear ho2
          have HG2 : Hid (wr.grownBy x2 none) := Lib.hid (grown_own (HG1.out.trans (World.grownBy_alloc x1 _ none)) hg2 (fun k hk => (HO1.out.lt k hk).1))
          clear hg2
          go_wp2_with (at_builtin; refine append_ints rfl _ _ rfl wr.heap.size _ (k + 1) (l.take k ++ [z]) rfl HO2.out a3 (n - k) c3 (l.drop k) rfl HI3.out.1 (HI3.out.2.grown HG2.out) (by omega) HG2.out.size ?_)
          intro v3 x3 ho3 hg3
          replace ho3 : x3.ownsRow wr.heap.size 3 1 v3 (k + 1 + (n - k)) (intCells (l.take k ++ [z] ++ l.drop k)) := by simpa [intCells] using ho3
          have hlen : (addL l z).length = k + 1 + (n - k) := by rw [HC.out]; simp only [List.length_append, List.length_take, List.length_drop, List.length_cons, List.length_nil, HN.out.1]; omega
          rw [← HC.out, ← hlen] at ho3
          obtain ⟨a', c', rfl, hi'⟩ := ints_span ho3
          have HR := Lib.hid (And.intro hi' (grown_own HG2.out hg3 (fun k hk => (HO2.out.lt k hk).1)))
          clear hi' ho3 hg3
          obtain ⟨q, hq⟩ : ∃ q, (addL l z).length = q := ⟨_, rfl⟩
          rw [hq]
          clear hlen hs1 hs3
          go_wp2_with fail
          go_ret
          exact ⟨a', c', by rw [hq]; rfl, .inr (HR.out.1.map (fun _ h => h.weak)), HR.out.2⟩
theorem results24 (tmps : Array Value) (w : World) (b : Nat) (a : Option Addr) (n c : Nat) (x : Int) (ht : tmps.getD 4 undef = .pointer (some ⟨b, 0, none⟩)) (h0 : w.cell? ⟨b, 0, none⟩ = some (.int .i64 x)) (h1 : w.cell? ⟨b, 1, none⟩ = some (.slice a n c)) :
    (results Try.f24 tmps).run Try.prog w = .ok (.agg #[.int .i64 x, .slice a n c]) w := by
  have ht' : tmps[4]?.getD undef = .pointer (some ⟨b, 0, none⟩) := by simpa using ht
  simp [results, ht', go_sem, h0, h1, Result.andThen]

set_option maxRecDepth 100000 in
set_option maxHeartbeats 8000000 in
theorem rClosure_calls (n : Nat) (k : Int) (xs : List Int) (xa : Option Addr) (xc : Nat) (w : World) (h : IntsW w xa xc xs) (hl : xs.length ≤ 300) (hn2 : n ≤ 5) (hup : Up xs) :
    Calls Try.prog 24 #[.int .i64 (n : Int), .agg #[.int .i64 k, .slice xa xs.length xc]] w fun e w' => ∃ a c, e = .returned (.agg #[.int .i64 2, .slice a (uniq (closS n xs)).length c]) ∧ IntsW w' a c (uniq (closS n xs)) ∧ w.grownBy w' none := by
  obtain ⟨m, hm⟩ : ∃ m, xs.length = m := ⟨_, rfl⟩
  have hc := two_cells w (.int .i64 k) (.slice xa m xc) (.int .i64 0) (.slice none 0 0) 27 27
  have hg := (World.grownBy_alloc w (.cells #[.int .i64 k, .slice xa m xc] 27) none).trans (World.grownBy_alloc (w.alloc (.cells #[.int .i64 k, .slice xa m xc] 27)) (.cells #[.int .i64 0, .slice none 0 0] 27) none)
  have hsz : ((w.alloc (.cells #[.int .i64 k, .slice xa m xc] 27)).alloc (.cells #[.int .i64 0, .slice none 0 0] 27)).heap.size = w.heap.size + 2 := by simp
  obtain ⟨W, hW⟩ : ∃ W, (w.alloc (.cells #[.int .i64 k, .slice xa m xc] 27)).alloc (.cells #[.int .i64 0, .slice none 0 0] 27) = W := ⟨_, rfl⟩
  rw [hW] at hc hg hsz
  have HH := Lib.hid (And.intro (h.grown hg) hm)
  have HUP := Lib.hid hup
  rw [hm] at hl ⊢
  clear h hm hup
  have HG := Lib.hid (And.intro hg hsz); clear hg hsz
  have HC := Lib.hid hc
  have HNN := Lib.hid (And.intro hn2 (show n * n ≤ 25 from Nat.mul_le_mul hn2 hn2))
  have HL := Lib.hid hl
  obtain ⟨p9, hp9⟩ : ∃ p, (uniq (closS n xs)).length = p := ⟨_, rfl⟩
  rw [hp9]
  have HP9 := Lib.hid hp9
  clear hp9
  obtain ⟨_, c0, c1, d0, d1, f0, f1⟩ := hc
  have c1' := (World.grownBy_alloc W (.cells #[] 3) none).cell c1 (by simp)
  go_enter Try.func24, Try.ntmps24
  go_wp2_with (at_builtin; refine append_ints rfl _ _ rfl W.heap.size _ 0 [] rfl (World.ownsRow_made W #[] 0 (Nat.le_refl _) (Nat.zero_le _) rfl) xa m xc xs rfl HH.out.2 (HH.out.1.grown (World.grownBy_alloc W _ none)) (by omega) (World.grownBy.size (World.grownBy_alloc W (.cells #[] 3) none)) ?_)
  intro v1 x1 ho1 hg1
  replace ho1 : x1.ownsRow W.heap.size 3 1 v1 m (intCells xs) := by simpa [intCells] using ho1
  obtain ⟨va, vc, rfl⟩ := own_shape ho1
  have HO1 := Lib.hid ho1; clear ho1
  have HG1 : Hid (W.grownBy x1 none) := Lib.hid (grown_own (World.grownBy_alloc W _ none) hg1 (fun k hk => by simp [Value.ownBlock] at hk; omega))
  clear hg1 hW c0 c1 c1' d0 d1 f0 f1 hl
  have hgB := World.grownBy_alloc x1 (.cells #[.int .i64 2, .slice va m vc] 27) none
  have hb := one_cells x1 (.int .i64 2) (.slice va m vc) 27
  go_wp2_with fail
  obtain ⟨x2, hx2⟩ : ∃ z, World.alloc x1 (.cells #[.int .i64 2, .slice va m vc] 27) = z := ⟨_, rfl⟩
  rw [hx2] at hgB hb ⊢
  clear hx2
  obtain ⟨p, hp⟩ : ∃ p, x1.heap.size = p := ⟨_, rfl⟩
  have HB0 := Lib.hid (show BoxR W.heap.size p x2 2 va vc (uniq (runM n 0 xs)) by
    rw [show uniq (runM n 0 xs) = xs from uniq_id HUP.out]
    rw [hp] at hb
    obtain ⟨a9, c9, e9, hi9⟩ := ints_span (l := xs) (by rw [HH.out.2]; exact HO1.out)
    cases e9
    refine ⟨hb.2.1, by rw [HH.out.2]; exact hb.2.2.1, hb.2.2.2.2, hi9.here.weak.grown hgB, ?_⟩
    rintro b o q rfl
    have h1 := HO1.out.lt b rfl
    exact ⟨h1.1, by omega⟩)
  have HPW := Lib.hid (show W.heap.size ≤ p by rw [← hp]; exact World.grownBy.size HG1.out)
  have HG0 := Lib.hid (HG1.out.trans hgB)
  rw [hp]
  clear hgB hb hp
  have hn12 : n ≤ 5 := HNN.out.1
  go_loopg [6] n (fun g s6 wr => ∃ (v : Nat) (va : Option Addr) (vc : Nat), s6 = .int .i64 (v : Int) ∧ g = n - v ∧ v ≤ n ∧ BoxR W.heap.size p wr 2 va vc (uniq (runM n v xs)) ∧ W.grownBy wr none)
  case atStart => exact ⟨0, va, vc, rfl, rfl, Nat.zero_le _, HB0.out, HG0.out⟩
  case round =>
    obtain ⟨v, va, vc, rfl, hgk, hv, hsd, hgr⟩ := hrel
    have HSV := Lib.hid hsd; clear hsd
    have HWV := Lib.hid hgr; clear hgr
    have HIV := Lib.hid hgk; clear hgk
    by_cases hvn : v < n
    · have hvB : decide (v < n) = true := by simpa using hvn
      have hvC : decide (v < 12) = true := by simp; omega
      have hvD : decide ((v : Int) < 12) = true := by simp; omega
      go_wp2_with fail
      obtain ⟨wo2, rfl⟩ : ∃ wo, wo = wr := ⟨_, rfl⟩
      go_loopg [7] n (fun g s7 wr => ∃ (f : Nat) (va : Option Addr) (vc : Nat), s7 = .int .i64 (f : Int) ∧ g = n - f ∧ f ≤ n ∧ BoxR W.heap.size p wr 2 va vc (uniq (runF n v f (runM n v xs))) ∧ W.grownBy wr none)
      case atStart => exact ⟨0, va, vc, rfl, rfl, Nat.zero_le _, HSV.out, HWV.out⟩
      case round =>
        obtain ⟨f, va, vc, rfl, hgk, hf, hsd, hgr⟩ := hrel
        have HSF := Lib.hid hsd; clear hsd
        have HWF := Lib.hid hgr; clear hgr
        have HIF := Lib.hid hgk; clear hgk
        by_cases hfn : f < n
        · have hfB : decide (f < n) = true := by simpa using hfn
          have hfC : decide (f < 12) = true := by simp; omega
          have hfD : decide ((f : Int) < 12) = true := by simp; omega
          go_wp2_with fail
          obtain ⟨wo3, rfl⟩ : ∃ wo, wo = wr := ⟨_, rfl⟩
          go_loopg [8] n (fun g s8 wr => ∃ (t : Nat) (va : Option Addr) (vc : Nat), s8 = .int .i64 (t : Int) ∧ g = n - t ∧ t ≤ n ∧ BoxR W.heap.size p wr 2 va vc (uniq (runT n v f t (runF n v f (runM n v xs)))) ∧ W.grownBy wr none)
          case atStart => exact ⟨0, va, vc, rfl, rfl, Nat.zero_le _, HSF.out, HWF.out⟩
          case round =>
            obtain ⟨t, va, vc, rfl, hgk, ht, hsd, hgr⟩ := hrel
            have HST := Lib.hid hsd; clear hsd
            have HWT := Lib.hid hgr; clear hgr
            have HIT := Lib.hid hgk; clear hgk
            by_cases htn : t < n
            · have htB : decide (t < n) = true := by simpa using htn
              have htC : decide (t < 12) = true := by simp; omega
              have htD : decide ((t : Int) < 12) = true := by simp; omega
              obtain ⟨S, hS⟩ : ∃ S, runT n v f t (runF n v f (runM n v xs)) = S := ⟨_, rfl⟩
              have hlen : S.length ≤ 1000 := by
                rw [← hS]
                have h1 := runT_len n v f t (runF n v f (runM n v xs)); have h2 := runF_len n v f (runM n v xs); have h3 := runM_len n v xs
                have h4 : f * n ≤ 25 := Nat.le_trans (Nat.mul_le_mul (Nat.le_of_lt hfn) (Nat.le_refl n)) HNN.out.2
                have h5 : v * (n * n) ≤ 5 * 25 := Nat.mul_le_mul (by have := HNN.out.1; omega) HNN.out.2
                have h6 := HL.out; have h7 := HH.out.2; have h8 := HNN.out.1
                omega
              have hnx : runT n v f (t + 1) (runF n v f (runM n v xs)) = stepC n v f t S := by rw [← hS]; rfl
              rw [hS] at HST
              have HLEN := Lib.hid (And.intro hlen hnx); clear hlen hnx hS
              obtain ⟨P1, hP1⟩ : ∃ P, f * n = P := ⟨_, rfl⟩
              obtain ⟨P2, hP2⟩ : ∃ P, v * n = P := ⟨_, rfl⟩
              have hb1 : P1 ≤ 25 := by rw [← hP1]; exact Nat.le_trans (Nat.mul_le_mul (Nat.le_of_lt hfn) (Nat.le_refl n)) HNN.out.2
              have hb2 : P2 ≤ 25 := by rw [← hP2]; exact Nat.le_trans (Nat.mul_le_mul (Nat.le_of_lt hvn) (Nat.le_refl n)) HNN.out.2
              obtain ⟨V1, hV1⟩ : ∃ V, P1 + v = V := ⟨_, rfl⟩
              obtain ⟨V2, hV2⟩ : ∃ V, P2 + t = V := ⟨_, rfl⟩
              obtain ⟨V3, hV3⟩ : ∃ V, P1 + t = V := ⟨_, rfl⟩
              have hw1 : IntKind.i64.wrap ((f : Int) * (n : Int)) = (P1 : Int) := by rw [show (f : Int) * (n : Int) = (P1 : Int) by rw [← hP1]; simp]; exact IntWalk.i64_in _ (by omega)
              have hw2 : IntKind.i64.wrap ((v : Int) * (n : Int)) = (P2 : Int) := by rw [show (v : Int) * (n : Int) = (P2 : Int) by rw [← hP2]; simp]; exact IntWalk.i64_in _ (by omega)
              have hw3 : IntKind.i64.wrap ((P1 : Int) + (v : Int)) = (V1 : Int) := by rw [IntWalk.i64_in _ (by omega)]; omega
              have hw4 : IntKind.i64.wrap ((P2 : Int) + (t : Int)) = (V2 : Int) := by rw [IntWalk.i64_in _ (by omega)]; omega
              have hw5 : IntKind.i64.wrap ((P1 : Int) + (t : Int)) = (V3 : Int) := by rw [IntWalk.i64_in _ (by omega)]; omega
              obtain ⟨B1, hB1⟩ : ∃ B, decide ((V1 : Int) ∈ S) = B := ⟨_, rfl⟩
              obtain ⟨B2, hB2⟩ : ∃ B, decide ((V2 : Int) ∈ S) = B := ⟨_, rfl⟩
              have hu1 : decide ((V1 : Int) ∈ uniq S) = B1 := by rw [← hB1]; exact decide_eq_decide.2 mem_uniq
              have hu2 : decide ((V2 : Int) ∈ uniq S) = B2 := by rw [← hB2]; exact decide_eq_decide.2 mem_uniq
              obtain ⟨q, hq⟩ : ∃ q, (uniq S).length = q := ⟨_, rfl⟩
              obtain ⟨p2, hp2⟩ : ∃ q, (addL (uniq S) (V3 : Int)).length = q := ⟨_, rfl⟩
              have HQ := Lib.hid hq
              have HQ2 := Lib.hid hp2
              have HK1 := Lib.hid (show ∀ (U : World), wr.grownBy U none → Calls Try.prog 47 #[.agg #[.int .i64 2, .slice va q vc], .int .i64 (V1 : Int)] U fun e w' => e = .returned (.bool B1) ∧ U.grownBy w' none from fun U g => by
                have h := has_calls 2 (uniq S) va vc (V1 : Int) U (HST.out.iw.grown g) (by have h1 := uniq_len S; have h2 := HLEN.out.1; omega) (uniq_up S)
                rw [hq, hu1] at h
                exact h)
              have HK2 := Lib.hid (show ∀ (U : World), wr.grownBy U none → Calls Try.prog 47 #[.agg #[.int .i64 2, .slice va q vc], .int .i64 (V2 : Int)] U fun e w' => e = .returned (.bool B2) ∧ U.grownBy w' none from fun U g => by
                have h := has_calls 2 (uniq S) va vc (V2 : Int) U (HST.out.iw.grown g) (by have h1 := uniq_len S; have h2 := HLEN.out.1; omega) (uniq_up S)
                rw [hq, hu2] at h
                exact h)
              have HSTEP := Lib.hid (show stepC n v f t S = if B1 = true ∧ B2 = true then S ++ [(V3 : Int)] else S by
                unfold stepC
                rw [hP1, hP2, hV1, hV2, hV3, ← hB1, ← hB2]
                simp only [decide_eq_true_eq])
              clear hP1 hP2 hV1 hV2 hV3 hB1 hB2 hb1 hb2 hu1 hu2
              have r0 := HST.out.c0
              have r1 := HST.out.c1
              rw [hq] at r1
              clear hq hp2
              go_wp2_with fail
              refine (HK1.out _ (grown_refl _ _)).mono ?_
              rintro e wa ⟨rfl, ga⟩
              replace r0 := ga.cell r0 (by simp)
              replace r1 := ga.cell r1 (by simp)
              have HGA := Lib.hid ga; clear ga
              cases B1 with
              | false =>
                go_wp2_with fail
                go_roundg (n - (t + 1))
                case measure => rw [HIT.out]; omega
                case rel => exact ⟨t + 1, va, vc, rfl, rfl, by omega, by rw [HLEN.out.2, HSTEP.out]; simpa using HST.out.grown HGA.out, HWT.out.trans HGA.out⟩
              | true =>
                go_wp2_with fail
                refine (HK2.out _ HGA.out).mono ?_
                rintro e wb ⟨rfl, gb⟩
                replace r0 := gb.cell r0 (by simp)
                replace r1 := gb.cell r1 (by simp)
                have HGB := Lib.hid (World.grownBy.trans HGA.out gb); clear gb
                cases B2 with
                | false =>
                  go_wp2_with fail
                  go_roundg (n - (t + 1))
                  case measure => rw [HIT.out]; omega
                  case rel => exact ⟨t + 1, va, vc, rfl, rfl, by omega, by rw [HLEN.out.2, HSTEP.out]; simpa using HST.out.grown HGB.out, HWT.out.trans HGB.out⟩
                | true =>
                  go_wp2_with fail
                  have hlo := (HST.out.grown HGB.out).low
                  have hAD := add_calls2 (uniq S) va vc (V3 : Int) wb (HST.out.iw.grown HGB.out) (by have h1 := uniq_len S; have h2 := HLEN.out.1; omega) (uniq_up S)
                  rw [HQ.out, HQ2.out] at hAD
                  refine hAD.mono ?_
                  rintro e wd ⟨a', c', rfl, hsA, gd⟩
                  clear hAD
                  have hbg := HST.out.grown (World.grownBy.trans HGB.out gd)
                  have q1 := hbg.c1
                  have q2 := hbg.f1
                  rw [HQ.out] at q1
                  have hst := hbg.set hsA hlo (World.grownBy.size (HWT.out.trans HGB.out)) (addL_ne (uniq_up _))
                  rw [HQ2.out] at hst
                  have hgs := grown_own (HWT.out.trans (World.grownBy.trans HGB.out gd)) (grown_set wd p 1 (.slice a' p2 c')) (fun k hk => by cases hk; exact HPW.out)
                  have HE2 := Lib.hid (And.intro hst hgs)
                  clear hst hgs hbg hsA gd hlo r0 r1
                  go_wp2_with fail
                  go_roundg (n - (t + 1))
                  case measure => rw [HIT.out]; omega
                  case rel => exact ⟨t + 1, a', c', rfl, rfl, by omega, by rw [HLEN.out.2, HSTEP.out]; simp only [and_self, if_true]; rw [uniq_snoc]; exact HE2.out.1, HE2.out.2⟩
            · have hte : t = n := by omega
              subst hte
              have htB : decide (t < t) = false := by simp
              go_wp2_with fail
              go_roundg (t - (f + 1))
              case measure => rw [HIF.out]; omega
              case rel => exact ⟨f + 1, va, vc, rfl, rfl, by omega, HST.out, HWT.out⟩
        · have hfe : f = n := by omega
          subst hfe
          have hfB : decide (f < f) = false := by simp
          go_wp2_with fail
          go_roundg (f - (v + 1))
          case measure => rw [HIV.out]; omega
          case rel => exact ⟨v + 1, va, vc, rfl, rfl, by omega, HSF.out, HWF.out⟩
    · have hve : v = n := by omega
      subst hve
      have hvB : decide (v < v) = false := by simp
      have r0 := HSV.out.c0
      have r1 := HSV.out.c1
      have hp9 := HP9.out
      have hr1 : wr.cell? ⟨p, 1, none⟩ = some (.slice va p9 vc) := by rw [← hp9]; exact r1
      clear r1 hp9
      have hcs := HC.out
      have m0 := HWV.out.cell hcs.2.2.2.1 (by simp)
      have m1 := HWV.out.cell hcs.2.2.2.2.1 (by simp)
      have f0 := (grown_frozen HWV.out (show w.heap.size + 1 < W.heap.size by have := HG.out.2; omega) 0).trans hcs.2.2.2.2.2.1
      have f1 := (grown_frozen HWV.out (show w.heap.size + 1 < W.heap.size by have := HG.out.2; omega) 1).trans hcs.2.2.2.2.2.2
      clear hcs
      go_wp2_with fail
      refine bodyPost_ret (results24 _ _ (w.heap.size + 1) va p9 vc 2 rfl (by rw [World.cell?_setCell_other _ _ _ _ (by intro e; injection e with _ e; cases e)]; exact World.cell?_setCell_same _ _ _ m0) (World.cell?_setCell_same _ _ _ (by rw [World.cell?_setCell_other _ _ _ _ (by intro e; injection e with _ e; cases e)]; exact m1))) rfl ⟨va, vc, rfl, ?_, ?_⟩
      · refine (HSV.out.iw.off (grown_set _ (w.heap.size + 1) 0 (.int .i64 2)) (fun b o q e => by have := (HSV.out.ne b o q e).1; have := HG.out.2; omega)).off (grown_set _ (w.heap.size + 1) 1 (.slice va p9 vc)) (fun b o q e => by have := (HSV.out.ne b o q e).1; have := HG.out.2; omega)
      · exact grown_own (grown_own (HG.out.1.trans HWV.out) (grown_set _ (w.heap.size + 1) 0 _) (fun k hk => by cases hk; omega)) (grown_set _ (w.heap.size + 1) 1 _) (fun k hk => by cases hk; omega)
end Go.Proofs.Ytkoigonbncpbaaa

/- Texts of the proof: FW OS LL. -/
import Derived.Test.YtihaheinkpmnnaaGreatCA26
import Derived.Test.YtihaheinkpmnnaaGreatCA33
import Derived.Test.YtihaheinkpmnnaaGreatCA15
import Derived.Test.YtihaheinkpmnnaaGreatCA18
namespace Go.Proofs.YtihaheinkpmnnaaGreat
set_option maxRecDepth 200000
open Go.RowKit
def fewB (Y : List (List Int)) (l : List St) : Bool := decide (Y.length ≤ 6) && (decide (l.length ≤ 40) && (Y.all (fun c => decide (c.length ≤ 12)) && l.all (fun x => decide (x.2.1.length ≤ 12))))
theorem all_take_next {α : Type} {l : List α} {k : Nat} {x : α} {f : α → Bool} (hx : l[k]? = some x) (h : (l.take k).all f = true) (hf : f x = true) : (l.take (k + 1)).all f = true := by
  rw [List.take_add_one, hx, Option.toList_some, List.all_append, h]; simp [hf]
theorem all_bad {α : Type} {l : List α} {k : Nat} {x : α} {f : α → Bool} (hx : l[k]? = some x) (hf : f x = false) : l.all f = false := by
  rw [List.all_eq_false]; exact ⟨x, List.mem_of_getElem? hx, by rw [hf]; decide⟩
set_option maxHeartbeats 4000000 in
theorem few_calls (Y : List (List Int)) (ya : Option Addr) (yc : Nat) (l : List St) (la : Option Addr) (lc : Nat) (w : World) (hY : ClsW w ya yc Y) (hl : StepsW w la lc l) (hm : (l.length : Int) ≤ 9223372036854775807) (hm' : (Y.length : Int) ≤ 9223372036854775807) :
    Calls Tryz.prog 12 #[.slice ya Y.length yc, .slice la l.length lc] w fun e w' => e = .returned (.bool (fewB Y l)) ∧ w' = w := by
  obtain ⟨yn, hyn⟩ : ∃ z, Y.length = z := ⟨_, rfl⟩
  obtain ⟨n, hn⟩ : ∃ z, l.length = z := ⟨_, rfl⟩
  have HH := Lib.hid (And.intro hY (And.intro hl (And.intro hyn hn)))
  rw [hyn] at hm' ⊢
  rw [hn] at hm ⊢
  clear hY hl hyn hn
  by_cases h6 : 6 < yn
  · have f1 : decide ((6 : Int) < (yn : Int)) = true := decide_eq_true (by omega)
    have f1' : decide (6 < yn) = true := decide_eq_true h6
    have f1'' : decide ((yn : Int) > 6) = true := decide_eq_true (by omega)
    have HR : Hid (fewB Y l = false) := Lib.hid (by unfold fewB; rw [HH.out.2.2.1, decide_eq_false (by omega)]; rfl)
    clear h6
    go_enter Tryz.func12, Tryz.ntmps12
    go_wp2_with fail
    go_ret
    exact ⟨by rw [HR.out]; rfl, rfl⟩
  have f1 : decide ((6 : Int) < (yn : Int)) = false := decide_eq_false (by omega)
  have f1' : decide (6 < yn) = false := decide_eq_false h6
  have f1'' : decide ((yn : Int) > 6) = false := decide_eq_false (by omega)
  by_cases h40 : 40 < n
  · have f2 : decide ((40 : Int) < (n : Int)) = true := decide_eq_true (by omega)
    have f2' : decide (40 < n) = true := decide_eq_true h40
    have f2'' : decide ((n : Int) > 40) = true := decide_eq_true (by omega)
    have HR : Hid (fewB Y l = false) := Lib.hid (by unfold fewB; rw [HH.out.2.2.2, decide_eq_false (p := n ≤ 40) (by omega)]; simp)
    clear h40 h6
    go_enter Tryz.func12, Tryz.ntmps12
    go_wp2_with fail
    go_ret
    exact ⟨by rw [HR.out]; rfl, rfl⟩
  have f2 : decide ((40 : Int) < (n : Int)) = false := decide_eq_false (by omega)
  have f2' : decide (40 < n) = false := decide_eq_false h40
  have f2'' : decide ((n : Int) > 40) = false := decide_eq_false (by omega)
  go_enter Tryz.func12, Tryz.ntmps12
  go_wp2_with fail
  clear f1 f1' f1'' f2 f2' f2''
  go_loopg [5] yn (fun gk s5 w' => ∃ k : Nat, s5 = .int .i64 (k : Int) ∧ gk = yn - k ∧ k ≤ yn ∧ w' = w ∧ (Y.take k).all (fun c => decide (c.length ≤ 12)) = true)
  case atStart => exact ⟨0, rfl, rfl, by omega, rfl, rfl⟩
  case round =>
    obtain ⟨k, rfl, hgk, hk, rfl, hall⟩ := hrel
    have HI := Lib.hid (And.intro hgk hall)
    clear hgk hall
    by_cases hkn : k < yn
    · have f3 : decide ((k : Int) < (yn : Int)) = true := decide_eq_true (by omega)
      have f3' : decide (k < yn) = true := decide_eq_true hkn
      have i0 : (0 : Int) ≤ (k : Int) := by omega
      have i1 : (k : Int) < (yn : Int) := by omega
      have k1 : IntKind.i64.wrap ((k : Int) + 1) = (k : Int) + 1 := IntWalk.i64_in _ (by omega)
      obtain ⟨z, hz⟩ : ∃ z, Y[k]? = some z := ⟨_, List.getElem?_eq_getElem (by rw [HH.out.2.2.1]; exact hkn)⟩
      obtain ⟨bz, oz, az, cz, rfl, hcell, _⟩ := HH.out.1.at hz
      have HZ := Lib.hid hz
      obtain ⟨zn, hzn⟩ : ∃ x, z.length = x := ⟨_, rfl⟩
      have HZN := Lib.hid hzn
      rw [hzn] at hcell
      clear hz hzn
      by_cases h12 : 12 < zn
      · have f4 : decide ((12 : Int) < (zn : Int)) = true := decide_eq_true (by omega)
        have f4' : decide (12 < zn) = true := decide_eq_true h12
        have f4'' : decide ((zn : Int) > 12) = true := decide_eq_true (by omega)
        have HR : Hid (fewB Y l = false) := Lib.hid (by
          unfold fewB; rw [all_bad (f := fun c => decide (c.length ≤ 12)) HZ.out (by rw [HZN.out]; exact decide_eq_false (by omega))]; simp)
        clear h12
        go_wp2_with fail
        go_ret
        exact ⟨by rw [HR.out]; rfl, rfl⟩
      · have f4 : decide ((12 : Int) < (zn : Int)) = false := decide_eq_false (by omega)
        have f4' : decide (12 < zn) = false := decide_eq_false h12
        have f4'' : decide ((zn : Int) > 12) = false := decide_eq_false (by omega)
        go_wp2_with fail
        go_roundg (yn - (k + 1))
        case measure => rw [HI.out.1]; omega
        case rel => exact ⟨k + 1, rfl, rfl, by omega, rfl, all_take_next HZ.out HI.out.2 (by rw [HZN.out]; exact decide_eq_true (by omega))⟩
    · have hke : k = yn := by omega
      subst hke
      have f3 : decide ((k : Int) < (k : Int)) = false := decide_eq_false (by omega)
      have f3' : decide (k < k) = false := by simp
      have HA : Hid (Y.all (fun c => decide (c.length ≤ 12)) = true) := Lib.hid (by
        have := HI.out.2
        rwa [List.take_of_length_le (by rw [HH.out.2.2.1]; exact Nat.le_refl _)] at this)
      go_wp2_with fail
      go_loopg [6] n (fun gk s6 w' => ∃ k : Nat, s6 = .int .i64 (k : Int) ∧ gk = n - k ∧ k ≤ n ∧ w' = wr ∧ (l.take k).all (fun x => decide (x.2.1.length ≤ 12)) = true)
      case atStart => exact ⟨0, rfl, rfl, by omega, rfl, rfl⟩
      case round =>
        obtain ⟨j, rfl, hgj, hj, rfl, hall⟩ := hrel
        have HJ := Lib.hid (And.intro hgj hall)
        clear hgj hall
        by_cases hjn : j < n
        · have f5 : decide ((j : Int) < (n : Int)) = true := decide_eq_true (by omega)
          have f5' : decide (j < n) = true := decide_eq_true hjn
          have j0 : (0 : Int) ≤ (j : Int) := by omega
          have j1 : (j : Int) < (n : Int) := by omega
          have k2 : IntKind.i64.wrap ((j : Int) + 1) = (j : Int) + 1 := IntWalk.i64_in _ (by omega)
          obtain ⟨z, hz⟩ : ∃ z, l[j]? = some z := ⟨_, List.getElem?_eq_getElem (by rw [HH.out.2.2.2]; exact hjn)⟩
          obtain ⟨bz, oz, rfl, _, ⟨az, cz, hcell, _⟩, _⟩ := HH.out.2.1.2 j z hz
          have HZ := Lib.hid hz
          obtain ⟨zn, hzn⟩ : ∃ x, z.2.1.length = x := ⟨_, rfl⟩
          have HZN := Lib.hid hzn
          rw [hzn] at hcell
          clear hz hzn
          by_cases h12 : 12 < zn
          · have f4 : decide ((12 : Int) < (zn : Int)) = true := decide_eq_true (by omega)
            have f4' : decide (12 < zn) = true := decide_eq_true h12
            have f4'' : decide ((zn : Int) > 12) = true := decide_eq_true (by omega)
            have HR : Hid (fewB Y l = false) := Lib.hid (by
              unfold fewB; rw [all_bad (f := fun x => decide (x.2.1.length ≤ 12)) HZ.out (by rw [HZN.out]; exact decide_eq_false (by omega))]; simp)
            clear h12
            go_wp2_with fail
            go_ret
            exact ⟨by rw [HR.out]; rfl, rfl⟩
          · have f4 : decide ((12 : Int) < (zn : Int)) = false := decide_eq_false (by omega)
            have f4' : decide (12 < zn) = false := decide_eq_false h12
            have f4'' : decide ((zn : Int) > 12) = false := decide_eq_false (by omega)
            go_wp2_with fail
            go_roundg (n - (j + 1))
            case measure => rw [HJ.out.1]; omega
            case rel => exact ⟨j + 1, rfl, rfl, by omega, rfl, all_take_next HZ.out HJ.out.2 (by rw [HZN.out]; exact decide_eq_true (by omega))⟩
        · have hje : j = n := by omega
          subst hje
          have f5 : decide ((j : Int) < (j : Int)) = false := decide_eq_false (by omega)
          have f5' : decide (j < j) = false := by simp
          have HB : Hid (l.all (fun x => decide (x.2.1.length ≤ 12)) = true) := Lib.hid (by
            have := HJ.out.2
            rwa [List.take_of_length_le (by rw [HH.out.2.2.2]; exact Nat.le_refl _)] at this)
          have HR : Hid (fewB Y l = true) := Lib.hid (by
            unfold fewB; rw [HA.out, HB.out, HH.out.2.2.1, HH.out.2.2.2, decide_eq_true (by omega), decide_eq_true (by omega)]; rfl)
          go_wp2_with fail
          go_ret
          exact ⟨by rw [HR.out]; rfl, rfl⟩
end Go.Proofs.YtihaheinkpmnnaaGreat

namespace Go.Proofs.YtihaheinkpmnnaaGreat
set_option maxRecDepth 200000
open Go.RowKit
theorem info46 : (Tryz.prog.info? 46).map (fun i => (i.zero, i.size, i.bytes)) = some (some (.agg #[.int .i64 0, .slice none 0 0, .int .i64 0]), 3, 40) := by kernel_rfl
/-- The cells of a row of steps. -/
def StC (w : World) : List St → List Value → Prop
  | [], cs => cs = []
  | x :: l, cs => ∃ a c rest, cs = .int .i64 x.1 :: .slice a x.2.1.length c :: .int .i64 x.2.2 :: rest ∧ IntsW w a c x.2.1 ∧ StC w l rest
theorem StC.grown {w w' : World} (hg : w.grownBy w' none) : ∀ {l : List St} {cs : List Value}, StC w l cs → StC w' l cs
  | [], _, h => h
  | _ :: _, _, h => by
    obtain ⟨a, c, rest, e, h1, h2⟩ := h
    exact ⟨a, c, rest, e, h1.grown hg, h2.grown hg⟩
theorem StC.app {w : World} {m : List St} {ds : List Value} (hm : StC w m ds) : ∀ {l : List St} {cs : List Value}, StC w l cs → StC w (l ++ m) (cs ++ ds)
  | [], _, h => by cases h; exact hm
  | _ :: _, _, h => by
    obtain ⟨a, c, rest, e, h1, h2⟩ := h
    exact ⟨a, c, rest ++ ds, by rw [e]; rfl, h1, StC.app hm h2⟩
theorem StC.len {w : World} : ∀ {l : List St} {cs : List Value}, StC w l cs → cs.length = l.length * 3
  | [], _, h => by cases h; rfl
  | _ :: _, _, h => by
    obtain ⟨a, c, rest, e, h1, h2⟩ := h
    rw [e]; have := h2.len; simp only [List.length_cons]; omega
theorem StC.one {w : World} : ∀ {l : List St} {cs : List Value}, StC w l cs → ∀ u ∈ cs, u.oneCell' = true
  | [], _, h => by cases h; intro u hu; simp at hu
  | _ :: _, _, h => by
    obtain ⟨a, c, rest, e, h1, h2⟩ := h
    intro u hu
    rw [e] at hu
    rcases List.mem_cons.1 hu with rfl | hu
    · rfl
    rcases List.mem_cons.1 hu with rfl | hu
    · rfl
    rcases List.mem_cons.1 hu with rfl | hu
    · rfl
    exact h2.one u hu
theorem StC.at {w : World} : ∀ {l : List St} {cs : List Value}, StC w l cs → ∀ {j : Nat} {x : St}, l[j]? = some x →
    cs[j * 3]? = some (.int .i64 x.1) ∧ (∃ a c, cs[j * 3 + 1]? = some (.slice a x.2.1.length c) ∧ IntsW w a c x.2.1) ∧ cs[j * 3 + 2]? = some (.int .i64 x.2.2)
  | [], _, _, _, _, h => by simp at h
  | y :: l, _, h, j, x, hj => by
    obtain ⟨a, c, rest, e, h1, h2⟩ := h
    subst e
    match j, hj with
    | 0, hj => simp at hj; subst hj; exact ⟨rfl, ⟨a, c, rfl, h1⟩, rfl⟩
    | j + 1, hj =>
      simp at hj
      obtain ⟨e1, ⟨a', c', e2, e3⟩, e4⟩ := h2.at hj
      have hx : ∀ q, (Value.int .i64 y.1 :: Value.slice a y.2.1.length c :: Value.int .i64 y.2.2 :: rest)[q + 3]? = rest[q]? := fun q => by simp
      refine ⟨?_, ⟨a', c', ?_, e3⟩, ?_⟩
      · rw [show (j + 1) * 3 = j * 3 + 3 by omega, hx]; exact e1
      · rw [show (j + 1) * 3 + 1 = j * 3 + 1 + 3 by omega, hx]; exact e2
      · rw [show (j + 1) * 3 + 2 = j * 3 + 2 + 3 by omega, hx]; exact e4
theorem stc_of {w : World} {b : Nat} : ∀ {l : List St} {o : Nat}, (∀ j x, l[j]? = some x → StepAt w b (o + j * 3) x) → ∃ cs, StC w l cs ∧ ∀ j u, cs[j]? = some u → w.cell? ⟨b, o + j, none⟩ = some u
  | [], _, _ => ⟨[], rfl, fun j u h => by simp at h⟩
  | x :: l, o, h => by
    obtain ⟨cs, h1, h2⟩ := stc_of (l := l) (o := o + 3) (fun j y hj => by
      have := h (j + 1) y (by simpa using hj)
      rwa [show o + (j + 1) * 3 = o + 3 + j * 3 by omega] at this)
    obtain ⟨q0, ⟨a, c, q1, qi⟩, q2⟩ := h 0 x rfl
    rw [Nat.zero_mul, Nat.add_zero] at q0 q1 q2
    refine ⟨.int .i64 x.1 :: .slice a x.2.1.length c :: .int .i64 x.2.2 :: cs, ⟨a, c, cs, rfl, qi, h1⟩, fun j u hj => ?_⟩
    match j, hj with
    | 0, hj => simp at hj; subst hj; exact q0
    | 1, hj => simp at hj; subst hj; exact q1
    | 2, hj => simp at hj; subst hj; exact q2
    | j + 3, hj =>
      have := h2 j u (by simpa using hj)
      rwa [show o + 3 + j = o + (j + 3) by omega] at this
/-- A row of steps in a block of its own, younger than V; the steps' literals lie in V. -/
def OwnS (V w : World) (v : Value) (n : Nat) (l : List St) : Prop := ∃ cs, w.ownsRow V.heap.size 46 3 v n cs ∧ StC V l cs ∧ V.grownBy w none
theorem OwnS.len {V w : World} {n : Nat} {v : Value} {l : List St} (h : OwnS V w v n l) : l.length = n := by
  obtain ⟨cs, h1, h2, _⟩ := h
  have e1 := h1.1
  have e2 := h2.len
  omega
theorem OwnS.steps {V w : World} {n : Nat} {v : Value} {l : List St} (h : OwnS V w v n l) : ∃ a c, v = .slice a n c ∧ StepsW w a c l := by
  have hlen := h.len
  obtain ⟨cs, h1, h2, hg⟩ := h
  have h1' := h1
  rcases h1.2 with ⟨rfl, rfl⟩ | ⟨g, cap, cur, rfl, _, _, hc, _⟩
  · obtain rfl : l = [] := List.eq_nil_of_length_eq_zero hlen
    exact ⟨none, 0, rfl, Nat.le_refl _, fun j x hj => by simp at hj⟩
  · refine ⟨_, _, rfl, by omega, fun j x hj => ⟨g, 0, rfl, ?_⟩⟩
    obtain ⟨e1, ⟨a, c, e2, e3⟩, e4⟩ := h2.at hj
    have hjn : j < n := by rw [← hlen]; exact (List.getElem?_eq_some_iff.1 hj).1
    rw [Nat.zero_add]
    exact ⟨(World.ownsRow.cellAt h1' (j * 3) (by omega)).trans e1, ⟨a, c, (World.ownsRow.cellAt h1' (j * 3 + 1) (by omega)).trans e2, e3.grown hg⟩, (World.ownsRow.cellAt h1' (j * 3 + 2) (by omega)).trans e4⟩
theorem own_nil46 (V : World) : OwnS V (V.alloc (.cells #[] 46)) (.slice (some ⟨V.heap.size, 0, none⟩) 0 0) 0 [] :=
  ⟨[], World.ownsRow_made V #[] 0 (Nat.le_refl _) (Nat.zero_le _) rfl, rfl, World.grownBy_alloc _ _ none⟩
theorem OwnS.grown {V w w' : World} {n : Nat} {v : Value} {l : List St} (h : OwnS V w v n l) (hg : w.grownBy w' none) : OwnS V w' v n l := by
  obtain ⟨cs, h1, h2, h3⟩ := h
  exact ⟨cs, own_grown h1 hg, h2, h3.trans hg⟩
theorem run_append_nil46 {w : World} {base n : Nat} {v : Value} {xs : List Value} (hown : w.ownsRow base 46 3 v n xs) (ty : TypeId) (c : Nat) : (Builtin.append_ #[25, 25] ty #[v, .slice none 0 c]).run Tryz.prog w = .ok v w := by
  obtain ⟨i0, hi, hz0, hz1, hz2⟩ := info_parts info46
  rcases hown.2 with ⟨rfl, rfl⟩ | ⟨g, cap, cur, rfl, _, _, hnc, _⟩
  · simp [Builtin.append_, run_underlying Tryz.underlying25, sizeOf, typeInfo, hi, Builtin.lenOf, Builtin.firstCells]
  · simp [Builtin.append_, run_underlying Tryz.underlying25, sizeOf, typeInfo, hi, Builtin.lenOf, Builtin.firstCells, hnc, storeCells]
theorem add_plain (b o j : Nat) : (⟨b, o, none⟩ : Addr).add j = ⟨b, o + j, none⟩ := by unfold Addr.add; split <;> simp_all
theorem run_append_steps (ty : TypeId) {V : World} {v : Value} {n : Nat} {l : List St} {w : World} (hown : OwnS V w v n l) {xa : Option Addr} {m c : Nat} {news : List St} (hm : news.length = m) (hi : StepsW V xa c news)
    (h63 : n + m ≤ 100000) :
    ∃ v' w', (Builtin.append_ #[25, 25] ty #[v, .slice xa m c]).run Tryz.prog w = .ok v' w' ∧ OwnS V w' v' (n + m) (l ++ news) := by
  obtain ⟨i0, hi0, hz0, hz1, hz2⟩ := info_parts info46
  obtain ⟨cs, h1, h2, hg⟩ := hown
  cases xa with
  | none =>
    obtain rfl : news = [] := by
      cases news with
      | nil => rfl
      | cons y l => obtain ⟨b, o, e, _⟩ := hi.2 0 y rfl; cases e
    obtain rfl : 0 = m := hm
    exact ⟨v, w, run_append_nil46 h1 ty c, cs, h1, by rw [List.append_nil]; exact h2, hg⟩
  | some ad =>
    have hsrc : ∃ ds, StC V news ds ∧ ∀ j u, ds[j]? = some u → V.cell? (ad.add j) = some u := by
      cases news with
      | nil => exact ⟨[], rfl, fun j u hj => by simp at hj⟩
      | cons y l' =>
        obtain ⟨b, o, e, _⟩ := hi.2 0 y rfl
        cases e
        obtain ⟨ds, e1, e2⟩ := stc_of (w := V) (b := b) (o := o) (l := y :: l') (fun j x hj => by
          obtain ⟨b', o', e', h'⟩ := hi.2 j x hj
          cases e'
          exact h')
        exact ⟨ds, e1, fun j u hj => by rw [add_plain]; exact e2 j u hj⟩
    obtain ⟨ds, e1, e2⟩ := hsrc
    obtain ⟨v', w', hr, h3, h4, _, _⟩ := run_append_own_at (P := Tryz.prog) w V.heap.size 25 ty 46 i0 (.agg #[.int .i64 0, .slice none 0 0, .int .i64 0]) 3 40 Tryz.underlying25 hi0 hz0 hz1 hz2 rfl (by decide) v n cs h1 ad m c ds (by rw [e1.len, hm]) (fun j u hj => hg.cell (e2 j u hj) (by simp)) e1.one (by unfold maxLen; omega) (by omega) hg.size
    exact ⟨v', w', hr, cs ++ ds, h3, StC.app e1 h2, grown_own hg h4 (own_low h1)⟩
theorem append_steps {ops : Array Oper} {rest : List Oper} {o : Oper} {a : Act} {Q : Exit → Act → World → Prop} {w : World} (hgd : o.guard = none) (s x : Operand)
    (ho : o.op = .call { callee := .builtin .append, args := #[s, x], argTypes := #[25, 25] })
    (V : World) (v : Value) (n : Nat) (l : List St) (hs : a.eval s = v) (hown : OwnS V w v n l)
    (xa : Option Addr) (m c : Nat) (news : List St) (hx : a.eval x = .slice xa m c) (hm : news.length = m) (hi : StepsW V xa c news)
    (h63 : n + m ≤ 100000)
    (h : ∀ a' c' w', OwnS V w' (.slice a' (n + m) c') (n + m) (l ++ news) → wpList Tryz.prog ops Q rest (a.put o.dst (.slice a' (n + m) c')) w') : wpList Tryz.prog ops Q (o :: rest) a w := by
  refine wpList_plain hgd fun K' hK' => ?_
  obtain ⟨v', w', hr, h2⟩ := run_append_steps o.type hown hm hi h63
  obtain ⟨a', c', rfl, _⟩ := h2.steps
  unfold Oper.wp execOp
  simp only [ho, resolve, invoke, builtin, Sem.run_bind, Sem.run_pure, Result.andThen_ok, List.map_toArray, List.map_cons, List.map_nil, hs, hx, hr]
  exact hK' _ _ (h a' c' w' h2)
/-- A part of a row of steps. -/
theorem StepsW.take {w : World} {a : Option Addr} {c : Nat} {l : List St} (h : StepsW w a c l) (k : Nat) : StepsW w a c (l.take k) :=
  ⟨Nat.le_trans (by rw [List.length_take]; omega) h.1, fun j x hj => h.2 j x (by
    rw [List.getElem?_take] at hj; split at hj
    · exact hj
    · cases hj)⟩
end Go.Proofs.YtihaheinkpmnnaaGreat

namespace Go.Proofs.YtihaheinkpmnnaaGreat
set_option maxRecDepth 200000
open Go.RowKit
theorem small_nat {V : Int} {F : List (List Int)} (h : smallB V F = true) : ∃ V0 : Nat, V = (V0 : Int) ∧ V0 ≤ 8 ∧ F.length ≤ 40 ∧ (∀ c ∈ F, c.length ≤ 12) ∧ ∀ c ∈ F, ∀ y ∈ c, InR V0 y := by
  unfold smallB validB at h
  simp only [Bool.and_eq_true, decide_eq_true_eq, List.all_eq_true] at h
  obtain ⟨⟨⟨h1, h2⟩, h3⟩, h4, h5⟩ := h
  refine ⟨V.toNat, by omega, by omega, h2, h3, fun c hc y hy => inRb_iff.1 ?_⟩
  rw [show ((V.toNat : Nat) : Int) = V by omega]
  exact h5 c hc y hy
theorem few_true {Y : List (List Int)} {l : List St} (h : fewB Y l = true) : Y.length ≤ 6 ∧ l.length ≤ 40 ∧ (∀ c ∈ Y, c.length ≤ 12) ∧ ∀ x ∈ l, x.2.1.length ≤ 12 := by
  unfold fewB at h
  simp only [Bool.and_eq_true, decide_eq_true_eq, List.all_eq_true] at h
  exact ⟨h.1, h.2.1, h.2.2.1, h.2.2.2⟩
/-- Steps that the checker may be asked about. -/
def Few (l : List St) (n : Nat) : Prop := l.length ≤ n ∧ (∀ x ∈ l, x.2.1.length ≤ 12) ∧ ∀ x ∈ l, (Lit.int .i64 x.1).wf = true
theorem Few.take {l : List St} {n : Nat} (h : Few l n) (k : Nat) : Few (l.take k) n :=
  ⟨Nat.le_trans (by rw [List.length_take]; omega) h.1, fun x hx => h.2.1 x (List.mem_of_mem_take hx), fun x hx => h.2.2 x (List.mem_of_mem_take hx)⟩
theorem Few.app {l m : List St} {n k : Nat} (h : Few l n) (h' : Few m k) : Few (l ++ m) (n + k) := by
  refine ⟨by rw [List.length_append]; have := h.1; have := h'.1; omega, fun x hx => ?_, fun x hx => ?_⟩
  · rcases List.mem_append.1 hx with hx | hx
    · exact h.2.1 x hx
    · exact h'.2.1 x hx
  · rcases List.mem_append.1 hx with hx | hx
    · exact h.2.2 x hx
    · exact h'.2.2 x hx
/-- The formula and the symmetries that a law hands on. -/
structure FY (w : World) (V0 : Nat) (F : List (List Int)) (fa : Option Addr) (fc : Nat) (Y : List (List Int)) (ya : Option Addr) (yc : Nat) : Prop where
  f : ClsW w fa fc F
  y : ClsW w ya yc Y
  V : V0 ≤ 300
  fl : F.length ≤ 40
  fw : ∀ c ∈ F, c.length ≤ 12
  fr : ∀ c ∈ F, ∀ y ∈ c, InR V0 y
  yl : Y.length ≤ 6
  yw : ∀ c ∈ Y, c.length ≤ 12
theorem FY.grown {w w' : World} {V0 : Nat} {F : List (List Int)} {fa : Option Addr} {fc : Nat} {Y : List (List Int)} {ya : Option Addr} {yc : Nat} (h : FY w V0 F fa fc Y ya yc) (hg : w.grownBy w' none) : FY w' V0 F fa fc Y ya yc :=
  ⟨h.f.grown hg, h.y.grown hg, h.V, h.fl, h.fw, h.fr, h.yl, h.yw⟩
theorem FY.ok {w : World} {V0 : Nat} {F : List (List Int)} {fa : Option Addr} {fc : Nat} {Y : List (List Int)} {ya : Option Addr} {yc : Nat} (h : FY w V0 F fa fc Y ya yc) {l : List St} {la : Option Addr} {lc : Nat} (hl : StepsW w la lc l) (hf : Few l 80) : InOk w ⟨V0, fa, fc, F, ya, yc, Y, w, 0⟩ l la lc :=
  ⟨⟨h.f, h.y, (show V0 ≤ 400 by have := h.V; omega), (show F.length ≤ 1000 by have := h.fl; omega), h.fw, (show Y.length ≤ 1000 by have := h.yl; omega), h.yw⟩, ⟨h.fr, h.V, h.fl, h.fw⟩, hl, hf.1, hf.2.1, hf.2.2⟩
theorem FY.check {w : World} {V0 : Nat} {F : List (List Int)} {fa : Option Addr} {fc : Nat} {Y : List (List Int)} {ya : Option Addr} {yc : Nat} (h : FY w V0 F fa fc Y ya yc) {fn yn n c : Nat} {m : Int} {l : List St} {la : Option Addr} {lc : Nat} (hl : StepsW w la lc l) (hf : Few l 80)
    (h1 : F.length = fn) (h2 : Y.length = yn) (h3 : l.length = n) (h4 : chkP (V0, F) Y l = c) (h5 : errC c n = m) :
    Calls Tryz.prog 13 #[.agg #[.int .i64 (V0 : Int), .slice fa fn fc], .slice ya yn yc, .slice la n lc] w fun e w' => e = .returned (.tuple #[.int .i64 (c : Int), .int .i64 m]) ∧ w.grownBy w' none := by
  have := check_calls ⟨V0, fa, fc, F, ya, yc, Y, w, 0⟩ l la lc w (h.ok hl hf)
  rw [show chkP (Kst.fs ⟨V0, fa, fc, F, ya, yc, Y, w, 0⟩) Y l = c from h4, h3, h5] at this
  rw [← h1, ← h2]
  exact this
theorem FY.refutes {w : World} {V0 : Nat} {F : List (List Int)} {fa : Option Addr} {fc : Nat} {Y : List (List Int)} {ya : Option Addr} {yc : Nat} (h : FY w V0 F fa fc Y ya yc) {fn yn n : Nat} {d : Bool} {l : List St} {la : Option Addr} {lc : Nat} (hl : StepsW w la lc l) (hf : Few l 80)
    (h1 : F.length = fn) (h2 : Y.length = yn) (h3 : l.length = n) (h4 : refB (V0, F) Y l = d) :
    Calls Tryz.prog 15 #[.agg #[.int .i64 (V0 : Int), .slice fa fn fc], .slice ya yn yc, .slice la n lc] w fun e w' => e = .returned (.bool d) ∧ w.grownBy w' none := by
  have := refutes_calls ⟨V0, fa, fc, F, ya, yc, Y, w, 0⟩ l la lc w (h.ok hl hf)
  rw [show refB (Kst.fs ⟨V0, fa, fc, F, ya, yc, Y, w, 0⟩) Y l = d from h4, h3] at this
  rw [← h1, ← h2]
  exact this
/-- A prefix's checked length. -/
theorem chk_take (F : CkS) (Y : List (List Int)) (l : List St) {k : Nat} (h : k ≤ l.length) : chkP F Y (l.take k) = min (chkP F Y l) k := by
  have := run_take F Y l k F
  unfold chkP
  rw [this]
  omega
theorem chk_le (F : CkS) (Y : List (List Int)) (l : List St) : chkP F Y l ≤ l.length := run_le F Y l F
theorem chk_app_bad {F : CkS} {Y : List (List Int)} {l m : List St} (h : chkP F Y l ≠ l.length) : chkP F Y (l ++ m) = chkP F Y l := by
  unfold chkP at *
  rw [run_append, if_neg h]
theorem chk_app_all {F : CkS} {Y : List (List Int)} {l m : List St} (h : chkP F Y l = l.length) : l.length ≤ chkP F Y (l ++ m) := by
  unfold chkP at *
  rw [run_append, if_pos h]
  exact Nat.le_add_right _ _
theorem ref_bad {F : CkS} {Y : List (List Int)} {l : List St} (h : chkP F Y l ≠ l.length) : refB F Y l = false := by
  unfold refB; rw [decide_eq_false h]; rfl
end Go.Proofs.YtihaheinkpmnnaaGreat

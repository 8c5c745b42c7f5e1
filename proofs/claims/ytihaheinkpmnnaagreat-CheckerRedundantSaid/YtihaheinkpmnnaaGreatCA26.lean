/- Texts of the proof: PV. -/
import Derived.Test.YtihaheinkpmnnaaGreatCA16
import Derived.Test.YtihaheinkpmnnaaGreatCA20
import Derived.Laws.EntriesVeiled
import Derived.WalkSpells
import Derived.WalkLawsBesides
import Derived.Deep.QuietTactic
import Derived.BigQuiet
import Derived.IntWalk
import Derived.WalkKit
import Derived.Deep.LoopGhost
namespace Go.Proofs.YtihaheinkpmnnaaGreat
set_option maxRecDepth 200000
open Go.RowKit
/-- A step in memory. -/
def StepAt (w : World) (b o : Nat) (x : St) : Prop :=
  w.cell? ⟨b, o, none⟩ = some (.int .i64 x.1) ∧ (∃ a c, w.cell? ⟨b, o + 1, none⟩ = some (.slice a x.2.1.length c) ∧ IntsW w a c x.2.1) ∧ w.cell? ⟨b, o + 2, none⟩ = some (.int .i64 x.2.2)
theorem StepAt.grown {w w' : World} {b o : Nat} {x : St} (h : StepAt w b o x) (hg : w.grownBy w' none) : StepAt w' b o x := by
  obtain ⟨h0, ⟨a, c, h1, hi⟩, h2⟩ := h
  exact ⟨hg.cell h0 (by simp), ⟨a, c, hg.cell h1 (by simp), hi.grown hg⟩, hg.cell h2 (by simp)⟩
/-- A row of steps that is read. -/
def StepsW (w : World) (a : Option Addr) (c : Nat) (l : List St) : Prop :=
  l.length ≤ c ∧ ∀ (j : Nat) (x : St), l[j]? = some x → ∃ b o, a = some ⟨b, o, none⟩ ∧ StepAt w b (o + j * 3) x
theorem StepsW.grown {w w' : World} {a : Option Addr} {c : Nat} {l : List St} (h : StepsW w a c l) (hg : w.grownBy w' none) : StepsW w' a c l :=
  ⟨h.1, fun j x hj => by obtain ⟨b, o, ha, hc⟩ := h.2 j x hj; exact ⟨b, o, ha, hc.grown hg⟩⟩
def nextV (v : Int) (x : St) : Int := if x.1 = 3 then v + 1 else v
def okF (v : Int) : List St → Bool
  | [] => true
  | x :: l => okS v x && okF (nextV v x) l
def validF (v : Int) (l : List St) : Bool := decide (0 ≤ v ∧ v ≤ 20000 ∧ l.length ≤ 20000) && okF v l
def vAfter (v : Int) (l : List St) : Int := l.foldl nextV v
theorem okF_append : ∀ (a b : List St) (v : Int), okF v (a ++ b) = (okF v a && okF (vAfter v a) b)
  | [], b, v => by simp [okF, vAfter]
  | x :: a, b, v => by
    simp only [List.cons_append, okF, okF_append a b, Bool.and_assoc]; rfl
theorem okS_good {v : Int} {x : St} (hv : 0 ≤ v ∧ v ≤ 20000) (h : okS v x = true) : 0 ≤ nextV v x ∧ nextV v x ≤ 20000 := by
  unfold nextV
  split
  · rename_i h3
    unfold okS at h
    simp only [h3, Int.reduceEq, or_self, if_false, if_true, Bool.and_eq_true, decide_eq_true_eq] at h
    omega
  · exact hv
set_option maxHeartbeats 1000000 in
theorem index66_calls {F : Int → Bool} {p : Value} {w : World} {a : Option Addr} {c : Nat} {L : List Int} (hL : IntsW w a c L) (hn : L.length ≤ 100000)
    (hcl : ∀ x ∈ L, Calls Tryz.prog 66 #[.int .i64 x, p] w fun e w' => e = .returned (.bool (F x)) ∧ w' = w) :
    Calls Tryz.prog 72 #[.slice a L.length c, .func (.func 66) #[] #[p]] w fun e w' => e = .returned (.int .i64 (ixOf (L.findIdx? F))) ∧ w' = w := by
  obtain ⟨n, hnn⟩ : ∃ n, L.length = n := ⟨_, rfl⟩
  have HH := Lib.hid (And.intro hL hnn)
  have HOC := Lib.hid hcl
  rw [hnn] at hn ⊢
  clear hL hnn hcl
  go_enter Tryz.func72, Tryz.ntmps72
  go_wp2_with fail
  go_loopg [8] n (fun gk s8 w' => ∃ k : Nat, s8 = .int .i64 (k : Int) ∧ gk = n - k ∧ k ≤ n ∧ w' = w ∧ ∀ j, j < k → ∃ z, L[j]? = some z ∧ F z = false)
  case atStart => exact ⟨0, rfl, rfl, by omega, rfl, fun j hj => by omega⟩
  case round =>
    obtain ⟨k, rfl, hgk, hk, rfl, hbef⟩ := hrel
    have HI := Lib.hid (And.intro hgk hbef)
    clear hgk hbef
    by_cases hkn : k < n
    · have f1 : decide ((k : Int) < (n : Int)) = true := decide_eq_true (by omega)
      have f1' : decide (k < n) = true := decide_eq_true hkn
      have i0 : (0 : Int) ≤ (k : Int) := by omega
      have i1 : (k : Int) < (n : Int) := by omega
      have k1 : IntKind.i64.wrap ((k : Int) + 1) = (k : Int) + 1 := IntWalk.i64_in _ (by omega)
      obtain ⟨z, hz⟩ : ∃ z, L[k]? = some z := ⟨_, List.getElem?_eq_getElem (by rw [HH.out.2]; exact hkn)⟩
      have hzm : z ∈ L := List.mem_of_getElem? hz
      obtain ⟨b, o, rfl, hcell⟩ := HH.out.1.at hz
      have HC := Lib.hid (HOC.out z hzm)
      have HZ := Lib.hid hz
      clear hz hzm
      obtain ⟨d, hd⟩ : ∃ d, F z = d := ⟨_, rfl⟩
      rw [hd] at HC
      have HD := Lib.hid hd
      clear hd
      go_wp2_with fail
      refine HC.out.mono ?_
      rintro e w1 ⟨rfl, rfl⟩
      cases d with
      | true =>
        have HR : Hid (L.findIdx? F = some k) := Lib.hid (by
          rw [List.findIdx?_eq_some_iff_getElem]
          obtain ⟨hlt, e⟩ := List.getElem?_eq_some_iff.1 HZ.out
          refine ⟨hlt, by rw [e]; exact HD.out, fun j hj => ?_⟩
          obtain ⟨y, hy, hf⟩ := HI.out.2 j hj
          rw [(List.getElem?_eq_some_iff.1 hy).2, hf]; simp)
        go_wp2_with fail
        go_ret
        exact ⟨by rw [HR.out]; rfl, rfl⟩
      | false =>
        go_wp2_with fail
        go_roundg (n - (k + 1))
        case measure => rw [HI.out.1]; omega
        case rel => exact ⟨k + 1, rfl, rfl, by omega, rfl, fun j hj => by
          by_cases e : j = k
          · subst e; exact ⟨z, HZ.out, HD.out⟩
          · exact HI.out.2 j (by omega)⟩
    · have hke : k = n := by omega
      subst hke
      have f1 : decide (k < k) = false := by simp
      have HR : Hid (L.findIdx? F = none) := Lib.hid (by
        rw [List.findIdx?_eq_none_iff]
        intro x hx
        obtain ⟨j, hj, e⟩ := List.mem_iff_getElem.1 hx
        obtain ⟨y, hy, hf⟩ := HI.out.2 j (by rw [← HH.out.2]; exact hj)
        rw [← e, (List.getElem?_eq_some_iff.1 hy).2]; exact hf)
      go_wp2_with fail
      go_ret
      exact ⟨by rw [HR.out]; rfl, rfl⟩
set_option maxHeartbeats 1000000 in
theorem contains66_calls {F : Int → Bool} {p : Value} {w : World} {a : Option Addr} {c : Nat} {L : List Int} (hL : IntsW w a c L) (hn : L.length ≤ 100000)
    (hcl : ∀ x ∈ L, Calls Tryz.prog 66 #[.int .i64 x, p] w fun e w' => e = .returned (.bool (F x)) ∧ w' = w) :
    Calls Tryz.prog 53 #[.slice a L.length c, .func (.func 66) #[] #[p]] w fun e w' => e = .returned (.bool (L.any F)) ∧ w' = w := by
  have HC := Lib.hid (index66_calls hL hn hcl)
  have HR := Lib.hid (ixOf_ge L F)
  obtain ⟨z, hz⟩ : ∃ z, ixOf (L.findIdx? F) = z := ⟨_, rfl⟩
  rw [hz] at HC HR
  obtain ⟨b, hb⟩ : ∃ b, L.any F = b := ⟨_, rfl⟩
  rw [hb] at HR ⊢
  have f0 : decide (z ≥ 0) = b := HR.out
  have f1 : decide ((0 : Int) ≤ z) = b := HR.out
  clear hcl hL hz hb
  go_enter Tryz.func53, Tryz.ntmps53
  go_wp2_with fail
  refine HC.out.mono ?_
  rintro e w1 ⟨rfl, rfl⟩
  go_wp2_with fail
  go_ret
  exact ⟨rfl, rfl⟩
theorem unk_calls (v x : Int) (b : Nat) (w : World) (hc : w.cell? ⟨b, 0, none⟩ = some (.int .i64 v)) (hv : 0 ≤ v ∧ v ≤ 20001) :
    Calls Tryz.prog 66 #[.int .i64 x, .pointer (some ⟨b, 0, none⟩)] w fun e w' => e = .returned (.bool (unkB v x)) ∧ w = w' := by
  obtain ⟨hv1, hv2⟩ := hv
  by_cases h0 : x = 0
  · have hB : (x == 0) = true := by simpa using h0
    have HR : Hid (unkB v x = true) := Lib.hid (by simp [unkB, h0])
    clear h0
    go_enter Tryz.func66, Tryz.ntmps66
    go_wp2
    go_ret
    exact ⟨by rw [HR.out]; rfl, rfl⟩
  · have hB : (x == 0) = false := by simpa using h0
    by_cases h1 : v < x
    · have hB1 : decide (v < x) = true := by simpa using h1
      have HR : Hid (unkB v x = true) := Lib.hid (by simp [unkB, h1])
      go_enter Tryz.func66, Tryz.ntmps66
      go_wp2
      go_ret
      exact ⟨by rw [HR.out]; rfl, rfl⟩
    · have hB1 : decide (v < x) = false := by simpa using h1
      have HR : Hid (unkB v x = decide (x < -v)) := Lib.hid (by simp [unkB, h0, h1])
      clear h0
      go_enter Tryz.func66, Tryz.ntmps66
      go_wp2
      go_ret
      exact ⟨by rw [HR.out]; rfl, rfl⟩

theorem anyUnk_calls (v : Int) (bk : Nat) (l : List Int) (n : Nat) (hn : l.length = n) (a : Option Addr) (c : Nat) (w : World) (h : IntsW w a c l) (hc : w.cell? ⟨bk, 0, none⟩ = some (.int .i64 v)) (hv : 0 ≤ v ∧ v ≤ 20001) (hl : l.length ≤ 100000) :
    Calls Tryz.prog 53 #[.slice a n c, .func (.func 66) #[] #[.pointer (some ⟨bk, 0, none⟩)]] w fun e w' => e = .returned (.bool (l.any (unkB v))) ∧ w = w' := by
  subst hn
  exact (contains66_calls (F := unkB v) h hl (fun x _ => (unk_calls v x bk w hc hv).mono fun _ _ ⟨e1, e2⟩ => ⟨e1, e2.symm⟩)).mono fun _ _ ⟨e1, e2⟩ => ⟨e1, e2.symm⟩
/-- The counter of the variables: a cell that may be written. -/
def Known (w : World) (bk : Nat) (v : Int) : Prop := w.cell? ⟨bk, 0, none⟩ = some (.int .i64 v) ∧ w.frozen? ⟨bk, 0, none⟩ = false
theorem Known.alloc {w : World} {bk : Nat} {v : Int} (h : Known w bk v) (o : Obj) : Known (w.alloc o) bk v := by
  have hlt := World.block_lt_of_cell? w _ h.1
  refine ⟨(World.grownBy_alloc w o none).cell h.1 (by simp), ?_⟩
  rw [World.frozen?_of_block (heap_alloc_old w o hlt)]; exact h.2
theorem Known.grown {w w' : World} {bk : Nat} {v : Int} {r : Option Nat} (h : Known w bk v) (hg : w.grownBy w' r) (hr : some bk ≠ r) : Known w' bk v := by
  have hlt := World.block_lt_of_cell? w _ h.1
  refine ⟨hg.cell h.1 hr, ?_⟩
  rw [World.frozen?_of_block (hg.block bk hlt hr)]; exact h.2
theorem ret_beq (s : Int) : Ending.returned (.bool (s == 0)) = .returned (.bool (decide (s = 0))) := by congr 2
theorem quiet_left {P : Program} {f : FuncId} {args : Array Value} {w : World} {n : Nat} {v : Value}
    (h : Calls P f args (w.drewN n) fun e w' => e = .returned v ∧ w.drewN n = w') : Calls P f args (w.drewN n) fun e w'' => e = .returned v ∧ ∃ m, w'' = w.drewN m :=
  h.mono fun _ _ ⟨he, hm⟩ => ⟨he, n, hm.symm⟩
theorem Known.set {w : World} {bk : Nat} {v : Int} (h : Known w bk v) (u : Int) : Known (w.setCell ⟨bk, 0, none⟩ (.int .i64 u)) bk u :=
  ⟨World.cell?_setCell_same _ _ _ h.1, by rw [World.frozen?_setCell]; exact h.2⟩
/-- What the taking in of a step leaves. -/
def Taken (w : World) (bk : Nat) (v : Int) (x : St) (e : Ending) (w' : World) : Prop :=
  ∃ v', e = .returned (.bool (okS v x)) ∧ Known w' bk v' ∧ (okS v x = true → v' = nextV v x) ∧ w.grownBy w' (some bk)
theorem taken_same {w w' : World} {bk : Nat} {v : Int} {x : St} {B : Bool} (hk : Known w' bk v) (hg : w.grownBy w' (some bk)) (hB : okS v x = B) (hn : B = true → nextV v x = v) : Taken w bk v x (.returned (.bool B)) w' :=
  ⟨v, by rw [hB], hk, fun h => (hn (by rw [← hB]; exact h)).symm, hg⟩
theorem okS_12 {v : Int} {x : St} (h : x.1 = 1 ∨ x.1 = 2) : okS v x = (decide (x.2.2 = 0) && knownB v x.2.1) := by unfold okS; rw [if_pos h]
theorem okS_4 {v : Int} {x : St} (h : x.1 = 4) : okS v x = (decide (0 ≤ x.2.2) && (decide (x.2.2 ≤ 20000) && knownB v x.2.1)) := by unfold okS; rw [if_neg (by omega), if_pos h]
theorem okS_3 {v : Int} {x : St} (h : x.1 = 3) : okS v x = (decide (2 ≤ x.2.1.length) && (decide (x.2.1.head? = some (v + 1)) && (decide (v + 1 ≤ 20000) && (knownB v x.2.1.tail && decide (x.2.2 = 0))))) := by
  unfold okS; rw [if_neg (by omega), if_neg (by omega), if_pos h]
theorem okS_no {v : Int} {x : St} (h1 : x.1 ≠ 1) (h2 : x.1 ≠ 2) (h3 : x.1 ≠ 3) (h4 : x.1 ≠ 4) : okS v x = false := by
  unfold okS; rw [if_neg (by omega), if_neg h4, if_neg h3]
theorem nextV_no {v : Int} {x : St} (h : x.1 ≠ 3) : nextV v x = v := by unfold nextV; rw [if_neg h]
theorem IntsW.tail {w : World} {b o c n : Nat} {l : List Int} (h : IntsW w (some ⟨b, o, none⟩) c l) (hn : l.length = n + 1) : IntsW w (some ⟨b, o + 1, none⟩) (c - 1) l.tail := by
  refine ⟨by have := h.1; rw [List.length_tail]; omega, .inr ⟨b, o + 1, rfl, fun j z hj => ?_⟩⟩
  rw [List.getElem?_tail] at hj
  obtain ⟨b', o', e, hc⟩ := h.at hj
  cases e
  rw [show o + 1 + j = o + (j + 1) by omega]; exact hc

set_option maxRecDepth 100000 in
set_option maxHeartbeats 4000000 in
theorem accept_calls (v : Int) (bu bk : Nat) (x : St) (a : Option Addr) (c : Nat) (w : World) (hi : IntsW w a c x.2.1) (hl : x.2.1.length ≤ 100000) (hv : 0 ≤ v ∧ v ≤ 20000)
    (hu : w.cell? ⟨bu, 0, none⟩ = some (.func (.func 66) #[] #[.pointer (some ⟨bk, 0, none⟩)])) (hk : Known w bk v) :
    Calls Tryz.prog 67 #[.agg #[.int .i64 x.1, .slice a x.2.1.length c, .int .i64 x.2.2], .pointer (some ⟨bu, 0, none⟩), .pointer (some ⟨bk, 0, none⟩)] w (Taken w bk v x) := by
  obtain ⟨k, l, s⟩ := x
  simp only at hi hl ⊢
  obtain ⟨n, hn⟩ : ∃ n, l.length = n := ⟨_, rfl⟩
  rw [hn] at hl ⊢
  have HV := Lib.hid hv
  have ga := World.grownBy_alloc w (.cells #[.int .i64 k, .slice a n c, .int .i64 s] 46) none
  have HG := Lib.hid (World.grownBy_alloc w (.cells #[.int .i64 k, .slice a n c, .int .i64 s] 46) (some bk))
  have HK := Lib.hid (hk.alloc (.cells #[.int .i64 k, .slice a n c, .int .i64 s] 46))
  have HI := Lib.hid (hi.grown ga)
  have cu := ga.cell hu (by simp)
  have HN := Lib.hid (And.intro hn hl)
  have hk0 := Lib.hid hk
  have hany : ∀ (m : List Int) (q : Nat) (a' : Option Addr) (c' : Nat), m.length = q → IntsW (w.alloc (.cells #[.int .i64 k, .slice a n c, .int .i64 s] 46)) a' c' m → m.length ≤ 100000 → Calls Tryz.prog 53 #[.slice a' q c', .func (.func 66) #[] #[.pointer (some ⟨bk, 0, none⟩)]] (w.alloc (.cells #[.int .i64 k, .slice a n c, .int .i64 s] 46)) fun e w' => e = .returned (.bool (m.any (unkB v))) ∧ w.alloc (.cells #[.int .i64 k, .slice a n c, .int .i64 s] 46) = w' :=
    fun m q a' c' hq hm hl => anyUnk_calls v bk m q hq a' c' _ hm HK.out.1 ⟨HV.out.1, by have := HV.out.2; omega⟩ hl
  have HA := Lib.hid hany
  clear hany hn hl hv hi hu hk ga
  by_cases hk : k = 1
  · have e1 : (k == 1) = true := by simpa using hk
    by_cases hs : s = 0
    · have es : (s == 0) = true := by simpa using hs
      have HR : Hid (okS v (k, l, s) = !l.any (unkB v)) := Lib.hid (by rw [okS_12 (.inl hk)]; simp [hs, knownB])
      have HX := Lib.hid (nextV_no (v := v) (x := (k, l, s)) (by simp only; omega))
      clear hk hs
      go_enter Tryz.func67, Tryz.ntmps67
      go_wp2_with fail
      refine (HA.out l n a c HN.out.1 HI.out (by rw [HN.out.1]; exact HN.out.2)).mono ?_
      rintro e w' ⟨rfl, rfl⟩
      go_wp2_with fail
      go_ret
      exact taken_same HK.out HG.out HR.out (fun _ => HX.out)
    · have es : (s == 0) = false := by simpa using hs
      have HR : Hid (okS v (k, l, s) = false) := Lib.hid (by rw [okS_12 (.inl hk)]; simp [hs])
      clear hk hs
      go_enter Tryz.func67, Tryz.ntmps67
      go_wp2_with fail
      go_ret
      exact taken_same HK.out HG.out HR.out (fun h => by cases h)
  have e1 : (k == 1) = false := by simpa using hk
  have hk1 := Lib.hid hk; clear hk
  by_cases hk : k = 2
  · have e2 : (k == 2) = true := by simpa using hk
    by_cases hs : s = 0
    · have es : (s == 0) = true := by simpa using hs
      have HR : Hid (okS v (k, l, s) = !l.any (unkB v)) := Lib.hid (by rw [okS_12 (.inr hk)]; simp [hs, knownB])
      have HX := Lib.hid (nextV_no (v := v) (x := (k, l, s)) (by simp only; omega))
      clear hk hs
      go_enter Tryz.func67, Tryz.ntmps67
      go_wp2_with fail
      refine (HA.out l n a c HN.out.1 HI.out (by rw [HN.out.1]; exact HN.out.2)).mono ?_
      rintro e w' ⟨rfl, rfl⟩
      go_wp2_with fail
      go_ret
      exact taken_same HK.out HG.out HR.out (fun _ => HX.out)
    · have es : (s == 0) = false := by simpa using hs
      have HR : Hid (okS v (k, l, s) = false) := Lib.hid (by rw [okS_12 (.inr hk)]; simp [hs])
      clear hk hs
      go_enter Tryz.func67, Tryz.ntmps67
      go_wp2_with fail
      go_ret
      exact taken_same HK.out HG.out HR.out (fun h => by cases h)
  have e2 : (k == 2) = false := by simpa using hk
  have hk2 := Lib.hid hk; clear hk
  by_cases hk : k = 4
  · have e4 : (k == 4) = true := by simpa using hk
    by_cases h0 : 0 ≤ s
    · have d0 : decide (0 ≤ s) = true := by simpa using h0
      by_cases h2 : s ≤ 20000
      · have d2 : decide (s ≤ 20000) = true := by simpa using h2
        have HR : Hid (okS v (k, l, s) = !l.any (unkB v)) := Lib.hid (by rw [okS_4 hk]; simp [h0, h2, knownB])
        have HX := Lib.hid (nextV_no (v := v) (x := (k, l, s)) (by simp only; omega))
        clear hk h0 h2
        go_enter Tryz.func67, Tryz.ntmps67
        go_wp2_with fail
        refine (HA.out l n a c HN.out.1 HI.out (by rw [HN.out.1]; exact HN.out.2)).mono ?_
        rintro e w' ⟨rfl, rfl⟩
        go_wp2_with fail
        go_ret
        exact taken_same HK.out HG.out HR.out (fun _ => HX.out)
      · have d2 : decide (s ≤ 20000) = false := by simpa using h2
        have HR : Hid (okS v (k, l, s) = false) := Lib.hid (by rw [okS_4 hk]; simp [h2])
        clear hk h0 h2
        go_enter Tryz.func67, Tryz.ntmps67
        go_wp2_with fail
        go_ret
        exact taken_same HK.out HG.out HR.out (fun h => by cases h)
    · have d0 : decide (0 ≤ s) = false := by simpa using h0
      have HR : Hid (okS v (k, l, s) = false) := Lib.hid (by rw [okS_4 hk]; simp [h0])
      clear hk h0
      go_enter Tryz.func67, Tryz.ntmps67
      go_wp2_with fail
      go_ret
      exact taken_same HK.out HG.out HR.out (fun h => by cases h)
  have e4 : (k == 4) = false := by simpa using hk
  have hk4 := Lib.hid hk; clear hk
  by_cases hk : k = 3
  · have e3 : (k == 3) = true := by simpa using hk
    have HR0 := Lib.hid (okS_3 (v := v) (x := (k, l, s)) hk)
    have HX : Hid (nextV v (k, l, s) = v + 1) := Lib.hid (by unfold nextV; rw [if_pos hk])
    clear hk
    have kc := HK.out.1
    obtain ⟨hv1, hv2⟩ := HV.out
    by_cases hn2 : n < 2
    · have d1 : decide (n < 2) = true := by simpa using hn2
      have d1' : decide ((n : Int) < 2) = true := by simp; omega
      have HR : Hid (okS v (k, l, s) = false) := Lib.hid (by rw [HR0.out]; simp [HN.out.1]; omega)
      go_enter Tryz.func67, Tryz.ntmps67
      go_wp2_with fail
      go_quiet (fail)
      go_wp2_with fail
      go_ret
      exact taken_same (HK.out.grown (grown_drewN _ _ none) (by simp)) (HG.out.trans (grown_drewN _ _ _)) HR.out (fun h => by cases h)
    have d1 : decide (n < 2) = false := by simpa using hn2
    have d1' : decide ((n : Int) < 2) = false := by simp; omega
    have n0 : (0 : Int) < (n : Int) := by omega
    obtain ⟨y, t, rfl⟩ : ∃ y t, l = y :: t := by
      cases l with
      | nil => have := HN.out.1; simp at this; omega
      | cons y t => exact ⟨y, t, rfl⟩
    obtain ⟨b, o, rfl, cy⟩ := HI.out.at (i := 0) (z := y) rfl
    rw [Nat.add_zero] at cy
    have hw : IntKind.i64.wrap (v + 1) = v + 1 := IntWalk.i64_in _ (by omega)
    have c1 : ¬ (c : Int) = 1 := by have := HI.out.1; have := HN.out.1; omega
    have HNT : Hid (t.length = n - 1 ∧ 2 ≤ n) := Lib.hid ⟨by have := HN.out.1; simp at this; omega, by omega⟩
    have HT : Hid (∀ q, Calls Tryz.prog 53 #[.slice (some ⟨b, o + 1, none⟩) (n - 1) (c - 1), .func (.func 66) #[] #[.pointer (some ⟨bk, 0, none⟩)]] ((w.alloc (.cells #[.int .i64 k, .slice (some ⟨b, o, none⟩) n c, .int .i64 s] 46)).drewN q) fun e w' => e = .returned (.bool (t.any (unkB v))) ∧ (w.alloc (.cells #[.int .i64 k, .slice (some ⟨b, o, none⟩) n c, .int .i64 s] 46)).drewN q = w') := Lib.hid (fun q =>
      anyUnk_calls v bk t (n - 1) HNT.out.1 _ _ _ ((HI.out.tail (n := n - 1) (by have := HNT.out; have := HN.out.1; omega)).grown (grown_drewN _ _ _)) (HK.out.grown (grown_drewN _ _ none) (by simp)).1 ⟨by omega, by omega⟩ (by rw [HNT.out.1]; have := HN.out.2; omega))
    by_cases hy : y = v + 1
    · have d3 : (y != v + 1) = false := by simpa using hy
      have HR1 : Hid (okS v (k, y :: t, s) = (decide (v + 1 ≤ 20000) && (knownB v t && decide (s = 0)))) := Lib.hid (by
        rw [HR0.out]
        have h2 : 2 ≤ (y :: t).length := by rw [HN.out.1]; exact HNT.out.2
        show (decide (2 ≤ (y :: t).length) && (decide (some y = some (v + 1)) && (decide (v + 1 ≤ 20000) && (knownB v t && decide (s = 0))))) = _
        rw [decide_eq_true h2, hy, decide_eq_true rfl, Bool.true_and, Bool.true_and])
      by_cases hy2 : 20000 < y
      · have d4 : decide (20000 < y) = true := by simpa using hy2
        have HR : Hid (okS v (k, y :: t, s) = false) := Lib.hid (by rw [HR1.out, decide_eq_false (by omega)]; rfl)
        clear hy
        go_enter Tryz.func67, Tryz.ntmps67
        go_wp2_with fail
        go_quiet (fail)
        go_wp2_with fail
        go_ret
        exact taken_same (HK.out.grown (grown_drewN _ _ none) (by simp)) (HG.out.trans (grown_drewN _ _ _)) HR.out (fun h => by cases h)
      · have d4 : decide (20000 < y) = false := by simpa using hy2
        have HR2 : Hid (okS v (k, y :: t, s) = (knownB v t && decide (s = 0))) := Lib.hid (by rw [HR1.out, decide_eq_true (by omega), Bool.true_and])
        clear hy hn2
        go_enter Tryz.func67, Tryz.ntmps67
        go_wp2_with fail
        go_quiet ((go_at_call 53; exact quiet_left (HT.out _)))
        obtain ⟨B, hB⟩ : ∃ B, t.any (unkB v) = B := ⟨_, rfl⟩
        rw [hB]
        have HB := Lib.hid hB; clear hB
        have HWB := Lib.hid (World.block_lt_of_cell? w _ hk0.out.1)
        cases B with
        | true =>
          have HR : Hid (okS v (k, y :: t, s) = false) := Lib.hid (by rw [HR2.out]; unfold knownB; rw [HB.out]; rfl)
          go_wp2_with fail
          go_ret
          exact taken_same (HK.out.grown (grown_drewN _ _ none) (by simp)) (HG.out.trans (grown_drewN _ _ _)) HR.out (fun h => by cases h)
        | false =>
          have HR3 : Hid (okS v (k, y :: t, s) = decide (s = 0)) := Lib.hid (by rw [HR2.out]; unfold knownB; rw [HB.out]; rfl)
          have kf := HK.out.2
          have cs : (((w.alloc (.cells #[.int .i64 k, .slice (some ⟨b, o, none⟩) n c, .int .i64 s] 46)).drewN nq).setCell ⟨bk, 0, none⟩ (.int .i64 (v + 1))).cell? ⟨w.heap.size, 2, none⟩ = some (.int .i64 s) := by
            rw [World.cell?_setCell_other _ _ _ _ (by intro e; injection e with e _; have := HWB.out; omega)]
            go_simp
          go_wp2_with fail
          go_ret
          have hK2 := (HK.out.grown (grown_drewN _ nq none) (by simp)).set (v + 1)
          have hG2 := (HG.out.trans (grown_drewN _ nq _)).trans (grown_set _ bk 0 (.int .i64 (v + 1)))
          refine ⟨v + 1, by rw [HR3.out]; exact ret_beq s, hK2, fun _ => HX.out.symm, hG2⟩
    · have d3 : (y != v + 1) = true := by simpa using hy
      have HR : Hid (okS v (k, y :: t, s) = false) := Lib.hid (by rw [HR0.out]; simp [hy])
      clear hy
      go_enter Tryz.func67, Tryz.ntmps67
      go_wp2_with fail
      go_quiet (fail)
      go_wp2_with fail
      go_ret
      exact taken_same (HK.out.grown (grown_drewN _ _ none) (by simp)) (HG.out.trans (grown_drewN _ _ _)) HR.out (fun h => by cases h)
  have e3 : (k == 3) = false := by simpa using hk
  have HR : Hid (okS v (k, l, s) = false) := Lib.hid (okS_no hk1.out hk2.out hk hk4.out)
  clear hk
  go_enter Tryz.func67, Tryz.ntmps67
  go_wp2_with fail
  go_ret
  exact taken_same HK.out HG.out HR.out (fun h => by cases h)
theorem okF_bad {v : Int} {l : List St} {i : Nat} {x : St} (hx : l[i]? = some x) (h : okS (vAfter v (l.take i)) x = false) : okF v l = false := by
  have hi : i < l.length := by
    rcases Nat.lt_or_ge i l.length with h | h
    · exact h
    · rw [List.getElem?_eq_none h] at hx; cases hx
  have e : l = l.take i ++ x :: l.drop (i + 1) := by
    conv => lhs; rw [← List.take_append_drop i l]
    rw [List.drop_eq_getElem_cons hi]
    rw [List.getElem?_eq_getElem hi] at hx
    cases hx; rfl
  rw [e, okF_append]
  simp only [okF]
  rw [h]; simp
theorem okF_step {v : Int} {l : List St} {i : Nat} {x : St} (hx : l[i]? = some x) (ht : okF v (l.take i) = true) (h : okS (vAfter v (l.take i)) x = true) :
    okF v (l.take (i + 1)) = true ∧ vAfter v (l.take (i + 1)) = nextV (vAfter v (l.take i)) x := by
  rw [List.take_add_one, hx, Option.toList_some]
  refine ⟨?_, by simp [vAfter]⟩
  rw [okF_append, ht]
  simp [okF, h]

set_option maxHeartbeats 2000000 in
theorem validF_calls (v : Int) (l : List St) (n : Nat) (hn : l.length = n) (a : Option Addr) (c : Nat) (w : World) (h : StepsW w a c l) (hl : (l.length : Int) ≤ 9223372036854775807) (hlits : ∀ x ∈ l, x.2.1.length ≤ 100000) :
    Calls Tryz.prog 49 #[.int .i64 v, .slice a n c] w fun e w' => e = .returned (.bool (validF v l)) ∧ w.grownBy w' none := by
  rw [hn] at hl
  have HH := Lib.hid (And.intro hn (And.intro h hlits)); clear hn h hlits
  by_cases h1 : v < 0
  · have d1 : decide (v < 0) = true := by simpa using h1
    have HR : Hid (validF v l = false) := Lib.hid (by unfold validF; rw [decide_eq_false (by omega)]; rfl)
    go_enter Tryz.func49, Tryz.ntmps49
    go_wp2
    go_ret
    exact ⟨by rw [HR.out]; rfl, grown_refl _ _⟩
  have d1 : decide (v < 0) = false := by simpa using h1
  by_cases h2 : 20000 < v
  · have d2 : decide (20000 < v) = true := by simpa using h2
    have HR : Hid (validF v l = false) := Lib.hid (by unfold validF; rw [decide_eq_false (by omega)]; rfl)
    go_enter Tryz.func49, Tryz.ntmps49
    go_wp2
    go_ret
    exact ⟨by rw [HR.out]; rfl, grown_refl _ _⟩
  have d2 : decide (20000 < v) = false := by simpa using h2
  by_cases h3 : 20000 < n
  · have d3 : decide (20000 < n) = true := by simpa using h3
    have d3' : decide (20000 < (n : Int)) = true := by simp; omega
    have HR : Hid (validF v l = false) := Lib.hid (by unfold validF; rw [HH.out.1, decide_eq_false (by omega)]; rfl)
    go_enter Tryz.func49, Tryz.ntmps49
    go_wp2
    go_ret
    exact ⟨by rw [HR.out]; rfl, grown_refl _ _⟩
  have d3 : decide (20000 < n) = false := by simpa using h3
  have d3' : decide (20000 < (n : Int)) = false := by simp; omega
  have HR : Hid (validF v l = okF v l) := Lib.hid (by unfold validF; rw [HH.out.1, decide_eq_true (by omega), Bool.true_and])
  go_enter Tryz.func49, Tryz.ntmps49
  go_wp2_with fail
  obtain ⟨B0, hB0⟩ : ∃ B0, w.heap.size = B0 := ⟨_, rfl⟩
  obtain ⟨W0, hW0⟩ : ∃ W0, (w.alloc (.cells #[.int .i64 v] 3)).alloc (.cells #[.func (.func 66) #[] #[.pointer (some ⟨w.heap.size, 0, none⟩)]] 81) = W0 := ⟨_, rfl⟩
  have hg0 : w.grownBy W0 none := by rw [← hW0]; exact (World.grownBy_alloc _ _ none).trans (World.grownBy_alloc _ _ none)
  have HK0 : Hid (Known W0 B0 v) := Lib.hid (by rw [← hW0, ← hB0]; clear hW0 hB0; exact ⟨by go_simp, by go_simp⟩)
  have HU0 : Hid (W0.cell? ⟨B0 + 1, 0, none⟩ = some (.func (.func 66) #[] #[.pointer (some ⟨B0, 0, none⟩)])) := Lib.hid (by rw [← hW0, ← hB0]; clear hW0 hB0; go_simp)
  rw [hW0, hB0]
  have HG0 := Lib.hid (And.intro hg0 hB0)
  clear hg0 hW0 hB0
  go_loopg [26] n (fun g s26 wr => ∃ (i : Nat) (u : Int), s26 = .int .i64 (i : Int) ∧ g = n - i ∧ i ≤ n ∧ okF v (l.take i) = true ∧ vAfter v (l.take i) = u ∧ (0 ≤ u ∧ u ≤ 20000) ∧ Known wr B0 u ∧ wr.cell? ⟨B0 + 1, 0, none⟩ = some (.func (.func 66) #[] #[.pointer (some ⟨B0, 0, none⟩)]) ∧ w.grownBy wr none)
  case atStart => exact ⟨0, v, rfl, rfl, Nat.zero_le _, rfl, rfl, ⟨by omega, by omega⟩, HK0.out, HU0.out, HG0.out.1⟩
  case round =>
    obtain ⟨i, u, rfl, hgi, hi, hok, hva, hu, hkn, hun, hgr⟩ := hrel
    have HGI := Lib.hid (And.intro hgi (And.intro hok (And.intro hva (And.intro hu (And.intro hkn (And.intro hun hgr)))))); clear hgi hok hva hu hkn hun hgr
    by_cases hin : i < n
    · have hinB : decide (i < n) = true := by simpa using hin
      have hinI : (i : Int) < (n : Int) := by omega
      obtain ⟨x, hx⟩ : ∃ x, l[i]? = some x := ⟨_, List.getElem?_eq_getElem (by rw [HH.out.1]; exact hin)⟩
      have hst := HH.out.2.1.grown HGI.out.2.2.2.2.2.2
      obtain ⟨b, o, rfl, c0, ⟨la, lc, c1, hints⟩, c2⟩ := hst.2 i x hx
      have HX := Lib.hid hx; clear hx hst
      have ga := World.grownBy_alloc wr (.cells #[.int .i64 x.1, .slice la x.2.1.length lc, .int .i64 x.2.2] 46) none
      have HI := Lib.hid (hints.grown ga)
      have HU := Lib.hid (ga.cell HGI.out.2.2.2.2.2.1 (by simp))
      have HK := Lib.hid (HGI.out.2.2.2.2.1.alloc (.cells #[.int .i64 x.1, .slice la x.2.1.length lc, .int .i64 x.2.2] 46))
      have HGA := Lib.hid (HGI.out.2.2.2.2.2.2.trans ga)
      clear hints ga
      go_wp2_with fail
      refine (accept_calls u (B0 + 1) B0 x la lc _ HI.out (HH.out.2.2 x (List.mem_of_getElem? HX.out)) HGI.out.2.2.2.1 HU.out HK.out).mono ?_
      rintro e w' ⟨u', rfl, hk', hn', hg'⟩
      have HT := Lib.hid (And.intro hk' (And.intro hn' (grown_own HGA.out hg' (fun k hk => by cases hk; exact Nat.le_of_eq HG0.out.2))))
      have HU' := Lib.hid (hg'.cell HU.out (by simp))
      clear hk' hn' hg'
      obtain ⟨B, hB⟩ : ∃ B, okS u x = B := ⟨_, rfl⟩
      rw [hB]
      have HB := Lib.hid hB; clear hB
      cases B with
      | true =>
        go_wp2_with fail
        go_roundg (n - (i + 1))
        case measure => rw [HGI.out.1]; omega
        case rel =>
          have hs := okF_step HX.out HGI.out.2.1 (by rw [HGI.out.2.2.1]; exact HB.out)
          rw [HGI.out.2.2.1] at hs
          have hgood := okS_good HGI.out.2.2.2.1 HB.out
          have hu' := HT.out.2.1 HB.out
          rw [← hu'] at hs hgood
          exact ⟨i + 1, u', rfl, rfl, by omega, hs.1, hs.2, hgood, HT.out.1, HU'.out, HT.out.2.2⟩
      | false =>
        have HF := Lib.hid (okF_bad HX.out (by rw [HGI.out.2.2.1]; exact HB.out))
        go_wp2_with fail
        go_ret
        exact ⟨by rw [HR.out, HF.out]; rfl, HT.out.2.2⟩
    · have hie : i = n := by omega
      subst hie
      have hinB : decide (i < i) = false := by simp
      have HF : Hid (okF v l = true) := Lib.hid (by
        have := HGI.out.2.1
        rw [List.take_of_length_le (by rw [HH.out.1]; exact Nat.le_refl _)] at this
        exact this)
      go_wp2
      go_ret
      exact ⟨by rw [HR.out, HF.out]; rfl, HGI.out.2.2.2.2.2.2⟩
end Go.Proofs.YtihaheinkpmnnaaGreat

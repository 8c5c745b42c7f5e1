/- Scopes: the sizes of the sorts lie in a row; First is their sum up to a sort. -/
import Derived.Test.YtbddpjofhddilaaProg
import Derived.WalkKit
import Derived.WalkSpells
import Derived.WalkLawsBesides
import Derived.Deep.QuietTactic
import Derived.Deep.LoopGhost
import Derived.Maps.AppendAt
import Derived.BigQuiet
import Derived.Lib.Hide
import Derived.IntWalk
namespace Go.Proofs.Ytbddpjofhddilaa
open Go.RowKit

/-- A row of numbers that is read: nothing, or cells. -/
def Nums (w : World) (a : Option Addr) (c : Nat) (zs : List Nat) : Prop :=
  zs.length ≤ c ∧ ((zs = [] ∧ a = none ∧ c = 0) ∨ ∃ b o, a = some ⟨b, o, none⟩ ∧ b < w.heap.size ∧ ∀ j z : Nat, zs[j]? = some z → w.cell? ⟨b, o + j, none⟩ = some (.int .i64 (z : Int)))
/-- A row of integers that is read. -/
def Ints (w : World) (a : Option Addr) (c : Nat) (zs : List Int) : Prop :=
  zs.length ≤ c ∧ ((zs = [] ∧ a = none ∧ c = 0) ∨ ∃ b o, a = some ⟨b, o, none⟩ ∧ b < w.heap.size ∧ ∀ (j : Nat) (z : Int), zs[j]? = some z → w.cell? ⟨b, o + j, none⟩ = some (.int .i64 z))
theorem Ints.grown {w w' : World} {a : Option Addr} {c : Nat} {zs : List Int} (h : Ints w a c zs) (hg : w.grownBy w' none) : Ints w' a c zs := by
  obtain ⟨hc, h | ⟨b, o, ha, hb, hz⟩⟩ := h
  · exact ⟨hc, .inl h⟩
  · exact ⟨hc, .inr ⟨b, o, ha, Nat.lt_of_lt_of_le hb hg.size, fun j z hj => hg.cell (hz j z hj) (by simp)⟩⟩
theorem Ints.nums {w : World} {a : Option Addr} {c : Nat} {zs : List Int} (h : Ints w a c zs) (hp : ∀ z ∈ zs, 0 ≤ z) : Nums w a c (zs.map Int.toNat) := by
  obtain ⟨hc, ⟨rfl, h⟩ | ⟨b, o, ha, hb, hz⟩⟩ := h
  · exact ⟨by simp, .inl ⟨rfl, h⟩⟩
  · refine ⟨by simpa using hc, .inr ⟨b, o, ha, hb, fun j z hj => ?_⟩⟩
    rw [List.getElem?_map] at hj
    cases hq : zs[j]? with
    | none => rw [hq] at hj; simp at hj
    | some y =>
      rw [hq] at hj
      simp at hj
      have hy := hp y (List.mem_of_getElem? hq)
      rw [hz j y hq, ← hj]
      congr 2
      omega
theorem Nums.ints {w : World} {a : Option Addr} {c : Nat} {zs : List Nat} (h : Nums w a c zs) : Ints w a c (zs.map Int.ofNat) := by
  obtain ⟨hc, ⟨rfl, h⟩ | ⟨b, o, ha, hb, hz⟩⟩ := h
  · exact ⟨by simp, .inl ⟨rfl, h⟩⟩
  · refine ⟨by simpa using hc, .inr ⟨b, o, ha, hb, fun j z hj => ?_⟩⟩
    rw [List.getElem?_map] at hj
    cases hq : zs[j]? with
    | none => rw [hq] at hj; simp at hj
    | some y =>
      rw [hq] at hj
      simp at hj
      rw [hz j y hq, ← hj]
theorem Nums.grown {w w' : World} {a : Option Addr} {c : Nat} {zs : List Nat} (h : Nums w a c zs) (hg : w.grownBy w' none) : Nums w' a c zs := by
  obtain ⟨hc, h | ⟨b, o, ha, hb, hz⟩⟩ := h
  · exact ⟨hc, .inl h⟩
  · exact ⟨hc, .inr ⟨b, o, ha, Nat.lt_of_lt_of_le hb hg.size, fun j z hj => hg.cell (hz j z hj) (by simp)⟩⟩

def sum : List Nat → Nat
  | [] => 0
  | z :: l => z + sum l
theorem sum_snoc : ∀ (l : List Nat) (z : Nat), sum (l ++ [z]) = sum l + z
  | [], z => by simp [sum]
  | a :: l, z => by simp [sum, sum_snoc l z]; omega
theorem sum_le {l : List Nat} {m : Nat} (h : ∀ z ∈ l, z ≤ m) : sum l ≤ m * l.length := by
  induction l with
  | nil => simp [sum]
  | cons a l ih =>
    have h1 := ih (fun z hz => h z (by simp [hz]))
    have h2 := h a (by simp)
    simp only [sum, List.length_cons, Nat.mul_add]
    omega

theorem grown_drewN (w : World) (n : Nat) (r : Option Nat) : w.grownBy (w.drewN n) r := ⟨rfl, rfl, rfl, Nat.le_refl _, fun _ _ _ => rfl⟩
theorem grown_refl (w : World) (r : Option Nat) : w.grownBy w r := ⟨rfl, rfl, rfl, Nat.le_refl _, fun _ _ _ => rfl⟩

set_option maxHeartbeats 1000000 in
theorem first_calls (zs : List Nat) (a : Option Addr) (c : Nat) (st : Int) (w : World) (h : Nums w a c zs) (hz : ∀ z ∈ zs, z ≤ 5) (hl : zs.length ≤ 4) (m : Nat) (hm : m ≤ zs.length) :
    Calls Try.prog 36 #[.agg #[.slice a zs.length c, .int .i64 st], .int .i64 (m : Int)] w fun e w' => e = .returned (.int .i64 (sum (zs.take m) : Nat)) ∧ w.grownBy w' none := by
  obtain ⟨n, hn⟩ : ∃ n, zs.length = n := ⟨_, rfl⟩
  rw [hn] at hl hm ⊢
  have HZ := Lib.hid (And.intro hz hn); clear hz
  have hmax : max (m : Int) 0 = (m : Int) := by omega
  have hmin : min (m : Int) (n : Int) = (m : Int) := by omega
  obtain ⟨hc, h | ⟨b, o, rfl, hb, hz⟩⟩ := h
  · obtain ⟨rfl, rfl, rfl⟩ := h
    simp at hn
    subst hn
    have hm0 : m = 0 := by omega
    subst hm0
    have HG := Lib.hid (World.grownBy_alloc w (.cells #[.slice none 0 0, .int .i64 st] 30) none)
    go_enter Try.func36, Try.ntmps36
    go_wp2
    go_loopg [5, 18] 0 (fun g s5 s18 wr => s5 = .int .i64 0 ∧ s18 = .int .i64 0 ∧ g = 0 ∧ wr = w.alloc (.cells #[.slice none 0 0, .int .i64 st] 30))
    case atStart => exact ⟨rfl, rfl, rfl, rfl⟩
    case round =>
      obtain ⟨rfl, rfl, _, rfl⟩ := hrel
      go_wp2
      go_ret
      exact ⟨rfl, HG.out⟩
  · rw [hn] at hc
    have HC := Lib.hid hz; clear hz
    have hmc : (m : Int) ≤ (c : Int) := by omega
    go_enter Try.func36, Try.ntmps36
    have HG := Lib.hid (World.grownBy_alloc w (.cells #[.slice (some ⟨b, o, none⟩) n c, .int .i64 st] 30) none)
    go_wp2
    obtain ⟨W, hW⟩ : ∃ W, w.alloc (.cells #[.slice (some ⟨b, o, none⟩) n c, .int .i64 st] 30) = W := ⟨_, rfl⟩
    rw [hW] at HG ⊢
    have HC2 : Hid (∀ j z : Nat, zs[j]? = some z → W.cell? ⟨b, o + j, none⟩ = some (.int .i64 (z : Int))) := Lib.hid (fun j z hj => HG.out.cell (HC.out j z hj) (by simp))
    clear hW HC hmc hmin hmax
    go_loopg [5, 7, 18] m (fun g s5 s7 s18 wr => ∃ (i : Nat), s5 = .int .i64 (sum (zs.take i) : Nat) ∧ s18 = .int .i64 (i : Int) ∧ g = m - i ∧ i ≤ m ∧ wr = W)
    case atStart => exact ⟨0, rfl, rfl, rfl, by omega, rfl⟩
    case round =>
      obtain ⟨i, rfl, rfl, hgi, hi, rfl⟩ := hrel
      have HGI := Lib.hid hgi; clear hgi
      by_cases him : i < m
      · have himB : decide (i < m) = true := by simp; omega
        have himI : (i : Int) < (m : Int) := by omega
        have hzn := HZ.out.2
        obtain ⟨z, hz⟩ : ∃ z, zs[i]? = some z := ⟨_, List.getElem?_eq_getElem (by omega)⟩
        have hz5 := HZ.out.1 z (List.mem_of_getElem? hz)
        have hcell := HC2.out i z hz
        have hs := sum_le (l := zs.take i) (m := 5) (fun y hy => HZ.out.1 y (List.mem_of_mem_take hy))
        rw [List.length_take] at hs
        have hsn : sum (zs.take (i + 1)) = sum (zs.take i) + z := by
          rw [List.take_add_one, hz, Option.toList_some, sum_snoc]
        obtain ⟨S, hS⟩ : ∃ S, sum (zs.take i) = S := ⟨_, rfl⟩
        rw [hS] at hs hsn ⊢
        have hS20 : S ≤ 20 := by omega
        have HSN := Lib.hid hsn; clear hsn hS hs hz hzn
        go_wp2
        go_roundg (m - (i + 1))
        case measure => rw [HGI.out]; omega
        case rel => exact ⟨i + 1, by rw [HSN.out]; rfl, rfl, rfl, by omega, rfl⟩
      · have hie : i = m := by omega
        subst hie
        have himB : decide (i < i) = false := by simp
        go_wp2
        go_ret
        exact ⟨rfl, HG.out⟩

set_option maxHeartbeats 1000000 in
theorem atoms_calls (zs : List Nat) (a : Option Addr) (c : Nat) (st : Int) (w : World) (h : Nums w a c zs) (hz : ∀ z ∈ zs, z ≤ 5) (hl : zs.length ≤ 4) :
    Calls Try.prog 34 #[.agg #[.slice a zs.length c, .int .i64 st]] w fun e w' => e = .returned (.int .i64 (sum zs : Nat)) ∧ w.grownBy w' none := by
  have HH := Lib.hid (And.intro h hz); clear h hz
  have HL := Lib.hid hl; clear hl
  go_enter Try.func34, Try.ntmps34
  go_wp2_with fail
  have hg := World.grownBy_alloc w (.cells #[.slice a zs.length c, .int .i64 st] 30) none
  refine (first_calls zs a c st _ (HH.out.1.grown hg) HH.out.2 HL.out zs.length (Nat.le_refl _)).mono ?_
  rintro e w1 ⟨rfl, g1⟩
  rw [List.take_length]
  have HG := Lib.hid (hg.trans g1); clear hg g1
  go_wp2
  go_ret
  exact ⟨rfl, HG.out⟩

/-- The sort of an atom among the sorts from i on, or none. -/
def sortOf (zs : List Nat) (x : Int) : Nat → Nat → Option Nat
  | 0, _ => none
  | n + 1, i => if x < (sum (zs.take (i + 1)) : Nat) then some i else sortOf zs x n (i + 1)
def sortI (zs : List Nat) (x : Int) : Int := if x < 0 then -1 else match sortOf zs x zs.length 0 with
  | some i => (i : Int)
  | none => -1

set_option maxHeartbeats 1000000 in
theorem sort_calls (zs : List Nat) (a : Option Addr) (c : Nat) (st x : Int) (w : World) (h : Nums w a c zs) (hz : ∀ z ∈ zs, z ≤ 5) (hl : zs.length ≤ 4) :
    Calls Try.prog 35 #[.agg #[.slice a zs.length c, .int .i64 st], .int .i64 x] w fun e w' => e = .returned (.int .i64 (sortI zs x)) ∧ w.grownBy w' none := by
  have HH := Lib.hid (And.intro h hz); clear h hz
  obtain ⟨n, hn⟩ : ∃ n, zs.length = n := ⟨_, rfl⟩
  rw [hn] at hl ⊢
  have HN := Lib.hid hn; clear hn
  have hg := World.grownBy_alloc w (.cells #[.slice a n c, .int .i64 st] 30) none
  have HG := Lib.hid hg; clear hg
  by_cases hx : x < 0
  · have HR : Hid (sortI zs x = -1) := Lib.hid (by unfold sortI; rw [if_pos hx])
    go_enter Try.func35, Try.ntmps35
    go_wp2_with fail
    go_ret
    exact ⟨by rw [HR.out]; rfl, HG.out⟩
  · have HR : Hid (sortI zs x = match sortOf zs x n 0 with | some i => (i : Int) | none => -1) := Lib.hid (by unfold sortI; rw [if_neg hx, HN.out])
    go_enter Try.func35, Try.ntmps35
    go_wp2_with fail
    go_loopg [5, 11] n (fun g s5 s11 wr => ∃ (i : Nat), s11 = .int .i64 (i : Int) ∧ g = n - i ∧ i ≤ n ∧ sortOf zs x n 0 = sortOf zs x (n - i) i ∧ (wr.cell? ⟨w.heap.size, 0, none⟩ = some (.slice a n c) ∧ wr.cell? ⟨w.heap.size, 1, none⟩ = some (.int .i64 st)) ∧ w.grownBy wr none)
    case atStart => exact ⟨0, rfl, rfl, Nat.zero_le _, rfl, ⟨by go_simp, by go_simp⟩, HG.out⟩
    case round =>
      obtain ⟨i, rfl, hgi, hi, hso, ⟨c0, c1⟩, hgr⟩ := hrel
      have HGI := Lib.hid (And.intro hgi hso); clear hgi hso
      have HW := Lib.hid hgr; clear hgr
      by_cases hin : i < n
      · have hinB : decide (i < n) = true := by simp; omega
        go_wp2_with fail
        have hf := first_calls zs a c st wr (HH.out.1.grown HW.out) HH.out.2 (by rw [HN.out]; exact hl) (i + 1) (by rw [HN.out]; omega)
        rw [HN.out] at hf
        refine hf.mono ?_
        clear hf
        rintro e w1 ⟨rfl, g1⟩
        have hd0 := g1.cell c0 (by simp)
        have hd1 := g1.cell c1 (by simp)
        have HG1 := Lib.hid (HW.out.trans g1); clear g1 c0 c1
        have HS := Lib.hid (show sortOf zs x (n - i) i = if x < (sum (zs.take (i + 1)) : Nat) then some i else sortOf zs x (n - (i + 1)) (i + 1) by rw [show n - i = (n - (i + 1)) + 1 by omega]; rfl)
        obtain ⟨S, hS⟩ : ∃ S, sum (zs.take (i + 1)) = S := ⟨_, rfl⟩
        rw [hS] at HS ⊢
        clear hS
        by_cases hxs : x < (S : Int)
        · go_wp2
          go_ret
          exact ⟨by rw [HR.out, HGI.out.2, HS.out, if_pos hxs]; rfl, HG1.out⟩
        · go_wp2
          go_roundg (n - (i + 1))
          case measure => rw [HGI.out.1]; omega
          case rel => exact ⟨i + 1, rfl, rfl, by omega, by rw [HGI.out.2, HS.out, if_neg (by omega)], ⟨hd0, hd1⟩, HG1.out⟩
      · have hie : i = n := by omega
        subst hie
        have hinB : decide (i < i) = false := by simp
        go_wp2
        go_ret
        exact ⟨by rw [HR.out, HGI.out.2, Nat.sub_self]; rfl, HW.out⟩
end Go.Proofs.Ytbddpjofhddilaa

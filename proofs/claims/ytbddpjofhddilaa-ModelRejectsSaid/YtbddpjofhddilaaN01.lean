/- Common texts of the laws of stage 9, joined: UA UB UC UD UE UF UG UO UP. -/
import Derived.Test.YtbddpjofhddilaaProg
import Derived.WalkKit
import Derived.WalkSpells
import Derived.WalkLawsBesides
import Derived.Deep.QuietTactic
import Derived.Deep.LoopGhost
import Derived.Maps.AppendAt
import Derived.BigQuiet
import Derived.Lib.Hide
import Derived.IntWalk
import Derived.RangeFuncNested
import Derived.RangeFuncLeaves
import Derived.RangeFuncBound
import Derived.OwnWalkIn
import Derived.Deep.RegionHeld3
import Derived.Laws.EntriesVeiled
/- Scopes: the sizes of the sorts lie in a row; First is their sum up to a sort. -/
namespace Go.Proofs.Ytbddpjofhddilaa
open Go.RowKit

/-- A row of numbers that is read: nothing, or cells. -/
def Nums (w : World) (a : Option Addr) (c : Nat) (zs : List Nat) : Prop :=
  zs.length ≤ c ∧ ((zs = [] ∧ a = none ∧ c = 0) ∨ ∃ b o, a = some ⟨b, o, none⟩ ∧ b < w.heap.size ∧ ∀ j z : Nat, zs[j]? = some z → w.cell? ⟨b, o + j, none⟩ = some (.int .i64 (z : Int)))
/-- A row of integers that is read. -/
def Ints (w : World) (a : Option Addr) (c : Nat) (zs : List Int) : Prop :=
  zs.length ≤ c ∧ ((zs = [] ∧ a = none ∧ c = 0) ∨ ∃ b o, a = some ⟨b, o, none⟩ ∧ b < w.heap.size ∧ ∀ (j : Nat) (z : Int), zs[j]? = some z → w.cell? ⟨b, o + j, none⟩ = some (.int .i64 z))
theorem Ints.grown {w w' : World} {a : Option Addr} {c : Nat} {zs : List Int} (h : Ints w a c zs) (hg : w.grownBy w' none) : Ints w' a c zs := by
  obtain ⟨hc, h | ⟨b, o, ha, hb, hz⟩⟩ := h
  · exact ⟨hc, .inl h⟩
  · exact ⟨hc, .inr ⟨b, o, ha, Nat.lt_of_lt_of_le hb hg.size, fun j z hj => hg.cell (hz j z hj) (by simp)⟩⟩
theorem Ints.nums {w : World} {a : Option Addr} {c : Nat} {zs : List Int} (h : Ints w a c zs) (hp : ∀ z ∈ zs, 0 ≤ z) : Nums w a c (zs.map Int.toNat) := by
  obtain ⟨hc, ⟨rfl, h⟩ | ⟨b, o, ha, hb, hz⟩⟩ := h
  · exact ⟨by simp, .inl ⟨rfl, h⟩⟩
  · refine ⟨by simpa using hc, .inr ⟨b, o, ha, hb, fun j z hj => ?_⟩⟩
    rw [List.getElem?_map] at hj
    cases hq : zs[j]? with
    | none => rw [hq] at hj; simp at hj
    | some y =>
      rw [hq] at hj
      simp at hj
      have hy := hp y (List.mem_of_getElem? hq)
      rw [hz j y hq, ← hj]
      congr 2
      omega
theorem Nums.ints {w : World} {a : Option Addr} {c : Nat} {zs : List Nat} (h : Nums w a c zs) : Ints w a c (zs.map Int.ofNat) := by
  obtain ⟨hc, ⟨rfl, h⟩ | ⟨b, o, ha, hb, hz⟩⟩ := h
  · exact ⟨by simp, .inl ⟨rfl, h⟩⟩
  · refine ⟨by simpa using hc, .inr ⟨b, o, ha, hb, fun j z hj => ?_⟩⟩
    rw [List.getElem?_map] at hj
    cases hq : zs[j]? with
    | none => rw [hq] at hj; simp at hj
    | some y =>
      rw [hq] at hj
      simp at hj
      rw [hz j y hq, ← hj]
theorem Nums.grown {w w' : World} {a : Option Addr} {c : Nat} {zs : List Nat} (h : Nums w a c zs) (hg : w.grownBy w' none) : Nums w' a c zs := by
  obtain ⟨hc, h | ⟨b, o, ha, hb, hz⟩⟩ := h
  · exact ⟨hc, .inl h⟩
  · exact ⟨hc, .inr ⟨b, o, ha, Nat.lt_of_lt_of_le hb hg.size, fun j z hj => hg.cell (hz j z hj) (by simp)⟩⟩

def sum : List Nat → Nat
  | [] => 0
  | z :: l => z + sum l
theorem sum_snoc : ∀ (l : List Nat) (z : Nat), sum (l ++ [z]) = sum l + z
  | [], z => by simp [sum]
  | a :: l, z => by simp [sum, sum_snoc l z]; omega
theorem sum_le {l : List Nat} {m : Nat} (h : ∀ z ∈ l, z ≤ m) : sum l ≤ m * l.length := by
  induction l with
  | nil => simp [sum]
  | cons a l ih =>
    have h1 := ih (fun z hz => h z (by simp [hz]))
    have h2 := h a (by simp)
    simp only [sum, List.length_cons, Nat.mul_add]
    omega

theorem grown_drewN (w : World) (n : Nat) (r : Option Nat) : w.grownBy (w.drewN n) r := ⟨rfl, rfl, rfl, Nat.le_refl _, fun _ _ _ => rfl⟩
theorem grown_refl (w : World) (r : Option Nat) : w.grownBy w r := ⟨rfl, rfl, rfl, Nat.le_refl _, fun _ _ _ => rfl⟩

set_option maxHeartbeats 1000000 in
theorem first_calls (zs : List Nat) (a : Option Addr) (c : Nat) (st : Int) (w : World) (h : Nums w a c zs) (hz : ∀ z ∈ zs, z ≤ 5) (hl : zs.length ≤ 4) (m : Nat) (hm : m ≤ zs.length) :
    Calls Try.prog 36 #[.agg #[.slice a zs.length c, .int .i64 st], .int .i64 (m : Int)] w fun e w' => e = .returned (.int .i64 (sum (zs.take m) : Nat)) ∧ w.grownBy w' none := by
  obtain ⟨n, hn⟩ : ∃ n, zs.length = n := ⟨_, rfl⟩
  rw [hn] at hl hm ⊢
  have HZ := Lib.hid (And.intro hz hn); clear hz
  have hmax : max (m : Int) 0 = (m : Int) := by omega
  have hmin : min (m : Int) (n : Int) = (m : Int) := by omega
  obtain ⟨hc, h | ⟨b, o, rfl, hb, hz⟩⟩ := h
  · obtain ⟨rfl, rfl, rfl⟩ := h
    simp at hn
    subst hn
    have hm0 : m = 0 := by omega
    subst hm0
    have HG := Lib.hid (World.grownBy_alloc w (.cells #[.slice none 0 0, .int .i64 st] 30) none)
    go_enter Try.func36, Try.ntmps36
    go_wp2
    go_loopg [5, 18] 0 (fun g s5 s18 wr => s5 = .int .i64 0 ∧ s18 = .int .i64 0 ∧ g = 0 ∧ wr = w.alloc (.cells #[.slice none 0 0, .int .i64 st] 30))
    case atStart => exact ⟨rfl, rfl, rfl, rfl⟩
    case round =>
      obtain ⟨rfl, rfl, _, rfl⟩ := hrel
      go_wp2
      go_ret
      exact ⟨rfl, HG.out⟩
  · rw [hn] at hc
    have HC := Lib.hid hz; clear hz
    have hmc : (m : Int) ≤ (c : Int) := by omega
    go_enter Try.func36, Try.ntmps36
    have HG := Lib.hid (World.grownBy_alloc w (.cells #[.slice (some ⟨b, o, none⟩) n c, .int .i64 st] 30) none)
    go_wp2
    obtain ⟨W, hW⟩ : ∃ W, w.alloc (.cells #[.slice (some ⟨b, o, none⟩) n c, .int .i64 st] 30) = W := ⟨_, rfl⟩
    rw [hW] at HG ⊢
    have HC2 : Hid (∀ j z : Nat, zs[j]? = some z → W.cell? ⟨b, o + j, none⟩ = some (.int .i64 (z : Int))) := Lib.hid (fun j z hj => HG.out.cell (HC.out j z hj) (by simp))
    clear hW HC hmc hmin hmax
    go_loopg [5, 7, 18] m (fun g s5 s7 s18 wr => ∃ (i : Nat), s5 = .int .i64 (sum (zs.take i) : Nat) ∧ s18 = .int .i64 (i : Int) ∧ g = m - i ∧ i ≤ m ∧ wr = W)
    case atStart => exact ⟨0, rfl, rfl, rfl, by omega, rfl⟩
    case round =>
      obtain ⟨i, rfl, rfl, hgi, hi, rfl⟩ := hrel
      have HGI := Lib.hid hgi; clear hgi
      by_cases him : i < m
      · have himB : decide (i < m) = true := by simp; omega
        have himI : (i : Int) < (m : Int) := by omega
        have hzn := HZ.out.2
        obtain ⟨z, hz⟩ : ∃ z, zs[i]? = some z := ⟨_, List.getElem?_eq_getElem (by omega)⟩
        have hz5 := HZ.out.1 z (List.mem_of_getElem? hz)
        have hcell := HC2.out i z hz
        have hs := sum_le (l := zs.take i) (m := 5) (fun y hy => HZ.out.1 y (List.mem_of_mem_take hy))
        rw [List.length_take] at hs
        have hsn : sum (zs.take (i + 1)) = sum (zs.take i) + z := by
          rw [List.take_add_one, hz, Option.toList_some, sum_snoc]
        obtain ⟨S, hS⟩ : ∃ S, sum (zs.take i) = S := ⟨_, rfl⟩
        rw [hS] at hs hsn ⊢
        have hS20 : S ≤ 20 := by omega
        have HSN := Lib.hid hsn; clear hsn hS hs hz hzn
        go_wp2
        go_roundg (m - (i + 1))
        case measure => rw [HGI.out]; omega
        case rel => exact ⟨i + 1, by rw [HSN.out]; rfl, rfl, rfl, by omega, rfl⟩
      · have hie : i = m := by omega
        subst hie
        have himB : decide (i < i) = false := by simp
        go_wp2
        go_ret
        exact ⟨rfl, HG.out⟩

set_option maxHeartbeats 1000000 in
theorem atoms_calls (zs : List Nat) (a : Option Addr) (c : Nat) (st : Int) (w : World) (h : Nums w a c zs) (hz : ∀ z ∈ zs, z ≤ 5) (hl : zs.length ≤ 4) :
    Calls Try.prog 34 #[.agg #[.slice a zs.length c, .int .i64 st]] w fun e w' => e = .returned (.int .i64 (sum zs : Nat)) ∧ w.grownBy w' none := by
  have HH := Lib.hid (And.intro h hz); clear h hz
  have HL := Lib.hid hl; clear hl
  go_enter Try.func34, Try.ntmps34
  go_wp2_with fail
  have hg := World.grownBy_alloc w (.cells #[.slice a zs.length c, .int .i64 st] 30) none
  refine (first_calls zs a c st _ (HH.out.1.grown hg) HH.out.2 HL.out zs.length (Nat.le_refl _)).mono ?_
  rintro e w1 ⟨rfl, g1⟩
  rw [List.take_length]
  have HG := Lib.hid (hg.trans g1); clear hg g1
  go_wp2
  go_ret
  exact ⟨rfl, HG.out⟩

/-- The sort of an atom among the sorts from i on, or none. -/
def sortOf (zs : List Nat) (x : Int) : Nat → Nat → Option Nat
  | 0, _ => none
  | n + 1, i => if x < (sum (zs.take (i + 1)) : Nat) then some i else sortOf zs x n (i + 1)
def sortI (zs : List Nat) (x : Int) : Int := if x < 0 then -1 else match sortOf zs x zs.length 0 with
  | some i => (i : Int)
  | none => -1

set_option maxHeartbeats 1000000 in
theorem sort_calls (zs : List Nat) (a : Option Addr) (c : Nat) (st x : Int) (w : World) (h : Nums w a c zs) (hz : ∀ z ∈ zs, z ≤ 5) (hl : zs.length ≤ 4) :
    Calls Try.prog 35 #[.agg #[.slice a zs.length c, .int .i64 st], .int .i64 x] w fun e w' => e = .returned (.int .i64 (sortI zs x)) ∧ w.grownBy w' none := by
  have HH := Lib.hid (And.intro h hz); clear h hz
  obtain ⟨n, hn⟩ : ∃ n, zs.length = n := ⟨_, rfl⟩
  rw [hn] at hl ⊢
  have HN := Lib.hid hn; clear hn
  have hg := World.grownBy_alloc w (.cells #[.slice a n c, .int .i64 st] 30) none
  have HG := Lib.hid hg; clear hg
  by_cases hx : x < 0
  · have HR : Hid (sortI zs x = -1) := Lib.hid (by unfold sortI; rw [if_pos hx])
    go_enter Try.func35, Try.ntmps35
    go_wp2_with fail
    go_ret
    exact ⟨by rw [HR.out]; rfl, HG.out⟩
  · have HR : Hid (sortI zs x = match sortOf zs x n 0 with | some i => (i : Int) | none => -1) := Lib.hid (by unfold sortI; rw [if_neg hx, HN.out])
    go_enter Try.func35, Try.ntmps35
    go_wp2_with fail
    go_loopg [5, 11] n (fun g s5 s11 wr => ∃ (i : Nat), s11 = .int .i64 (i : Int) ∧ g = n - i ∧ i ≤ n ∧ sortOf zs x n 0 = sortOf zs x (n - i) i ∧ (wr.cell? ⟨w.heap.size, 0, none⟩ = some (.slice a n c) ∧ wr.cell? ⟨w.heap.size, 1, none⟩ = some (.int .i64 st)) ∧ w.grownBy wr none)
    case atStart => exact ⟨0, rfl, rfl, Nat.zero_le _, rfl, ⟨by go_simp, by go_simp⟩, HG.out⟩
    case round =>
      obtain ⟨i, rfl, hgi, hi, hso, ⟨c0, c1⟩, hgr⟩ := hrel
      have HGI := Lib.hid (And.intro hgi hso); clear hgi hso
      have HW := Lib.hid hgr; clear hgr
      by_cases hin : i < n
      · have hinB : decide (i < n) = true := by simp; omega
        go_wp2_with fail
        have hf := first_calls zs a c st wr (HH.out.1.grown HW.out) HH.out.2 (by rw [HN.out]; exact hl) (i + 1) (by rw [HN.out]; omega)
        rw [HN.out] at hf
        refine hf.mono ?_
        clear hf
        rintro e w1 ⟨rfl, g1⟩
        have hd0 := g1.cell c0 (by simp)
        have hd1 := g1.cell c1 (by simp)
        have HG1 := Lib.hid (HW.out.trans g1); clear g1 c0 c1
        have HS := Lib.hid (show sortOf zs x (n - i) i = if x < (sum (zs.take (i + 1)) : Nat) then some i else sortOf zs x (n - (i + 1)) (i + 1) by rw [show n - i = (n - (i + 1)) + 1 by omega]; rfl)
        obtain ⟨S, hS⟩ : ∃ S, sum (zs.take (i + 1)) = S := ⟨_, rfl⟩
        rw [hS] at HS ⊢
        clear hS
        by_cases hxs : x < (S : Int)
        · go_wp2
          go_ret
          exact ⟨by rw [HR.out, HGI.out.2, HS.out, if_pos hxs]; rfl, HG1.out⟩
        · go_wp2
          go_roundg (n - (i + 1))
          case measure => rw [HGI.out.1]; omega
          case rel => exact ⟨i + 1, rfl, rfl, by omega, by rw [HGI.out.2, HS.out, if_neg (by omega)], ⟨hd0, hd1⟩, HG1.out⟩
      · have hie : i = n := by omega
        subst hie
        have hinB : decide (i < i) = false := by simp
        go_wp2
        go_ret
        exact ⟨by rw [HR.out, HGI.out.2, Nat.sub_self]; rfl, HW.out⟩
end Go.Proofs.Ytbddpjofhddilaa
/- The number of digits; the rank of a tuple; two equal tuples. -/
namespace Go.Proofs.Ytbddpjofhddilaa
open Go.RowKit

/-- The number with these digits. -/
def num (base : Nat) (ds : List Nat) : Nat := ds.foldl (fun v d => v * base + d) 0
theorem num_snoc (base : Nat) (ds : List Nat) (d : Nat) : num base (ds ++ [d]) = num base ds * base + d := by simp [num]

set_option maxHeartbeats 1000000 in
theorem number_calls (base : Nat) (ds : List Nat) (a : Option Addr) (c : Nat) (w : World) (h : Nums w a c ds) (hb : base ≤ 1000) (hd : ∀ d ∈ ds, d ≤ 1000000) (hn : ∀ m, num base (ds.take m) ≤ 1000000) (hl : ds.length ≤ 100) :
    Calls Try.prog 89 #[.int .i64 (base : Int), .slice a ds.length c] w fun e w' => e = .returned (.int .i64 (num base ds : Nat)) ∧ w' = w := by
  obtain ⟨n, hln⟩ : ∃ n, ds.length = n := ⟨_, rfl⟩
  rw [hln] at hl ⊢
  have HD := Lib.hid (And.intro hd (And.intro hn (And.intro hln h))); clear hd hn hln h
  go_enter Try.func89, Try.ntmps89
  go_wp2
  go_loopg [5, 7, 10] n (fun g s5 s7 s10 wr => ∃ i : Nat, s5 = .int .i64 (num base (ds.take i) : Nat) ∧ s10 = .int .i64 (i : Int) ∧ g = n - i ∧ i ≤ n ∧ wr = w)
  case atStart => exact ⟨0, rfl, rfl, rfl, Nat.zero_le _, rfl⟩
  case round =>
    obtain ⟨i, rfl, rfl, hgi, hi, rfl⟩ := hrel
    have HGI := Lib.hid hgi; clear hgi
    by_cases hin : i < n
    · have hinB : decide (i < n) = true := by simp; omega
      have hinI : (i : Int) < (n : Int) := by omega
      have hln := HD.out.2.2.1
      obtain ⟨z, hz⟩ : ∃ z, ds[i]? = some z := ⟨_, List.getElem?_eq_getElem (by omega)⟩
      have hz5 := HD.out.1 z (List.mem_of_getElem? hz)
      obtain ⟨b, o, rfl, hcell⟩ : ∃ b o, a = some ⟨b, o, none⟩ ∧ wr.cell? ⟨b, o + i, none⟩ = some (.int .i64 (z : Int)) := by
        obtain ⟨_, ⟨h, _⟩ | ⟨b, o, ha, _, hc⟩⟩ := HD.out.2.2.2
        · rw [h] at hz; simp at hz
        · exact ⟨b, o, ha, hc i z hz⟩
      have hs := HD.out.2.1 i
      have hsn : num base (ds.take (i + 1)) = num base (ds.take i) * base + z := by
        rw [List.take_add_one, hz, Option.toList_some, num_snoc]
      obtain ⟨S, hS⟩ : ∃ S, num base (ds.take i) = S := ⟨_, rfl⟩
      rw [hS] at hs hsn ⊢
      have hmul : (S : Int) * (base : Int) ≤ 1000000000 := by
        have h1 : S * base ≤ 1000000 * 1000 := Nat.mul_le_mul hs hb
        have h2 : ((S * base : Nat) : Int) ≤ 1000000000 := by omega
        rwa [Int.natCast_mul] at h2
      have hmul0 : 0 ≤ (S : Int) * (base : Int) := Int.mul_nonneg (by omega) (by omega)
      have HSN := Lib.hid hsn; clear hsn hS hz hln
      go_wp2
      go_roundg (n - (i + 1))
      case measure => rw [HGI.out]; omega
      case rel => exact ⟨i + 1, by rw [HSN.out]; simp, rfl, rfl, by omega, rfl⟩
    · have hie : i = n := by omega
      subst hie
      have hinB : decide (i < i) = false := by simp
      go_wp2
      go_ret
      exact ⟨by rw [← HD.out.2.2.1, List.take_length]; rfl, rfl⟩
end Go.Proofs.Ytbddpjofhddilaa
/- The rank of a tuple; two equal tuples; two equal relations. -/
namespace Go.Proofs.Ytbddpjofhddilaa
open Go.RowKit

theorem num_lt (base : Nat) : ∀ (k : Nat) (ds : List Nat), ds.length = k → (∀ d ∈ ds, d < base) → num base ds < base ^ k
  | 0, ds, hk, _ => by
    have : ds = [] := List.eq_nil_of_length_eq_zero hk
    subst this; simp [num]
  | k + 1, ds, hk, hd => by
    have hne : ds ≠ [] := by intro e; subst e; simp at hk
    rw [← List.dropLast_concat_getLast hne, num_snoc, Nat.pow_succ]
    have h1 := num_lt base k ds.dropLast (by simp; omega) (fun d h => hd d (List.dropLast_subset ds h))
    have h2 := hd _ (List.getLast_mem hne)
    have h3 : (num base ds.dropLast + 1) * base ≤ base ^ k * base := Nat.mul_le_mul_right _ h1
    rw [Nat.add_mul] at h3
    omega
theorem num_le {base : Nat} {ds : List Nat} (hb : base ≤ 20) (hl : ds.length ≤ 3) (hd : ∀ d ∈ ds, d < base) : num base ds ≤ 8000 := by
  have h1 := num_lt base _ ds rfl hd
  have h2 : base ^ ds.length ≤ 20 ^ ds.length := Nat.pow_le_pow_left hb _
  have h3 : 20 ^ ds.length ≤ 20 ^ 3 := Nat.pow_le_pow_right (by omega) hl
  omega

def inside (N : Nat) (x : Int) : Bool := decide (0 ≤ x) && decide (x < (N : Int))
/-- The rank of a tuple over N atoms. -/
def rankI (N : Nat) (ts : List Int) : Int := if 3 < ts.length then -1 else if ts.all (inside N) then (num N (ts.map Int.toNat) : Nat) else -1

set_option maxHeartbeats 1000000 in
theorem rank_calls (zs : List Nat) (a : Option Addr) (c : Nat) (st : Int) (ts : List Int) (ta : Option Addr) (tc : Nat) (w : World) (h : Nums w a c zs) (hz : ∀ z ∈ zs, z ≤ 5) (hl : zs.length ≤ 4) (ht : Ints w ta tc ts) (htl : ts.length ≤ 1000) :
    Calls Try.prog 38 #[.agg #[.slice a zs.length c, .int .i64 st], .slice ta ts.length tc] w fun e w' => e = .returned (.int .i64 (rankI (sum zs) ts)) ∧ w.grownBy w' none := by
  obtain ⟨n, hn⟩ : ∃ n, ts.length = n := ⟨_, rfl⟩
  rw [hn] at htl ⊢
  have hsl := sum_le hz
  obtain ⟨N, hN⟩ : ∃ N, sum zs = N := ⟨_, rfl⟩
  rw [hN] at hsl ⊢
  have hN20 : N ≤ 20 := by omega
  have HH := Lib.hid (And.intro h (And.intro hz hl)); clear h hz
  have HT := Lib.hid (And.intro hn ht); clear hn ht
  have hg := World.grownBy_alloc w (.cells #[.slice a zs.length c, .int .i64 st] 30) none
  have HG := Lib.hid hg; clear hg
  clear hsl hl
  go_enter Try.func38, Try.ntmps38
  go_wp2_with fail
  refine (atoms_calls zs a c st _ (HH.out.1.grown HG.out) HH.out.2.1 HH.out.2.2).mono ?_
  rintro e w1 ⟨rfl, g1⟩
  rw [hN]
  have HG1 := Lib.hid (HG.out.trans g1); clear g1 HG hN
  by_cases h3 : 3 < n
  · have h3B : decide (3 < n) = true := by simp; omega
    have h3I : decide ((3 : Int) < (n : Int)) = true := by simp; omega
    go_wp2
    go_ret
    exact ⟨by unfold rankI; rw [if_pos (by rw [HT.out.1]; exact h3)]; rfl, HG1.out⟩
  · have h3B : decide (3 < n) = false := by simp; omega
    have h3I : decide ((3 : Int) < (n : Int)) = false := by simp; omega
    go_wp2
    go_loopg [7, 15] n (fun g s7 s15 wr => ∃ i : Nat, s15 = .int .i64 (i : Int) ∧ g = n - i ∧ i ≤ n ∧ (∀ j x, j < i → ts[j]? = some x → inside N x = true) ∧ wr = w1)
    case atStart => exact ⟨0, rfl, rfl, Nat.zero_le _, fun j x hj _ => absurd hj (Nat.not_lt_zero _), rfl⟩
    case round =>
      obtain ⟨i, rfl, hgi, hi, hok, rfl⟩ := hrel
      have HGI := Lib.hid (And.intro hgi hok); clear hgi hok
      by_cases hin : i < n
      · have hinB : decide (i < n) = true := by simp; omega
        have hinI : (i : Int) < (n : Int) := by omega
        have hln := HT.out.1
        obtain ⟨x, hx⟩ : ∃ x, ts[i]? = some x := ⟨_, List.getElem?_eq_getElem (by omega)⟩
        obtain ⟨b, o, rfl, hcell⟩ : ∃ b o, ta = some ⟨b, o, none⟩ ∧ wr.cell? ⟨b, o + i, none⟩ = some (.int .i64 x) := by
          obtain ⟨_, ⟨h, _⟩ | ⟨b, o, ha, _, hc⟩⟩ := HT.out.2.grown HG1.out
          · rw [h] at hx; simp at hx
          · exact ⟨b, o, ha, hc i x hx⟩
        have HX := Lib.hid hx; clear hx hln
        by_cases hi1 : x < 0
        · have d1 : decide (x < 0) = true := by simpa using hi1
          have HR : Hid (rankI N ts = -1) := Lib.hid (by
            unfold rankI
            rw [if_neg (by rw [HT.out.1]; exact h3), if_neg]
            intro hall
            have := List.all_eq_true.1 hall x (List.mem_of_getElem? HX.out)
            unfold inside at this; simp at this; omega)
          go_wp2
          go_ret
          exact ⟨by rw [HR.out]; rfl, HG1.out⟩
        · have d1 : decide (x < 0) = false := by simpa using hi1
          by_cases hi2 : (N : Int) ≤ x
          · have d2 : decide ((N : Int) ≤ x) = true := by simpa using hi2
            have HR : Hid (rankI N ts = -1) := Lib.hid (by
              unfold rankI
              rw [if_neg (by rw [HT.out.1]; exact h3), if_neg]
              intro hall
              have := List.all_eq_true.1 hall x (List.mem_of_getElem? HX.out)
              unfold inside at this; simp at this; omega)
            go_wp2
            go_ret
            exact ⟨by rw [HR.out]; rfl, HG1.out⟩
          · have d2 : decide ((N : Int) ≤ x) = false := by simpa using hi2
            have HI : Hid (inside N x = true) := Lib.hid (by unfold inside; simp; omega)
            go_wp2
            go_roundg (n - (i + 1))
            case measure => rw [HGI.out.1]; omega
            case rel => exact ⟨i + 1, rfl, rfl, by omega, fun j y hj hy => by
              by_cases hji : j < i
              · exact HGI.out.2 j y hji hy
              · have : j = i := by omega
                subst this
                rw [HX.out] at hy; cases hy; exact HI.out, rfl⟩
      · have hie : i = n := by omega
        subst hie
        have hinB : decide (i < i) = false := by simp
        have hall : ts.all (inside N) = true := by
          rw [List.all_eq_true]
          intro x hx
          obtain ⟨j, hj⟩ := List.getElem?_of_mem hx
          exact HGI.out.2 j x (by have := (List.getElem?_eq_some_iff.1 hj).1; rw [HT.out.1] at this; exact this) hj
        have hpos : ∀ x ∈ ts, 0 ≤ x ∧ x < (N : Int) := fun x hx => by
          have := List.all_eq_true.1 hall x hx
          unfold inside at this; simpa using this
        have hnl : (ts.map Int.toNat).length = i := by rw [List.length_map, HT.out.1]
        have hdl : ∀ d ∈ ts.map Int.toNat, d < N := fun d hd => by
          obtain ⟨x, hx, rfl⟩ := List.mem_map.1 hd
          have := hpos x hx; omega
        have HR : Hid (rankI N ts = (num N (ts.map Int.toNat) : Nat)) := Lib.hid (by
          unfold rankI
          rw [if_neg (by rw [HT.out.1]; exact h3), if_pos hall])
        have HP := Lib.hid (And.intro hpos (And.intro hnl hdl)); clear hall hpos hnl hdl
        go_wp2_with fail
        have hc := number_calls N (ts.map Int.toNat) ta tc wr ((HT.out.2.grown HG1.out).nums (fun x hx => (HP.out.1 x hx).1)) (by omega) (fun d hd => by have := HP.out.2.2 d hd; omega)
          (fun m => by have := num_le (ds := (ts.map Int.toNat).take m) hN20 (by rw [List.length_take, HP.out.2.1]; omega) (fun d hd => HP.out.2.2 d (List.mem_of_mem_take hd)); omega) (by rw [HP.out.2.1]; omega)
        rw [HP.out.2.1] at hc
        refine hc.mono ?_
        clear hc
        rintro e w2 ⟨rfl, rfl⟩
        go_wp2
        go_ret
        exact ⟨by rw [HR.out]; rfl, HG1.out⟩

end Go.Proofs.Ytbddpjofhddilaa
/- Which scopes are valid. -/
namespace Go.Proofs.Ytbddpjofhddilaa
open Go.RowKit

/-- Whether a scope is valid, by the sizes of its sorts, its steps and the number of sorts of the specification. -/
def sized (zs : List Int) : Bool := zs.all fun z => decide (1 ≤ z) && decide (z ≤ 5)
def validI (k : Nat) (zs : List Int) (st : Int) : Bool :=
  decide (k ≤ 4) && decide (zs.length = k) && decide (1 ≤ st) && decide (st ≤ 4) && sized zs && decide (sum (zs.map Int.toNat) ≤ 12)

theorem sized_at {zs : List Int} (h : sized zs = true) {z : Int} (hz : z ∈ zs) : 1 ≤ z ∧ z ≤ 5 := by
  have := List.all_eq_true.1 h z hz
  simpa using this

set_option maxHeartbeats 2000000 in
theorem valid_calls (sa : Option Addr) (k sc : Nat) (a2 a3 a4 : Option Addr) (n2 c2 n3 c3 n4 c4 : Nat) (zs : List Int) (a : Option Addr) (c : Nat) (st : Int) (w : World) (h : Ints w a c zs) (hk : k ≤ 1000000) (hl : zs.length ≤ 1000000) :
    Calls Try.prog 63 #[.agg #[.slice sa k sc, .slice a2 n2 c2, .slice a3 n3 c3, .slice a4 n4 c4], .agg #[.slice a zs.length c, .int .i64 st]] w fun e w' => e = .returned (.bool (validI k zs st)) ∧ w.grownBy w' none := by
  obtain ⟨n, hn⟩ : ∃ n, zs.length = n := ⟨_, rfl⟩
  rw [hn] at hl ⊢
  have HN := Lib.hid (And.intro hn h); clear hn h
  have hg1 := World.grownBy_alloc w (.cells #[.slice sa k sc, .slice a2 n2 c2, .slice a3 n3 c3, .slice a4 n4 c4] 27) none
  have hg2 := World.grownBy_alloc (w.alloc (.cells #[.slice sa k sc, .slice a2 n2 c2, .slice a3 n3 c3, .slice a4 n4 c4] 27)) (.cells #[.slice a n c, .int .i64 st] 30) none
  have HG := Lib.hid (hg1.trans hg2); clear hg1 hg2
  by_cases hbad : 4 < k ∨ n ≠ k ∨ st < 1 ∨ 4 < st
  · have HR : Hid (validI k zs st = false) := Lib.hid (by
      unfold validI
      rw [HN.out.1]
      rcases hbad with h | h | h | h
      · rw [show decide (k ≤ 4) = false by simp; omega]; simp
      · rw [show decide (n = k) = false by simpa using h]; simp
      · rw [show decide (1 ≤ st) = false by simp; omega]; simp
      · rw [show decide (st ≤ 4) = false by simp; omega]; simp)
    have h4 : (decide (4 < k) = true ∧ decide ((4 : Int) < (k : Int)) = true) ∨ (decide (4 < k) = false ∧ decide ((4 : Int) < (k : Int)) = false ∧ ((n : Int) != (k : Int)) = true) ∨ (decide (4 < k) = false ∧ decide ((4 : Int) < (k : Int)) = false ∧ ((n : Int) != (k : Int)) = false ∧ decide (st < 1) = true) ∨
        (decide (4 < k) = false ∧ decide ((4 : Int) < (k : Int)) = false ∧ ((n : Int) != (k : Int)) = false ∧ decide (st < 1) = false ∧ decide (4 < st) = true) := by
      by_cases b1 : 4 < k
      · exact .inl ⟨by simpa using b1, by simp; omega⟩
      · have e1 : decide (4 < k) = false := by simpa using b1
        have e1' : decide ((4 : Int) < (k : Int)) = false := by simp; omega
        by_cases b2 : n = k
        · have e2 : ((n : Int) != (k : Int)) = false := by simp; omega
          by_cases b3 : st < 1
          · exact .inr (.inr (.inl ⟨e1, e1', e2, by simpa using b3⟩))
          · exact .inr (.inr (.inr ⟨e1, e1', e2, by simpa using b3, by simp; omega⟩))
        · exact .inr (.inl ⟨e1, e1', by simp; omega⟩)
    clear hbad
    rcases h4 with ⟨e1, e2⟩ | ⟨e1, e2, e3⟩ | ⟨e1, e2, e3, e4⟩ | ⟨e1, e2, e3, e4, e5⟩
    all_goals
      go_enter Try.func63, Try.ntmps63
      go_wp2_with fail
      go_ret
      exact ⟨by rw [HR.out]; rfl, HG.out⟩
  · have hk4 : k ≤ 4 := by omega
    have hnk : n = k := by omega
    subst hnk
    have e1 : decide (4 < n) = false := by simp; omega
    have e2 : decide ((4 : Int) < (n : Int)) = false := by simp; omega
    have e3 : ((n : Int) != (n : Int)) = false := by simp
    have e4 : decide (st < 1) = false := by simp; omega
    have e5 : decide (4 < st) = false := by simp; omega
    have HST : Hid (1 ≤ st ∧ st ≤ 4) := Lib.hid (by omega)
    clear hbad
    go_enter Try.func63, Try.ntmps63
    go_wp2_with fail
    go_loopg [6, 33] n (fun g s6 s33 wr => ∃ i : Nat, s33 = .int .i64 (i : Int) ∧ g = n - i ∧ i ≤ n ∧ (∀ j z, j < i → zs[j]? = some z → 1 ≤ z ∧ z ≤ 5) ∧ wr = (w.alloc (.cells #[.slice sa n sc, .slice a2 n2 c2, .slice a3 n3 c3, .slice a4 n4 c4] 27)).alloc (.cells #[.slice a n c, .int .i64 st] 30))
    case atStart => exact ⟨0, rfl, rfl, Nat.zero_le _, fun j z hj _ => absurd hj (Nat.not_lt_zero _), rfl⟩
    case round =>
      obtain ⟨i, rfl, hgi, hi, hok, rfl⟩ := hrel
      have HGI := Lib.hid (And.intro hgi hok); clear hgi hok
      by_cases hin : i < n
      · have hinB : decide (i < n) = true := by simp; omega
        have hinI : (i : Int) < (n : Int) := by omega
        have hln := HN.out.1
        obtain ⟨x, hx⟩ : ∃ x, zs[i]? = some x := ⟨_, List.getElem?_eq_getElem (by omega)⟩
        obtain ⟨b, o, rfl, hcell⟩ : ∃ b o, a = some ⟨b, o, none⟩ ∧ ((w.alloc (.cells #[.slice sa n sc, .slice a2 n2 c2, .slice a3 n3 c3, .slice a4 n4 c4] 27)).alloc (.cells #[.slice a n c, .int .i64 st] 30)).cell? ⟨b, o + i, none⟩ = some (.int .i64 x) := by
          obtain ⟨_, ⟨h, _⟩ | ⟨b, o, ha, _, hc⟩⟩ := HN.out.2.grown HG.out
          · rw [h] at hx; simp at hx
          · exact ⟨b, o, ha, hc i x hx⟩
        have HX := Lib.hid hx; clear hx hln
        by_cases hx1 : 1 ≤ x ∧ x ≤ 5
        · have d1 : decide (x < 1) = false := by simp; omega
          have d2 : decide (5 < x) = false := by simp; omega
          have HX5 := Lib.hid hx1; clear hx1
          go_wp2
          go_roundg (n - (i + 1))
          case measure => rw [HGI.out.1]; omega
          case rel => exact ⟨i + 1, rfl, rfl, by omega, fun j y hj hy => by
              by_cases hji : j < i
              · exact HGI.out.2 j y hji hy
              · have : j = i := by omega
                subst this
                rw [HX.out] at hy; cases hy; exact HX5.out, rfl⟩
        · have HR : Hid (validI n zs st = false) := Lib.hid (by
            have hs : sized zs = false := by
              cases hs : sized zs with
              | false => rfl
              | true => exact absurd (sized_at hs (List.mem_of_getElem? HX.out)) hx1
            unfold validI
            rw [hs]; simp)
          have hd : decide (x < 1) = true ∨ (decide (x < 1) = false ∧ decide (5 < x) = true) := by
            by_cases h : x < 1
            · exact .inl (by simpa using h)
            · exact .inr ⟨by simpa using h, by simp; omega⟩
          clear hx1
          rcases hd with d1 | ⟨d1, d2⟩
          all_goals
            go_wp2
            go_ret
            exact ⟨by rw [HR.out]; rfl, HG.out⟩
      · have hie : i = n := by omega
        subst hie
        have hinB : decide (i < i) = false := by simp
        have hall : ∀ z ∈ zs, 1 ≤ z ∧ z ≤ 5 := fun z hz => by
          obtain ⟨j, hj⟩ := List.getElem?_of_mem hz
          exact HGI.out.2 j z (by have := (List.getElem?_eq_some_iff.1 hj).1; rw [HN.out.1] at this; exact this) hj
        have HR : Hid (validI i zs st = decide (sum (zs.map Int.toNat) ≤ 12)) := Lib.hid (by
          have hs : sized zs = true := List.all_eq_true.2 (fun z hz => by have := hall z hz; simp; omega)
          unfold validI
          rw [hs, HN.out.1]
          have := HST.out
          simp [hk4, this.1, this.2])
        have HA := Lib.hid hall; clear hall
        go_wp2_with fail
        have hc := atoms_calls (zs.map Int.toNat) a c st _ ((HN.out.2.nums (fun z hz => by have := HA.out z hz; omega)).grown HG.out) (fun d hd => by
          obtain ⟨z, hz, rfl⟩ := List.mem_map.1 hd
          have := HA.out z hz; omega) (by rw [List.length_map, HN.out.1]; omega)
        rw [List.length_map, HN.out.1] at hc
        refine hc.mono ?_
        clear hc
        rintro e w1 ⟨rfl, g1⟩
        have HG1 := Lib.hid (HG.out.trans g1); clear g1
        obtain ⟨S, hS⟩ : ∃ S, sum (zs.map Int.toNat) = S := ⟨_, rfl⟩
        rw [hS] at HR ⊢
        clear hS
        by_cases hS12 : S ≤ 12
        · have dS : decide (S ≤ 12) = true := by simpa using hS12
          have dSI : decide ((S : Int) ≤ 12) = true := by simp; omega
          have HD := Lib.hid dS
          go_wp2
          go_ret
          exact ⟨by rw [HR.out, HD.out]; rfl, HG1.out⟩
        · have dS : decide (S ≤ 12) = false := by simpa using hS12
          have dSI : decide ((S : Int) ≤ 12) = false := by simp; omega
          have HD := Lib.hid dS
          go_wp2
          go_ret
          exact ⟨by rw [HR.out, HD.out]; rfl, HG1.out⟩
end Go.Proofs.Ytbddpjofhddilaa
/- The tuple with a rank. -/
namespace Go.Proofs.Ytbddpjofhddilaa
open Go.RowKit

/-- The last k digits of a number, and what is left. -/
def tupTo (N : Int) : Nat → Int → List Int
  | 0, _ => []
  | k + 1, r => tupTo N k (r.tdiv N) ++ [r.tmod N]
def leftTo (N : Int) : Nat → Int → Int
  | 0, r => r
  | k + 1, r => leftTo N k (r.tdiv N)
theorem tupTo_length (N : Int) : ∀ k r, (tupTo N k r).length = k
  | 0, _ => rfl
  | k + 1, r => by simp [tupTo, tupTo_length N k]
def tupI (N : Nat) (k r : Int) : List Int :=
  if k < 0 ∨ 3 < k ∨ (0 < k ∧ N < 1) then [] else if r < 0 ∨ 0 < leftTo N k.toNat r then [] else tupTo N k.toNat r

theorem make_run : ∀ m : Nat, m ≤ 3 → ∀ w : World, (Instr.makeSlice 28 (.int .i64 (m : Int)) (.int .i64 (m : Int))).run Try.prog w = .ok (.slice (some ⟨w.heap.size, 0, none⟩) m m) (w.alloc (.cells (Array.replicate m (.int .i64 0)) 3))
  | 0, _, _ => by kernel_rfl
  | 1, _, _ => by kernel_rfl
  | 2, _, _ => by kernel_rfl
  | 3, _, _ => by kernel_rfl
  | n + 4, h, _ => absurd h (by omega)

/-- A row of m numbers in a block of its own that may be written. -/
structure Own (w1 w : World) (g m : Nat) : Prop where
  size : w1.heap.size ≤ g ∧ g < w.heap.size
  there : ∀ j, j < m → (w.cell? ⟨g, j, none⟩).isSome = true ∧ w.frozen? ⟨g, j, none⟩ = false
  grown : w1.grownBy w none
theorem Own.make (w : World) (m : Nat) : Own w (w.alloc (.cells (Array.replicate m (.int .i64 0)) 3)) w.heap.size m := by
  refine ⟨⟨Nat.le_refl _, by simp⟩, fun j hj => ?_, World.grownBy_alloc _ _ _⟩
  have e := World.cell?_alloc_new w (Array.replicate m (.int .i64 0)) 3 j
  have f := World.frozen?_alloc_new w (Array.replicate m (.int .i64 0)) 3 j
  exact ⟨by rw [e]; simp [hj], f⟩

theorem Own.set {w1 w : World} {g m : Nat} (h : Own w1 w g m) (p : Nat) (v : Value) : Own w1 (w.setCell ⟨g, p, none⟩ v) g m := by
  refine ⟨⟨h.size.1, by have := h.size.2; simpa [World.setCell] using this⟩, fun j hj => ?_, ?_⟩
  · obtain ⟨h1, h2⟩ := h.there j hj
    refine ⟨?_, by rw [World.frozen?_setCell]; exact h2⟩
    by_cases e : p = j
    · subst e; rw [World.cell?_setCell_same' _ _ _ h1]; rfl
    · rw [World.cell?_setCell_other _ _ _ _ (by intro e'; injection e' with _ e2; exact e e2)]; exact h1
  · have hg := h.grown
    refine ⟨hg.os, hg.tape, hg.output, by have := hg.size; simpa [World.setCell] using this, fun k hk h0 => ?_⟩
    rw [Below.heap_setCell _ _ _ _ (fun e => by have := h.size.1; simp at e; omega)]
    exact hg.block k hk h0
theorem tdiv_in {L : Int} {N : Nat} (hN : 1 ≤ N) (h : -9223372036854775808 ≤ L ∧ L ≤ 9223372036854775807) : -9223372036854775808 ≤ L.tdiv N ∧ L.tdiv N ≤ 9223372036854775807 := by
  have h1 := Int.natAbs_tdiv_le_natAbs L N
  by_cases h0 : 0 ≤ L
  · have h2 := Int.tdiv_nonneg h0 (b := (N : Int)) (by omega)
    omega
  · have h2 := Int.tdiv_nonneg (a := -L) (b := (N : Int)) (by omega) (by omega)
    rw [Int.neg_tdiv] at h2
    omega

end Go.Proofs.Ytbddpjofhddilaa
/- The scope that is made of raw data. -/
namespace Go.Proofs.Ytbddpjofhddilaa
open Go.RowKit

def sizes : List Nat → Nat → Nat → List Nat
  | [], _, _ => []
  | _ :: _, 0, _ => []
  | z :: zs, n + 1, left => if left = 0 then [] else min (z % 5 + 1) left :: sizes zs n (left - min (z % 5 + 1) left)
def scopeL (raw : List Nat) : List Nat := sizes raw 4 12
theorem sizes_stop {zs : List Nat} {n left : Nat} (h : zs = [] ∨ n = 0 ∨ left = 0) : sizes zs n left = [] := by
  match zs, n, h with
  | [], _, _ => rfl
  | _ :: _, 0, _ => rfl
  | z :: zs, n + 1, h =>
    have : left = 0 := by rcases h with h | h | h <;> simp_all
    simp [sizes, this]
theorem sizes_bound : ∀ (zs : List Nat) (n left : Nat), (sizes zs n left).length ≤ n ∧ sum (sizes zs n left) ≤ left ∧ ∀ z ∈ sizes zs n left, 1 ≤ z ∧ z ≤ 5
  | [], n, left => by simp [sizes, sum]
  | _ :: _, 0, left => by simp [sizes, sum]
  | z :: zs, n + 1, left => by
    simp only [sizes]
    split
    · simp [sum]
    · have ih := sizes_bound zs n (left - min (z % 5 + 1) left)
      refine ⟨by simp; exact ih.1, ?_, fun y hy => ?_⟩
      · have := ih.2.1; simp only [sum]; omega
      · rcases List.mem_cons.1 hy with rfl | h
        · omega
        · exact ih.2.2 y h

theorem info3 : (Try.prog.info? 3).map (fun i => (i.zero, i.size, i.bytes)) = some (some (.int .i64 0), 1, 8) := by kernel_rfl

abbrev numCells (l : List Nat) : List Value := l.map fun (z : Nat) => Value.int .i64 (z : Int)
/-- A row of the call's own, as cells. -/
theorem own_nums {w : World} {B : Nat} {v : Value} {l : List Nat} (h : w.ownsRow B 3 1 v l.length (numCells l)) : ∃ a c, v = .slice a l.length c ∧ Nums w a c l := by
  have hc := @World.ownsRow.cells w B 3 1 v l.length _ h
  rcases h.2 with ⟨hv, h0⟩ | ⟨g, cap, cur, rfl, hb, hg, hnc, hcm, _⟩
  · have hl : l = [] := List.eq_nil_of_length_eq_zero h0
    subst hl
    exact ⟨none, 0, hv, Nat.le_refl _, .inl ⟨rfl, rfl, rfl⟩⟩
  · refine ⟨_, _, rfl, hnc, .inr ⟨g, 0, rfl, (Array.getElem?_eq_some_iff.1 hg).1, fun j z hj => ?_⟩⟩
    have := hc (g := g) rfl j (.int .i64 (z : Int)) (by rw [numCells, List.getElem?_map, hj]; rfl)
    have hadd : (⟨g, 0, none⟩ : Addr).add j = ⟨g, j, none⟩ := by unfold Addr.add; split <;> simp_all
    rw [hadd] at this
    rw [Nat.zero_add]; exact this

/-- Raw bytes that are read. -/
def Bytes (w : World) (a : Option Addr) (_c : Nat) (zs : List Nat) : Prop :=
  (∀ z ∈ zs, z < 256) ∧ ∀ j z : Nat, zs[j]? = some z → ∃ b o, a = some ⟨b, o, none⟩ ∧ w.cell? ⟨b, o + j, none⟩ = some (.int .u8 (z : Int))
theorem Bytes.grown {w w' : World} {a : Option Addr} {c : Nat} {zs : List Nat} (h : Bytes w a c zs) (hg : w.grownBy w' none) : Bytes w' a c zs :=
  ⟨h.1, fun j z hj => by obtain ⟨b, o, ha, hc⟩ := h.2 j z hj; exact ⟨b, o, ha, hg.cell hc (by simp)⟩⟩

theorem grown_set (w : World) (b o : Nat) (v : Value) : w.grownBy (w.setCell ⟨b, o, none⟩ v) (some b) :=
  ⟨rfl, rfl, rfl, by simp [World.setCell], fun k _ hk => Below.heap_setCell _ _ _ _ (fun e => hk (by rw [e]))⟩
theorem own_ne {w : World} {B b : Nat} {e : TypeId} {size n : Nat} {v : Value} {xs : List Value} (h : w.ownsRow B e size v n xs) (hb : b < B) : v.ownBlock = none ∨ v.ownBlock ≠ some b := by
  cases hv : v.ownBlock with
  | none => exact .inl rfl
  | some k => have := (h.lt k hv).1; exact .inr (by simp; omega)
theorem grown_own {w w1 : World} {r : Option Nat} (h : w.grownBy w1 none) {w2 : World} (h2 : w1.grownBy w2 r) (hr : ∀ k, r = some k → w.heap.size ≤ k) : w.grownBy w2 none :=
  ⟨h2.os.trans h.os, h2.tape.trans h.tape, h2.output.trans h.output, Nat.le_trans h.size h2.size, fun k hk _ => by
    rw [h2.block k (by have := h.size; omega) (fun e => by have := hr k e.symm; omega)]; exact h.block k hk (by simp)⟩

theorem own_shape {w : World} {B n size : Nat} {e : TypeId} {v : Value} {xs : List Value} (h : w.ownsRow B e size v n xs) : ∃ a c, v = .slice a n c := by
  rcases h.2 with ⟨hv, h0⟩ | ⟨g, cap, cur, rfl, _⟩
  · exact ⟨none, 0, by rw [hv, h0]⟩
  · exact ⟨_, _, rfl⟩
/-- The scope that is being made, in block b + 1; the result's cell is block b. -/
structure ScB (w wr : World) (b T : Nat) (l : List Nat) (v : Value) : Prop where
  c0 : wr.cell? ⟨b + 1, 0, none⟩ = some v
  c1 : wr.cell? ⟨b + 1, 1, none⟩ = some (.int .i64 (T : Int))
  fr : wr.frozen? ⟨b + 1, 0, none⟩ = false
  own : wr.ownsRow (b + 2) 3 1 v l.length (numCells l)
  grown : w.grownBy wr none
  size : w.heap.size = b ∧ b + 2 ≤ wr.heap.size
  r0 : (wr.cell? ⟨b, 0, none⟩).isSome = true ∧ wr.frozen? ⟨b, 0, none⟩ = false
  r1 : (wr.cell? ⟨b, 1, none⟩).isSome = true ∧ wr.frozen? ⟨b, 1, none⟩ = false
theorem ScB.start (w : World) (b T : Nat) (hb : w.heap.size = b) : ScB w ((w.alloc (.cells #[.slice none 0 0, .int .i64 0] 30)).alloc (.cells #[.slice none 0 0, .int .i64 (T : Int)] 30)) b T [] (.slice none 0 0) := by
  subst hb
  have g1 := World.grownBy_alloc w (.cells #[.slice none 0 0, .int .i64 0] 30) none
  have g2 := World.grownBy_alloc (w.alloc (.cells #[.slice none 0 0, .int .i64 0] 30)) (.cells #[.slice none 0 0, .int .i64 (T : Int)] 30) none
  exact ⟨by go_simp, by go_simp, by go_simp, World.ownsRow_nil _ _ _ _, g1.trans g2, ⟨rfl, by simp⟩, ⟨by go_simp, by go_simp⟩, ⟨by go_simp, by go_simp⟩⟩
theorem ScB.at_ {w wr w3 : World} {b T : Nat} {l : List Nat} {v : Value} {o : Obj} (h : ScB w wr b T l v) (hg : (wr.alloc o).grownBy w3 v.ownBlock) :
    w3.cell? ⟨b + 1, 0, none⟩ = some v ∧ w3.frozen? ⟨b + 1, 0, none⟩ = false := by
  have hne : some (b + 1) ≠ v.ownBlock := fun e => by
    rcases own_ne h.own (Nat.lt_succ_self (b + 1)) with h1 | h1
    · rw [h1] at e; cases e
    · exact h1 e.symm
  have ha := World.grownBy_alloc wr o none
  have hlt := World.block_lt_of_cell? wr ⟨b + 1, 0, none⟩ h.c0
  have e1 := ha.block (b + 1) hlt (by simp)
  have e2 := hg.block (b + 1) (Nat.lt_of_lt_of_le hlt ha.size) hne
  exact ⟨hg.cell (ha.cell h.c0 (by simp)) hne, (World.frozen?_of_block (a := ⟨b + 1, 0, none⟩) (e2.trans e1)).trans h.fr⟩
theorem ScB.step {w wr w3 : World} {b T z : Nat} {l : List Nat} {v v' : Value} {o : Obj} (h : ScB w wr b T l v) (hown : w3.ownsRow (b + 2) 3 1 v' (l.length + 1) (numCells l ++ [.int .i64 (z : Int)]))
    (hg : (wr.alloc o).grownBy w3 v.ownBlock) : ScB w (w3.setCell ⟨b + 1, 0, none⟩ v') b T (l ++ [z]) v' := by
  have hne : ∀ k, k < b + 2 → some k ≠ v.ownBlock := fun k hk e => by
    rcases own_ne h.own hk with h1 | h1
    · rw [h1] at e; cases e
    · exact h1 e.symm
  have ha := World.grownBy_alloc wr o none
  have hcell : ∀ (k j : Nat) (u : Value), k < b + 2 → wr.cell? ⟨k, j, none⟩ = some u → w3.cell? ⟨k, j, none⟩ = some u := fun k j u hk hc =>
    hg.cell (ha.cell hc (by simp)) (fun e => hne k hk e)
  have hfr : ∀ (k j : Nat), k < b + 2 → (wr.cell? ⟨k, j, none⟩).isSome = true → w3.frozen? ⟨k, j, none⟩ = wr.frozen? ⟨k, j, none⟩ := fun k j hk hc => by
    have hlt := World.block_lt_of_cell? wr ⟨k, j, none⟩ (Option.isSome_iff_exists.1 hc).choose_spec
    have e1 := ha.block k hlt (by simp)
    have e2 := hg.block k (Nat.lt_of_lt_of_le hlt ha.size) (fun e => hne k hk e)
    exact World.frozen?_of_block (a := ⟨k, j, none⟩) (e2.trans e1)
  have hsz : w3.heap.size ≥ b + 2 := by have h1 := h.size.2; have h2 := ha.size; have h3 := hg.size; omega
  have hk : ∀ (k j : Nat), k ≤ b → (wr.cell? ⟨k, j, none⟩).isSome = true → ((w3.setCell ⟨b + 1, 0, none⟩ v').cell? ⟨k, j, none⟩).isSome = true := fun k j hkb hc => by
    obtain ⟨u, hu⟩ := Option.isSome_iff_exists.1 hc
    rw [World.cell?_setCell_other _ _ _ _ (by intro e; injection e with e1; omega), hcell k j u (by omega) hu]; rfl
  have hown' : w3.ownsRow (b + 2) 3 1 v' (l ++ [z]).length (numCells (l ++ [z])) := by
    rw [List.length_append, numCells, List.map_append]; exact hown
  refine ⟨World.cell?_setCell_same' _ _ _ (by rw [hcell (b + 1) 0 _ (by omega) h.c0]; rfl), ?_, ?_, ?_, ?_, ⟨h.size.1, by simpa [World.setCell] using hsz⟩, ⟨hk b 0 (Nat.le_refl _) h.r0.1, ?_⟩, ⟨hk b 1 (Nat.le_refl _) h.r1.1, ?_⟩⟩
  · rw [World.cell?_setCell_other _ _ _ _ (by intro e; injection e with _ e1; omega)]; exact hcell (b + 1) 1 _ (by omega) h.c1
  · rw [World.frozen?_setCell, hfr (b + 1) 0 (by omega) (by rw [h.c0]; rfl)]; exact h.fr
  · exact hown'.kept (grown_set _ _ _ _) (own_ne hown' (by omega))
  · refine grown_own (grown_own (h.grown.trans ha) hg (fun k hk => ?_)) (grown_set _ _ _ _) (fun k hk => ?_)
    · have := (h.own.lt k hk).1; have := h.size.1; omega
    · cases hk; have := h.size.1; omega
  · rw [World.frozen?_setCell, hfr b 0 (by omega) h.r0.1]; exact h.r0.2
  · rw [World.frozen?_setCell, hfr b 1 (by omega) h.r1.1]; exact h.r1.2

end Go.Proofs.Ytbddpjofhddilaa
/- The sorts of atoms, counted; the scope of a law as it lies in memory. -/
namespace Go.Proofs.Ytbddpjofhddilaa
open Go.RowKit

theorem sum_take_succ {l : List Nat} {i z : Nat} (h : l[i]? = some z) : sum (l.take (i + 1)) = sum (l.take i) + z := by
  rw [List.take_add_one, h, Option.toList_some, sum_snoc]
theorem sum_take_step (l : List Nat) (i : Nat) : sum (l.take i) ≤ sum (l.take (i + 1)) := by
  cases h : l[i]? with
  | none => rw [List.take_add_one, h]; simp
  | some z => rw [sum_take_succ h]; omega
theorem sum_take_mono (l : List Nat) {i j : Nat} (h : i ≤ j) : sum (l.take i) ≤ sum (l.take j) := by
  induction j with
  | zero => have : i = 0 := by omega
            rw [this]; exact Nat.le_refl _
  | succ j ih =>
    by_cases e : i = j + 1
    · rw [e]; exact Nat.le_refl _
    · exact Nat.le_trans (ih (by omega)) (sum_take_step l j)
theorem sortOf_spec (l : List Nat) (x : Int) : ∀ n i, n + i = l.length → ((sum (l.take i) : Nat) : Int) ≤ x →
    match sortOf l x n i with
    | some k => k < l.length ∧ ((sum (l.take k) : Nat) : Int) ≤ x ∧ x < ((sum (l.take (k + 1)) : Nat) : Int)
    | none => ((sum l : Nat) : Int) ≤ x
  | 0, i, hi, hx => by
    simp only [sortOf]
    rw [List.take_of_length_le (by omega)] at hx; exact hx
  | n + 1, i, hi, hx => by
    simp only [sortOf]
    by_cases h : x < ((sum (l.take (i + 1)) : Nat) : Int)
    · rw [if_pos h]; exact ⟨by omega, hx, h⟩
    · rw [if_neg h]; exact sortOf_spec l x n (i + 1) (by omega) (by omega)
theorem sortI_out {l : List Nat} {x : Int} (h : x < 0 ∨ ((sum l : Nat) : Int) ≤ x) : sortI l x = -1 := by
  unfold sortI
  by_cases h0 : x < 0
  · rw [if_pos h0]
  · rw [if_neg h0]
    have hs := sortOf_spec l x l.length 0 (by omega) (by simp [sum]; omega)
    cases hk : sortOf l x l.length 0 with
    | none => rfl
    | some k =>
      rw [hk] at hs
      have := sum_take_mono l (i := k + 1) (j := l.length) (by have := hs.1; omega)
      rw [List.take_length] at this
      simp at hs; omega
theorem sortI_in {l : List Nat} {x : Int} (h0 : 0 ≤ x) (h1 : x < ((sum l : Nat) : Int)) : ∃ k : Nat, sortI l x = (k : Int) ∧ k < l.length ∧ ((sum (l.take k) : Nat) : Int) ≤ x ∧ x < ((sum (l.take (k + 1)) : Nat) : Int) := by
  unfold sortI
  rw [if_neg (by omega)]
  have hs := sortOf_spec l x l.length 0 (by omega) (by simp [sum]; omega)
  cases hk : sortOf l x l.length 0 with
  | none => rw [hk] at hs; simp at hs; omega
  | some k => rw [hk] at hs; exact ⟨k, rfl, hs⟩
theorem sortI_is {l : List Nat} {x : Int} {i : Nat} (h0 : 0 ≤ x) (h1 : x < ((sum l : Nat) : Int)) : sortI l x = (i : Int) ↔ ((sum (l.take i) : Nat) : Int) ≤ x ∧ x < ((sum (l.take (i + 1)) : Nat) : Int) := by
  obtain ⟨k, hk, _, h3, h4⟩ := sortI_in h0 h1
  rw [hk]
  refine ⟨fun e => ?_, fun ⟨h5, h6⟩ => ?_⟩
  · have : k = i := by omega
    subst this; exact ⟨h3, h4⟩
  · by_cases e1 : k < i
    · have := sum_take_mono l (i := k + 1) (j := i) e1; omega
    · by_cases e2 : i < k
      · have := sum_take_mono l (i := i + 1) (j := k) e2; omega
      · have : k = i := by omega
        rw [this]
theorem sortI_mono {l : List Nat} {x y : Int} (h0 : 0 ≤ x) (hxy : x ≤ y) (h1 : y < ((sum l : Nat) : Int)) : sortI l x ≤ sortI l y := by
  obtain ⟨k, hk, _, h3, h4⟩ := sortI_in (l := l) (x := x) h0 (by omega)
  obtain ⟨m, hm, _, h5, h6⟩ := sortI_in (l := l) (x := y) (by omega) h1
  rw [hk, hm]
  by_cases e : m < k
  · have := sum_take_mono l (i := m + 1) (j := k) e; omega
  · omega

/-- The scope of a law in block g, W being the world in which it was made. -/
structure ScV (w0 w : World) (g : Nat) (a : Option Addr) (c T : Nat) (l : List Nat) : Prop where
  c0 : w.cell? ⟨g, 0, none⟩ = some (.slice a l.length c)
  c1 : w.cell? ⟨g, 1, none⟩ = some (.int .i64 (T : Int))
  nums : Nums w a c l
  grown : w0.grownBy w none
theorem ScV.go {w0 w w' : World} {g : Nat} {a : Option Addr} {c T : Nat} {l : List Nat} (h : ScV w0 w g a c T l) (hg : w.grownBy w' none) : ScV w0 w' g a c T l :=
  ⟨hg.cell h.c0 (by simp), hg.cell h.c1 (by simp), h.nums.grown hg, h.grown.trans hg⟩
theorem ScV.start {w0 w : World} {a : Option Addr} {c T : Nat} {l : List Nat} (hn : Nums w a c l) (hg : w0.grownBy w none) : ScV w0 (w.alloc (.cells #[.slice a l.length c, .int .i64 (T : Int)] 30)) w.heap.size a c T l := by
  have g1 := World.grownBy_alloc w (.cells #[.slice a l.length c, .int .i64 (T : Int)] 30) none
  exact ⟨by go_simp, by go_simp, hn.grown g1, hg.trans g1⟩
end Go.Proofs.Ytbddpjofhddilaa
/- A loop over an iterator whose every round says yes: what the iterator owes, what the loop owes. -/
namespace Go.Proofs.Ytbddpjofhddilaa
open Go.RowKit

/-- A step that lays blocks and turns at most one block that holds no cells, from B on. -/
def Quiet (B : Nat) (A A' : World) : Prop := ∃ row, A.grownBy A' row ∧ ∀ r, row = some r → B ≤ r ∧ ∃ o : Obj, A.heap[r]? = some o ∧ o.isCells = false
theorem Quiet.less {B B' : Nat} {A A' : World} (h : Quiet B A A') (hB : B' ≤ B) : Quiet B' A A' := by
  obtain ⟨row, hg, hr⟩ := h
  exact ⟨row, hg, fun r e => ⟨Nat.le_trans hB (hr r e).1, (hr r e).2⟩⟩
theorem Quiet.of_none {B : Nat} {A A' : World} (h : A.grownBy A' none) : Quiet B A A' := ⟨none, h, fun _ e => by cases e⟩
theorem Quiet.put {B : Nat} {A : World} {r : Nat} {o : Obj} (o' : Obj) (hB : B ≤ r) (h : A.heap[r]? = some o) (ho : o.isCells = false) : Quiet B A (A.putObj r o') :=
  ⟨some r, grownBy_putObj' A r o', fun k e => by cases e; exact ⟨hB, o, h, ho⟩⟩

/-- The blocks that a round leaves alone lie as they lay, and are left alone on. -/
def Saved (Safe : World → Nat → Prop) (W W' : World) : Prop := ∀ b, Safe W b → W'.heap[b]? = W.heap[b]? ∧ Safe W' b
/-- What a loop says of the world between two rounds, and the blocks that its rounds leave alone. -/
structure Abide (B : Nat) (J : List Int → World → Prop) (Safe : World → Nat → Prop) : Prop where
  keep : ∀ s A A', J s A → Quiet B A A' → J s A'
  safe : ∀ s A A' b, J s A → Quiet B A A' → Safe A b → Safe A' b
  fresh : ∀ s A A' b, J s A → Quiet B A A' → A.heap.size ≤ b → b < A'.heap.size → Safe A' b
theorem Abide.less {B B' : Nat} {J : List Int → World → Prop} {Safe : World → Nat → Prop} (h : Abide B J Safe) (hB : B ≤ B') : Abide B' J Safe :=
  ⟨fun s A A' hs hq => h.keep s A A' hs (hq.less hB), fun s A A' b hs hq => h.safe s A A' b hs (hq.less hB), fun s A A' b hs hq => h.fresh s A A' b hs (hq.less hB)⟩
/-- Every round says yes. -/
def Yes (F : Fence) (m : Nat) (P : Program) (l : Nat) (xs : List Int) (J : List Int → World → Prop) (Safe : World → Nat → Prop) : Prop :=
  ∀ pre x W, J pre W → pre ++ [x] <+: xs → YieldAt F m P l #[.int .i64 x] W fun e W' => e = .returned (.bool true) ∧ J (pre ++ [x]) W' ∧ Saved Safe W W'
/-- An iterator that gives xs to a loop whose rounds all say yes, where the blocks caps are left alone. -/
def Gives (F : Fence) (P : Program) (gf : Nat) (lb : Array Value) (caps : List Nat) (xs : List Int) (w : World) : Prop :=
  ∀ (n l : Nat) (J : List Int → World → Prop) (Safe : World → Nat → Prop), (∀ b ∈ caps, Safe w b) → Abide w.heap.size J Safe → Yes F (n - 1) P l xs J Safe → J [] w →
    CallsIn F n P gf (#[.func (.yield l) #[] #[]] ++ lb) w fun e W' => (∃ v, e = .returned v) ∧ J xs W'

/-- How the body of a round is left: off its end. -/
def yesPost (J : List Int → World → Prop) (Safe : World → Nat → Prop) (s : List Int) (W : World) : Exit → Act → World → Prop
  | .normal, _, W' => J s W' ∧ Saved Safe W W'
  | _, _, _ => False

variable {F : Fence} {n : Nat} {P : Program}
theorem rangeYes {g : Operand} {p : Tmp} {assign body : Code} {Q : Exit → Act → World → Prop} {a : Act} {w : World} (hro : F.round = none) (hd : F.depth = none)
    {gf : Nat} {lb : Array Value} (hg : a.eval g = .func (.func gf) #[] lb) (hFg : F.fn gf) (eg : ∀ args w, (callFunc gf args).run P w = .ok (.enter gf args) w)
    {caps : List Nat} {xs : List Int} (hseq : ∀ W, w.grownBy W none → Gives F P gf lb caps xs W)
    (I : List Int → World → Prop) (Safe : World → Nat → Prop) (hI : Abide w.heap.size I Safe) (hcap : ∀ b ∈ caps, Safe w b) (h0 : I [] w)
    (hround : ∀ (l : Nat) (pre : List Int) (x : Int) (W : World), I pre W → pre ++ [x] <+: xs → assign.wpIn (F.inRound l) (n - 1 - 1) P
      (Exit.then (fun a' W' => W' = W ∧ ∀ W2, I pre W2 → body.wpIn (F.inRound l) (n - 1 - 1) P (yesPost I Safe (pre ++ [x]) W2) a' W2) (fun _ _ _ => False)) { tmps := (#[p].zip #[Value.int .i64 x]).foldl (fun t (p, v) => t.setIfInBounds p v) a.tmps, defers := [] } W)
    (hdone : ∀ (D : Nat) (W : World), w.heap.size ≤ D → I xs W → Safe W D → W.heap[D]? = some (.deferred (some [])) → Q .normal { a with defers := { target := .collected D, args := #[] } :: a.defers } W) :
    (Code.rangeFunc g #[p] assign body).wpIn F n P Q a w := by
  refine wpIn_rangeFunc fun fn hfn => ?_
  rw [hro]
  let R : LoopState → Loop := fun st => { state := st, pending := none, fn, tmps := a.tmps, params := #[p], assign, body, defers := w.heap.size }
  obtain ⟨W1, hW1⟩ : ∃ W1, (w.alloc (.deferred (some []))).alloc (.loop (R .ready)) = W1 := ⟨_, rfl⟩
  have hz1 : W1.heap.size = w.heap.size + 2 := by rw [← hW1]; simp
  have hg1 : w.grownBy W1 none := by rw [← hW1]; exact (World.grownBy_alloc w _ none).trans (World.grownBy_alloc _ _ none)
  have hl1 : W1.heap[w.heap.size + 1]? = some (.loop (R .ready)) := by
    rw [← hW1]; have := World.alloc_heap_new (w.alloc (.deferred (some []))) (.loop (R .ready)); rwa [World.size_alloc] at this
  have hd1 : W1.heap[w.heap.size]? = some (.deferred (some [])) := by
    rw [← hW1]; exact (Below.heap_alloc _ _ _ (by simp)).trans (World.alloc_heap_new w _)
  refine ⟨w.heap.size + 1, [{ target := .collected w.heap.size, args := #[] }], W1, { target := .fn (.func gf) lb, args := #[.func (.yield (w.heap.size + 1)) #[] #[]] }, W1, gf,
    #[.func (.yield (w.heap.size + 1)) #[] #[]] ++ lb, W1, ?_, ?_, ?_, ?_, (fun h => by rw [hd] at h; cases h), ?_⟩
  · rw [← hW1]; exact run_enterLoop_outer _ _ _ _ _
  · simp only [resolve, hg]
    simp [go_sem]
  · intro f' hf'; simp [Target.leads] at hf'; subst hf'; exact hFg
  · simp [invoke, go_sem, eg]
  have hq1 : Quiet w.heap.size w W1 := .of_none hg1
  refine (hseq W1 hg1 (n - 1) (w.heap.size + 1) (fun pre W => I pre W ∧ W.heap[w.heap.size + 1]? = some (.loop (R .ready)) ∧ W.heap[w.heap.size]? = some (.deferred (some [])) ∧ Safe W (w.heap.size + 1) ∧ Safe W w.heap.size) Safe
    (fun b hb => hI.safe _ _ _ b h0 hq1 (hcap b hb)) ⟨?_, ?_, ?_⟩ ?_
    ⟨hI.keep _ _ _ h0 hq1, hl1, hd1, hI.fresh _ _ _ _ h0 hq1 (by omega) (by omega), hI.fresh _ _ _ _ h0 hq1 (by omega) (by omega)⟩).mono ?_
  · rintro s A A' ⟨hi, hl, hk, hsl, hsk⟩ hq
    have hq' := hq.less (B' := w.heap.size) (by omega)
    obtain ⟨row, hgr, hr⟩ := hq
    exact ⟨hI.keep _ _ _ hi hq', (hgr.block _ (Array.getElem?_eq_some_iff.1 hl).1 (fun e => by have := (hr _ e.symm).1; omega)).trans hl,
      (hgr.block _ (Array.getElem?_eq_some_iff.1 hk).1 (fun e => by have := (hr _ e.symm).1; omega)).trans hk, hI.safe _ _ _ _ hi hq' hsl, hI.safe _ _ _ _ hi hq' hsk⟩
  · rintro s A A' b ⟨hi, _⟩ hq hs
    exact hI.safe _ _ _ b hi (hq.less (by omega)) hs
  · rintro s A A' b ⟨hi, _⟩ hq h1 h2
    exact hI.fresh _ _ _ b hi (hq.less (by omega)) h1 h2
  · rintro pre x W ⟨hi, hl, hk, hsl, hsk⟩ hpre
    have hlt : w.heap.size + 1 < W.heap.size := (Array.getElem?_eq_some_iff.1 hl).1
    refine ⟨fn, _, assign, body, run_yield hl rfl, roundIn_of_wpIn hfn ?_⟩
    refine wpIn_mono (hround _ pre x W hi hpre) ?_
    rintro e a1 W1' h1
    cases e with
    | normal => ?_
    | _ => exact h1.elim
    obtain ⟨rfl, hb⟩ := h1
    refine ⟨_, run_beginRound hl rfl, ?_⟩
    have hqb : Quiet w.heap.size W1' (W1'.putObj (w.heap.size + 1) (.loop (R .busy))) := .put _ (by omega) hl rfl
    refine wpIn_mono (hb _ (hI.keep _ _ _ hi hqb)) ?_
    rintro e a3 W3 hp
    cases e with
    | normal =>
      obtain ⟨hi3, hs3⟩ := hp
      have h3 := hs3 (w.heap.size + 1) (hI.safe _ _ _ _ hi hqb hsl)
      have k3 := hs3 w.heap.size (hI.safe _ _ _ _ hi hqb hsk)
      have hl3 : W3.heap[w.heap.size + 1]? = some (.loop (R .busy)) := h3.1.trans (World.putObj_heap_same hlt)
      have hk3 : W3.heap[w.heap.size]? = some (.deferred (some [])) := (k3.1.trans (World.putObj_heap_other (by omega))).trans hk
      have hq4 : Quiet w.heap.size W3 (W3.putObj (w.heap.size + 1) (.loop (R .ready))) := .put _ (by omega) hl3 rfl
      have hlt3 : w.heap.size + 1 < W3.heap.size := (Array.getElem?_eq_some_iff.1 hl3).1
      refine ⟨_, _, run_endRound (P := P) none hl3, rfl, ⟨hI.keep _ _ _ hi3 hq4, World.putObj_heap_same hlt3, (World.putObj_heap_other (by omega)).trans hk3, hI.safe _ _ _ _ hi3 hq4 h3.2, hI.safe _ _ _ _ hi3 hq4 k3.2⟩, ?_⟩
      intro b hb
      have hb2 := hI.safe _ _ _ b hi hqb hb
      have hb3 := hs3 b hb2
      refine ⟨?_, hI.safe _ _ _ b hi3 hq4 hb3.2⟩
      by_cases hbl : b = w.heap.size + 1
      · subst hbl
        exact (World.putObj_heap_same hlt3).trans hl.symm
      · exact ((World.putObj_heap_other hbl).trans hb3.1).trans (World.putObj_heap_other hbl)
    | _ => exact hp.elim
  · rintro e W2 ⟨⟨v, rfl⟩, hi, hl, hk, _, hsk⟩
    exact ⟨none, _, run_endLoop hl (by simp [R]), hdone _ _ (Nat.le_refl _) (hI.keep _ _ _ hi (.put _ (by omega) hl rfl)) (hI.safe _ _ _ _ hi (.put _ (by omega) hl rfl) hsk) ((World.putObj_heap_other (by omega)).trans hk)⟩
end Go.Proofs.Ytbddpjofhddilaa
/- What the function ranks hands back: a function value over three boxes. -/
namespace Go.Proofs.Ytbddpjofhddilaa
open Go.RowKit

/-- The ranks of all tuples that begin with the digits of pre and go on with atoms of the sorts, in order. -/
def digs (zs : List Nat) : Nat → List Nat → List Nat
  | pre, [] => [pre]
  | pre, s :: ss => (List.range (zs.getD s 0)).flatMap fun i => digs zs (pre * sum zs + (sum (zs.take s) + i)) ss

set_option maxHeartbeats 1000000 in
theorem ranks_calls (v0 v1 v2 : Value) (x : Int) (a sa : Option Addr) (n c k sc : Nat) (st : Int) (w : World) (h0 : v0 = .agg #[.slice a n c, .int .i64 st]) (h1 : v1 = .int .i64 x) (h2 : v2 = .slice sa k sc) :
    Calls Try.prog 113 #[v0, v1, v2] w fun e w' => e = .returned (.func (.func 130) #[] #[.pointer (some ⟨w.heap.size + 2, 0, none⟩), .pointer (some ⟨w.heap.size + 1, 0, none⟩), .pointer (some ⟨w.heap.size, 0, none⟩)]) ∧
      w' = ((w.alloc (.cells #[.slice a n c, .int .i64 st] 30)).alloc (.cells #[.int .i64 x] 3)).alloc (.cells #[.slice sa k sc] 28) := by
  subst h0 h1 h2
  go_enter Try.func113, Try.ntmps113
  go_wp2
  go_ret
  exact ⟨rfl, rfl⟩
theorem ranks_gets (x : Int) (a sa : Option Addr) (n c k sc : Nat) (st : Int) (w : World) :
    Calls Try.prog 113 #[.agg #[.slice a n c, .int .i64 st], .int .i64 x, .slice sa k sc] w fun e w' => ∃ b, e = .returned (.func (.func 130) #[] #[.pointer (some ⟨b + 2, 0, none⟩), .pointer (some ⟨b + 1, 0, none⟩), .pointer (some ⟨b, 0, none⟩)]) ∧
      w.grownBy w' none ∧ w.heap.size ≤ b ∧ b + 2 < w'.heap.size ∧ w'.cell? ⟨b, 0, none⟩ = some (.slice a n c) ∧ w'.cell? ⟨b, 1, none⟩ = some (.int .i64 st) ∧ w'.cell? ⟨b + 1, 0, none⟩ = some (.int .i64 x) ∧ w'.cell? ⟨b + 2, 0, none⟩ = some (.slice sa k sc) := by
  refine (ranks_calls _ _ _ x a sa n c k sc st w rfl rfl rfl).mono ?_
  rintro e w' ⟨rfl, rfl⟩
  exact ⟨_, rfl, ((World.grownBy_alloc _ _ none).trans (World.grownBy_alloc _ _ none)).trans (World.grownBy_alloc _ _ none), Nat.le_refl _, by simp, by go_simp, by go_simp, by go_simp, by go_simp⟩

theorem nums_two {X Y : World} {u v : Nat} (g : (X.alloc (.cells #[.int .i64 (u : Int), .int .i64 (v : Int)] 3)).grownBy Y none) : Nums Y (some ⟨X.heap.size, 0, none⟩) 2 [u, v] := by
  refine Nums.grown ⟨Nat.le_refl _, .inr ⟨_, 0, rfl, by simp, fun j z hj => ?_⟩⟩ g
  match j, hj with
  | 0, hj => simp at hj; subst hj; go_simp
  | 1, hj => simp at hj; subst hj; go_simp

theorem nums_two' {X Y : World} {u v : Nat} (g : (X.alloc (.cells #[.int .i64 (u : Int), .int .i64 (v : Int)] 3)).drew.grownBy Y none) : Nums Y (some ⟨X.heap.size, 0, none⟩) 2 [u, v] :=
  nums_two (World.grownBy.trans (b := (X.alloc (.cells #[.int .i64 (u : Int), .int .i64 (v : Int)] 3)).drew) ⟨rfl, rfl, rfl, Nat.le_refl _, fun _ _ _ => rfl⟩ g)

/-- The row behind a row's first element. -/
theorem nums_tail {b o k sc : Nat} (hk : k + 1 ≤ sc) : ∃ sa : Option Addr, sa.map (·.block) = some b ∧
    (∀ w, (Instr.slice 28 (.slice (some ⟨b, o, none⟩) (k + 1) sc) (some (.int .i64 1)) none none).run Try.prog w = .ok (.slice sa k (sc - 1)) w) ∧
    (∀ (w : World) (z : Nat) (zs : List Nat), zs.length = k → Nums w (some ⟨b, o, none⟩) sc (z :: zs) → Nums w sa (sc - 1) zs) := by
  by_cases h : sc = 1
  · subst h
    obtain rfl : k = 0 := by omega
    refine ⟨some ⟨b, o, none⟩, rfl, fun w => by go_simp, fun w z zs hz hn => ?_⟩
    obtain rfl := List.eq_nil_of_length_eq_zero hz
    obtain ⟨_, ⟨h, _⟩ | ⟨b', o', ha, hb, _⟩⟩ := hn
    · cases h
    · exact ⟨by simp, .inr ⟨b', o', ha, hb, fun j z hj => by simp at hj⟩⟩
  · refine ⟨some ⟨b, o + 1, none⟩, rfl, fun w => by
      go_simp
      intro hq
      omega, fun w z zs hz hn => ?_⟩
    obtain ⟨hc, ⟨h, _⟩ | ⟨b', o', ha, hb, hcell⟩⟩ := hn
    · cases h
    · injection ha with ha
      injection ha with h1 h2
      subst h1; subst h2
      exact ⟨by simp at hc; omega, .inr ⟨b, o + 1, rfl, hb, fun j z hj => by rw [show o + 1 + j = o + (j + 1) by omega]; exact hcell (j + 1) z (by simpa using hj)⟩⟩
end Go.Proofs.Ytbddpjofhddilaa

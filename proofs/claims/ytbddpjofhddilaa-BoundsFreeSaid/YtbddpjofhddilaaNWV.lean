/- Good bounds are valid; what default bounds leave free. -/
import Derived.Test.YtbddpjofhddilaaN21
namespace Go.Proofs.Ytbddpjofhddilaa
open Go.RowKit

theorem rising_up {hi : Int} : ∀ {l : List Int} {lo : Int}, Up l → (∀ z ∈ l, lo < z ∧ z < hi) → rising hi lo l = true
  | [], _, _, _ => rfl
  | z :: l, lo, h, hb => by
    have h1 := hb z (by simp)
    have hp := List.pairwise_cons.1 h
    simp only [rising, Bool.and_eq_true, decide_eq_true_eq]
    exact ⟨h1, rising_up hp.2 (fun y hy => ⟨hp.1 y hy, (hb y (by simp [hy])).2⟩)⟩
theorem full_bounds {zs : List Nat} {ss : List Int} {z : Int} (h : z ∈ fullL zs ss) : -1 < z ∧ z < ((sum zs ^ ss.length : Nat) : Int) := by
  unfold fullL at h
  split at h
  · obtain ⟨r, hr, rfl⟩ := List.mem_map.1 h
    have := digs_bounds hr
    rw [List.length_map, Nat.zero_add, Nat.one_mul] at this
    show -1 < (r : Int) ∧ (r : Int) < _
    omega
  · cases h
theorem valid_good {zs : List Nat} {F : List Fd} {A : List Bd} (hz : ∀ z ∈ zs, z ≤ 5) (hs : sum zs ≤ 12) (hff : ∀ f ∈ F, f.2.1 ≠ [] ∧ f.2.1.length ≤ 3) (hfit : ∀ f ∈ F, fits zs.length f.2.1 = true) (hA : GoodL A (F.map (defX zs))) : allB (validF zs) F A = true := by
  have hdef := defOk (F := F) hz (fun f hf => (hff f hf).2)
  refine allB_iff.2 ⟨by rw [hA.1, List.length_map], fun j f x hf hx => ?_⟩
  have hg := hA.2 j x (defX zs f) hx (by rw [List.getElem?_map, hf]; rfl)
  have hm := List.mem_of_getElem? hf
  have hd := hdef (defX zs f) (List.mem_map.2 ⟨f, hm, rfl⟩)
  have hl := hff f hm
  have hk : fullK zs.length f.2.1 = f.2.1.length := by simp only [fullK, hfit f hm, if_true]
  have h1 : x.1.1 = (f.2.1.length : Int) := by rw [hg.k1]; show ((fullK zs.length f.2.1 : Nat) : Int) = _; rw [hk]
  have h2 : x.2.1 = (f.2.1.length : Int) := by rw [hg.k2]; show ((fullK zs.length f.2.1 : Nat) : Int) = _; rw [hk]
  have hp : 1 ≤ f.2.1.length := by have := List.length_pos_iff.2 hl.1; omega
  have hb : ∀ z ∈ x.2.2, -1 < z ∧ z < ((sum zs ^ f.2.1.length : Nat) : Int) := fun z hz => full_bounds (hg.s2 z hz)
  have hr : ∀ l : List Int, Up l → (∀ z ∈ l, z ∈ x.2.2) → relValid ((sum zs : Nat) : Int) (f.2.1.length : Int) l = true := fun l hu hsub => by
    refine relValid_iff.2 ⟨⟨by omega, by omega, by omega, by omega⟩, ?_⟩
    rw [Int.toNat_natCast, Int.toNat_natCast]
    exact rising_up hu fun z hz => hb z (hsub z hz)
  simp only [validF, validX, Bool.and_eq_true]
  refine ⟨?_, ?_, ?_, (inB_iff hg.u1 hg.u2).2 hg.s1, (inB_iff hg.u2 hd.2.1).2 hg.s2⟩
  · simp only [arityB, List.all_cons, List.all_nil, Bool.and_true, Bool.and_eq_true, decide_eq_true_eq]
    exact ⟨h1, h2⟩
  · rw [h1]; exact hr _ hg.u1 hg.s1
  · rw [h2]; exact hr _ hg.u2 fun z hz => hz
theorem diff_nil : ∀ l : List Int, diffL l [] = l
  | [] => by unfold diffL; rw [mergeL]
  | x :: l => by
    have ih := diff_nil l
    unfold diffL at ih ⊢
    rw [mergeL, ih]
    rfl
/-- How many tuples lie in the upper rows. -/
def upTo (A : List Bd) : Nat → Nat
  | 0 => 0
  | i + 1 => upTo A i + (match A[i]? with | some x => x.2.2.length | none => 0)
theorem upTo_succ {A : List Bd} {i : Nat} {x : Bd} (h : A[i]? = some x) : upTo A (i + 1) = upTo A i + x.2.2.length := by rw [upTo, h]
theorem free_def {DB : List Bd} (h : DefOk DB) : ∀ n, (freeTo DB n).length = upTo DB n
  | 0 => rfl
  | n + 1 => by
    have ih := free_def h n
    cases hx : DB[n]? with
    | none => rw [freeTo, upTo, hx, List.append_nil, ih]; rfl
    | some x => rw [freeTo_succ hx, upTo_succ hx, List.length_append, ih, freeX, List.length_map, (h x (List.mem_of_getElem? hx)).1, diff_nil]
theorem upTo_le {A : List Bd} (h : ∀ x ∈ A, x.1.2.length ≤ 125 ∧ x.2.2.length ≤ 125) : ∀ n, upTo A n ≤ n * 125
  | 0 => by simp [upTo]
  | n + 1 => by
    have ih := upTo_le h n
    rw [Nat.succ_mul]
    cases hx : A[n]? with
    | none => rw [upTo, hx]; show upTo A n + 0 ≤ _; omega
    | some x => rw [upTo_succ hx]; have := (h x (List.mem_of_getElem? hx)).2; omega
theorem validG {s1 fa s3 s4 : Option Addr} {ns c1 fc n3 c3 n4 c4 : Nat} {F : List Fd} {zs : List Nat} {za : Option Addr} {zc n f : Nat} {st : Int} {A : List Bd} {ba : Option Addr} {bc : Nat} {w : World} {Q : Bool} (hF : Fields w fa fc F) (hzn : Nums w za zc zs) (hz : ∀ z ∈ zs, z ≤ 5) (hzl : zs.length ≤ 4) (hB : Bds w ba bc A)
    (hfl : F.length ≤ 6) (hff : ∀ f ∈ F, f.2.1 ≠ [] ∧ f.2.1.length ≤ 3) (hbl : ∀ x ∈ A, x.1.2.length ≤ 125 ∧ x.2.2.length ≤ 125) (hn : zs.length = n) (hf : F.length = f) (hf' : A.length = f) (hQ : allB (validF zs) F A = Q) :
    Calls Try.prog 45 #[.agg #[.slice s1 ns c1, .slice fa f fc, .slice s3 n3 c3, .slice s4 n4 c4], .agg #[.slice za n zc, .int .i64 st], .slice ba f bc] w fun e w' => e = .returned (.bool Q) ∧ w.grownBy w' none := by
  have h := bValid_calls s1 fa s3 s4 ns c1 fc n3 c3 n4 c4 F zs za zc st A ba bc w hF hzn hz hzl hB (by omega) hff (fun x hx => by have := hbl x hx; omega)
  rw [hn, hf, hf', hQ] at h
  exact h
end Go.Proofs.Ytbddpjofhddilaa

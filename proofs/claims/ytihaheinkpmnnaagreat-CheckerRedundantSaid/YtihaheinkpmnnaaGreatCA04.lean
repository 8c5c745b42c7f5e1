/- Texts of the proof: P2 A4. -/
import Derived.Test.YtihaheinkpmnnaaGreatCA03
import Derived.Test.YtihaheinkpmnnaaGreatCA00
import Derived.Test.YtihaheinkpmnnaaGreatCA01
namespace Go.Proofs.YtihaheinkpmnnaaGreat
set_option maxRecDepth 200000
open Go.RowKit
/-- What the lists of occurrences say: the clauses with the literal x lie from starts(x) on. -/
structure Occ (V : Nat) (C : List (List Int)) (st cl : List Int) : Prop where
  len : st.length = 2 * V + 4
  at_ : ∀ x, InR V x → ∃ lo : Nat, st[(ixL x).toNat]? = some (lo : Int) ∧ st[(ixL x).toNat + 1]? = some ((lo + (with_ C x).length : Nat) : Int) ∧ lo + (with_ C x).length ≤ cl.length ∧ ∀ (j : Nat) (i : Nat), (with_ C x)[j]? = some i → cl[lo + j]? = some (i : Int)
set_option maxHeartbeats 4000000 in
theorem containing_calls {K : PK} {w : World} {C : List (List Int)} {vs : List Int} {ns kf : Int} {R : Nat → Rw} (h : PW K w vs ns kf R) (ho : Occ K.V C (R 4).l (R 5).l) (hV : K.V ≤ 10000) (hcl : (R 5).l.length ≤ 100000) {x : Int} (hx : InR K.V x) (n : Nat) (hn : (with_ C x).length = n) :
    Calls Tryz.prog 123 #[.pointer (some ⟨K.p, 0, none⟩), .int .i64 x] w fun e w' => (∃ a c, e = .returned (.slice a n c) ∧ ∃ lo : Nat, (0 < n → ∃ g, (R 5).a = some ⟨g, 0, none⟩ ∧ a = some ⟨g, lo, none⟩ ∧ ∀ (j : Nat) (i : Nat), (with_ C x)[j]? = some i → (R 5).l[lo + j]? = some (i : Int))) ∧ ∃ m, w' = w.drewN m := by
  obtain ⟨lo, h1, h2, h3, h4⟩ := ho.at_ x hx
  rw [hn] at h2 h3
  obtain ⟨k, hk⟩ : ∃ k : Nat, ixL x = (k : Int) := ⟨(ixL x).toNat, by unfold ixL; obtain ⟨_, _, _⟩ := hx; split <;> omega⟩
  have hkV : k < 2 * K.V + 2 := by have := hk; unfold ixL at this; obtain ⟨_, _, _⟩ := hx; split at this <;> omega
  have e1 : (ixL x).toNat = k := by rw [hk]; rfl
  rw [e1] at h1 h2
  obtain ⟨g, ha, hval, hc, hrow⟩ := h.row (i := 4) (by omega) ho.len (by omega)
  have q9 := h.f9
  rw [hval] at q9
  have at4 : ∀ {j : Nat} {z : Int}, (R 4).l[j]? = some z → w.cell? ⟨g, j, none⟩ = some (.int .i64 z) := fun {j z} hj => by
    have hjl := (List.getElem?_eq_some_iff.1 hj).1
    rw [irow_cell hrow hjl]
    rw [at_some hjl] at hj
    injection hj with hj
    rw [hj]
  have c1 := at4 h1
  have c2 := at4 h2
  have q10 := h.f10
  obtain ⟨m, hm⟩ : ∃ m, (R 5).l.length = m := ⟨_, rfl⟩
  rw [Rw.val, hm] at q10
  rw [hm] at h3 hcl
  obtain ⟨hi, hhi⟩ : ∃ hi, lo + n = hi := ⟨_, rfl⟩
  rw [hhi] at c2 h3
  obtain ⟨M, hM⟩ : ∃ M, 2 * K.V + 4 = M := ⟨_, rfl⟩
  rw [hM] at q9
  have hmc : m ≤ (R 5).c := by
    rcases (h.rows 5 (by omega)).2 with ⟨_, h0⟩ | ⟨_, _, _, e, _, _, hnc, _⟩
    · omega
    · injection e with _ _ e; omega
  have hkx : ixL x = (k : Int) := hk
  have HIX := Lib.hid (fun U => show Calls Tryz.prog 121 #[.int .i64 x] U fun e w' => e = .returned (.int .i64 (k : Int)) ∧ w' = U from by
    have := ix_calls x U (by obtain ⟨_, _, _⟩ := hx; omega)
    rwa [hkx] at this)
  have hk1 : IntKind.i64.wrap ((k : Int) + 1) = ((k + 1 : Nat) : Int) := by rw [IntWalk.i64_in _ (by omega)]; omega
  have hk0 : (0 : Int) ≤ (k : Int) := by omega
  have hkM : (k : Int) < (M : Int) := by omega
  have hk2 : ((k + 1 : Nat) : Int) < (M : Int) := by omega
  have hk3 : (0 : Int) ≤ ((k + 1 : Nat) : Int) := by omega
  have HE := Lib.hid (And.intro hhi (And.intro h4 hm))
  clear h1 h2 h4 hk e1 ha hval hc hrow at4 hkx ho hn hM hm
  go_enter Tryz.func123, Tryz.ntmps123
  go_wp2_with fail
  go_quiet ((first | (go_at_call 121; exact Calls.quiet_of_same (HIX.out _))))
  have hd : hi - lo = n := by omega
  obtain ⟨aa, haa⟩ : ∃ aa, (if (R 5).c = lo then (R 5).a else Option.map (fun x => x.add lo) (R 5).a) = aa := ⟨_, rfl⟩
  rw [haa, hd]
  have HA := Lib.hid haa
  clear haa hd c1 c2 q10 q9
  go_wp2_with fail
  go_ret
  refine ⟨⟨aa, _, rfl, lo, fun hn0 => ?_⟩, _, rfl⟩
  obtain ⟨g5, e5, _, _, _⟩ := irow_head (h.rows 5 (by omega)) (by rw [HE.out.2.2]; omega)
  refine ⟨g5, e5, ?_, HE.out.2.1⟩
  rw [← HA.out, if_neg (by omega), e5]
  simp [add_at]
end Go.Proofs.YtihaheinkpmnnaaGreat

namespace Go.Proofs.YtihaheinkpmnnaaGreat
set_option maxRecDepth 200000
/-- The queue: numbers of clauses with at most one undetermined literal; all that are falsified or unit, but for those of `rest`. -/
structure QOk (C : List (List Int)) (tr : List Int) (rest : List Nat) (hp : List Int) : Prop where
  heap : Heap hp.length hp
  num : ∀ y ∈ hp, ∃ i : Nat, y = (i : Int) ∧ i < C.length ∧ opnN tr (C.getD i []) < 2
  has : ∀ i, i < C.length → hot tr (C.getD i []) = true → (i : Int) ∈ hp ∨ i ∈ rest
theorem QOk.step {C : List (List Int)} {tr hp : List Int} {x : Int} {rest : List Nat} (h : QOk C tr rest hp) (hrest : ∀ r ∈ rest, x ∈ C.getD r []) (h0 : x ≠ 0) (hu : und tr x = true) : QOk C (tr ++ [x]) (with_ C (-x)) hp := by
  refine ⟨h.heap, fun y hy => ?_, fun i hi hh => ?_⟩
  · obtain ⟨i, e, hi, ho⟩ := h.num y hy
    exact ⟨i, e, hi, by have := opn_snoc (C.getD i []) h0 hu; omega⟩
  · by_cases hx : -x ∈ C.getD i []
    · exact .inr (mem_with.2 ⟨hi, hx⟩)
    · refine .inl ?_
      unfold hot at hh
      simp only [Bool.and_eq_true, beq_iff_eq, decide_eq_true_eq] at hh
      have h1 := sat_snoc (C.getD i []) hu
      have h2 := opn_snoc (C.getD i []) h0 hu
      rw [if_neg hx] at h2
      have hxc : x ∉ C.getD i [] := fun hc => by rw [if_pos hc] at h1; omega
      rw [if_neg hxc] at h1 h2
      rcases h.has i hi (by unfold hot; simp only [Bool.and_eq_true, beq_iff_eq, decide_eq_true_eq]; exact ⟨by omega, by omega⟩) with h3 | h3
      · exact h3
      · exact absurd (hrest i h3) hxc
theorem QOk.pass {C : List (List Int)} {tr hp : List Int} {i : Nat} {rest : List Nat} (h : QOk C tr (i :: rest) hp) (hn : hot tr (C.getD i []) = false) : QOk C tr rest hp := by
  refine ⟨h.heap, h.num, fun j hj hh => ?_⟩
  rcases h.has j hj hh with h1 | h1
  · exact .inl h1
  · rcases List.mem_cons.1 h1 with rfl | h1
    · rw [hn] at hh; cases hh
    · exact .inr h1
theorem QOk.push {C : List (List Int)} {tr hp hp' : List Int} {i : Nat} {rest : List Nat} (h : QOk C tr (i :: rest) hp) (hi : i < C.length) (ho : opnN tr (C.getD i []) < 2) (hp1 : hp'.Perm ((i : Int) :: hp)) (hh' : Heap hp'.length hp') : QOk C tr rest hp' := by
  refine ⟨hh', fun y hy => ?_, fun j hj hh => ?_⟩
  · rcases List.mem_cons.1 (hp1.mem_iff.1 hy) with rfl | h1
    · exact ⟨i, rfl, hi, ho⟩
    · exact h.num y h1
  · rcases h.has j hj hh with h1 | h1
    · exact .inl (hp1.mem_iff.2 (List.mem_cons_of_mem _ h1))
    · rcases List.mem_cons.1 h1 with rfl | h1
      · exact .inl (hp1.mem_iff.2 (List.mem_cons_self ..))
      · exact .inr h1
/-- The least of the queue is taken. -/
theorem QOk.pop {C : List (List Int)} {tr hp hp' : List Int} (h : QOk C tr [] hp) (_h0 : 0 < hp.length) (hp1 : hp.Perm (at_ hp 0 :: hp')) (hh' : Heap hp'.length hp') :
    ∃ i : Nat, at_ hp 0 = (i : Int) ∧ i < C.length ∧ ((hot tr (C.getD i []) = true ∧ C.findIdx? (hot tr) = some i ∧ QOk C tr [i] hp') ∨ (hot tr (C.getD i []) = false ∧ satN tr (C.getD i []) ≠ 0 ∧ QOk C tr [] hp')) := by
  have hm0 : at_ hp 0 ∈ hp := hp1.mem_iff.2 (List.mem_cons_self ..)
  obtain ⟨i, e, hi, ho⟩ := h.num _ hm0
  have hle : ∀ y ∈ hp, at_ hp 0 ≤ y := fun y hy => by
    obtain ⟨k, hk, e2⟩ := List.mem_iff_getElem.1 hy
    have := heap_min h.heap k hk
    unfold at_ at this ⊢
    rwa [List.getD_eq_getElem?_getD (l := hp) (i := k), List.getElem?_eq_getElem hk, Option.getD_some, e2] at this
  have hsub : ∀ y ∈ hp', ∃ i : Nat, y = (i : Int) ∧ i < C.length ∧ opnN tr (C.getD i []) < 2 := fun y hy => h.num y (hp1.mem_iff.2 (List.mem_cons_of_mem _ hy))
  refine ⟨i, e, hi, ?_⟩
  cases hc : hot tr (C.getD i []) with
  | true =>
    refine .inl ⟨rfl, ?_, hh', hsub, fun j hj hh => ?_⟩
    · have hCi : C.getD i [] = C[i] := by rw [List.getD_eq_getElem?_getD, List.getElem?_eq_getElem hi]; rfl
      refine List.findIdx?_eq_some_iff_getElem.2 ⟨hi, by rw [← hCi]; exact hc, fun j hj => ?_⟩
      have hjl : j < C.length := Nat.lt_trans hj hi
      have hCj : C.getD j [] = C[j] := by rw [List.getD_eq_getElem?_getD, List.getElem?_eq_getElem hjl]; rfl
      rw [← hCj]
      intro hh
      rcases h.has j hjl hh with h1 | h1
      · have := hle _ h1; rw [e] at this; omega
      · cases h1
    · rcases h.has j hj hh with h1 | h1
      · rcases List.mem_cons.1 (hp1.mem_iff.1 h1) with h2 | h2
        · right; rw [e] at h2; have : j = i := by omega
          simp [this]
        · exact .inl h2
      · cases h1
  | false =>
    refine .inr ⟨rfl, fun hs => ?_, hh', hsub, fun j hj hh => ?_⟩
    · have : hot tr (C.getD i []) = true := by unfold hot; simp only [Bool.and_eq_true, beq_iff_eq, decide_eq_true_eq]; exact ⟨hs, ho⟩
      rw [this] at hc; cases hc
    · rcases h.has j hj hh with h1 | h1
      · rcases List.mem_cons.1 (hp1.mem_iff.1 h1) with h2 | h2
        · rw [e] at h2; have : j = i := by omega
          subst this; rw [hc] at hh; cases hh
        · exact .inl h2
      · cases h1
theorem QOk.none {C : List (List Int)} {tr : List Int} (h : QOk C tr [] []) : C.findIdx? (hot tr) = none := by
  refine List.findIdx?_eq_none_iff.2 fun c hc => ?_
  obtain ⟨i, hi, e⟩ := List.mem_iff_getElem.1 hc
  cases hh : hot tr c with
  | false => rfl
  | true =>
    have hCi : C.getD i [] = C[i] := by rw [List.getD_eq_getElem?_getD, List.getElem?_eq_getElem hi]; rfl
    rcases h.has i hi (by rw [hCi, e]; exact hh) with h1 | h1 <;> cases h1
end Go.Proofs.YtihaheinkpmnnaaGreat

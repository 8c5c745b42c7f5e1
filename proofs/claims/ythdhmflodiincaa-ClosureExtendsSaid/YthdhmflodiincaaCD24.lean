/- Texts of the proof: UO RZ RM VA. -/
import Derived.Test.YthdhmflodiincaaCD23
import Derived.Shelf.SlIterI.Nil
import Derived.Shelf.SortM.Plain
import Derived.Shelf.SortM.SortNone
import Derived.Ground.GgzProg
import Derived.Ground.SlgmProg
import Derived.Test.YthdhmflodiincaaCD20
import Derived.Test.YthdhmflodiincaaCD13
import Derived.Test.YthdhmflodiincaaCD15
import Derived.Test.YthdhmflodiincaaCD12
import Derived.Test.YthdhmflodiincaaCD02
import Derived.Test.YthdhmflodiincaaCD05
import Derived.Test.YthdhmflodiincaaCD10
import Derived.Test.YthdhmflodiincaaCD00
import Derived.Deep.DeepCutAuto
import Derived.Test.YthdhmflodiincaaCD16
import Derived.Test.YthdhmflodiincaaCD04
import Derived.Test.YthdhmflodiincaaCD09
import Derived.Test.YthdhmflodiincaaCD01
import Derived.Laws.StructEq
import Derived.Test.YthdhmflodiincaaCD03
set_option maxRecDepth 100000
set_option maxHeartbeats 8000000
namespace Go.Proofs.Ythdhmflodiincaa

theorem pair_of {q z p : Nat} (hq : 0 < q) (h : z < p * q) : ∃ u v, u < p ∧ v < q ∧ z = u * q + v :=
  ⟨z / q, z % q, Nat.div_lt_of_lt_mul (by rw [Nat.mul_comm]; exact h), Nat.mod_lt _ hq, by rw [Nat.mul_comm]; exact (Nat.div_add_mod z q).symm⟩
theorem val_pairs {n : Nat} {g : List Gt} {m : List Cl} (hs : Sq n g m) (v : List Bool) : ∀ z ∈ valL g v m, ∃ x y, x < n ∧ y < n ∧ z = ((x * n + y : Nat) : Int) := fun z hz => by
  unfold valL at hz
  obtain ⟨c, hc, rfl⟩ := List.mem_map.1 hz
  obtain ⟨h0, h1⟩ := hs.2 c (List.mem_filter.1 hc).1
  obtain ⟨k, hk⟩ : ∃ k : Nat, c.1 = (k : Int) := ⟨c.1.toNat, by omega⟩
  have hk2 : k < n * n := by rw [hk] at h1; exact_mod_cast h1
  obtain ⟨x, y, hx, hy, e⟩ := pair_of (by rcases Nat.eq_zero_or_pos n with rfl | h; omega; exact h) hk2
  exact ⟨x, y, hx, hy, by rw [hk, e]⟩
end Go.Proofs.Ythdhmflodiincaa

namespace Go.Proofs.Ythdhmflodiincaa

theorem valE_valL {g : List Gt} {v : List Bool} {m : List Cl} (h : ∀ c ∈ m, Ok g c.2) : valE g v m = valL g v m := by
  unfold valE valL
  rw [List.filter_congr (fun c hc => eval_val (h c hc))]
theorem madeC_next (refs : List Int) (raw : List Nat) (k : Nat) : madeC refs raw (k + 1) = madeC refs raw k ++ (if (raw.getD k 0) % 2 = 1 ∧ pickL refs (raw.getD k 0 / 2) ≠ 1 then [((k : Int), pickL refs (raw.getD k 0 / 2))] else []) := by
  unfold madeC
  rw [List.range_succ, List.filterMap_append, List.filterMap_cons, List.filterMap_nil]
  by_cases hc : (raw.getD k 0) % 2 = 1 ∧ pickL refs (raw.getD k 0 / 2) ≠ 1
  · rw [if_pos hc, if_pos hc]
  · rw [if_neg hc, if_neg hc]
theorem madeC_all (refs : List Int) (raw : List Nat) : ∀ k, UpM (madeC refs raw k) ∧ ∀ c ∈ madeC refs raw k, 0 ≤ c.1 ∧ c.1 < (k : Int) ∧ c.2 ≠ 1 ∧ ∃ n, c.2 = pickL refs n
  | 0 => ⟨by unfold UpM madeC; simp, fun c hc => by simp [madeC] at hc⟩
  | k + 1 => by
    obtain ⟨h1, h2⟩ := madeC_all refs raw k
    rw [madeC_next]
    by_cases hc : (raw.getD k 0) % 2 = 1 ∧ pickL refs (raw.getD k 0 / 2) ≠ 1
    · rw [if_pos hc]
      refine ⟨?_, fun c hm => ?_⟩
      · unfold UpM at h1 ⊢
        rw [List.map_append, List.pairwise_append]
        refine ⟨h1, by simp, fun x hx y hy => ?_⟩
        obtain ⟨c, hc', rfl⟩ := List.mem_map.1 hx
        simp at hy
        subst hy
        exact (h2 c hc').2.1
      · rcases List.mem_append.1 hm with hm | hm
        · have := h2 c hm
          exact ⟨this.1, by have := this.2.1; omega, this.2.2⟩
        · rw [List.mem_singleton.1 hm]
          exact ⟨by show (0 : Int) ≤ (k : Int); omega, by show (k : Int) < ((k + 1 : Nat) : Int); omega, hc.2, _, rfl⟩
    · rw [if_neg hc, List.append_nil]
      exact ⟨h1, fun c hm => by have := h2 c hm; exact ⟨this.1, by have := this.2.1; omega, this.2.2⟩⟩
theorem made_mat {g : List Gt} {refs : List Int} (hp : 1 ≤ g.length) (h : ∀ r ∈ refs, Ok g r) (raw : List Nat) (k : Nat) : Mat g (madeC refs raw k) :=
  ⟨(madeC_all refs raw k).1, fun c hc => by
    obtain ⟨_, _, h3, n, h4⟩ := (madeC_all refs raw k).2 c hc
    exact ⟨by rw [h4]; exact pick_ok hp h n, h3⟩⟩
end Go.Proofs.Ythdhmflodiincaa

namespace Go.Proofs.Ythdhmflodiincaa
open Go.RowKit Go.Maps

theorem GatesW.take {w : World} {a : Option Addr} {c : Nat} {gs : List Gt} (h : GatesW w a c gs) (n : Nat) : GatesW w a c (gs.take n) := by
  obtain ⟨hc, h | ⟨b, o, ha, ht, hz⟩⟩ := h
  · exact ⟨by rw [List.length_take]; omega, .inl (by rw [h]; simp)⟩
  · refine ⟨by rw [List.length_take]; omega, .inr ⟨b, o, ha, ht, fun j g hj => hz j g ?_⟩⟩
    rw [List.getElem?_take] at hj
    split at hj
    · exact hj
    · cases hj
end Go.Proofs.Ythdhmflodiincaa

namespace Go.Proofs.Ythdhmflodiincaa

def Cst (r : Int) : Prop := r = 0 ∨ r = 1
def C0 (m : List Cl) : Prop := ∀ c ∈ m, c.2 = 0
theorem C0.at {m : List Cl} (h : C0 m) (k : Int) : Cst (atM m k) := by
  rcases @atM_mem m k with e | e
  · exact Or.inr e
  · exact Or.inl (h _ e)
theorem cst_opP {f : Int → Pr Int} (hf : ∀ k, (f k).cst Cst) (L : List Int) : (opP f L).cst C0 :=
  cst_foldP (I := C0) (fun m k hm => Pr.cst_bind _ (Pr.cst_mono (fun r hr => by
    show C0 (keptM m k r)
    unfold keptM
    split
    · exact hm
    · rename_i h1
      intro c hc
      rcases List.mem_append.1 hc with h | h
      · exact hm c h
      · rw [List.mem_singleton] at h
        subst h
        rcases hr with h | h
        · exact h
        · exact absurd h h1) _ (hf k))) L [] (fun _ h => by cases h)
theorem cst_union {a b : List Cl} (ha : C0 a) (hb : C0 b) : (munionP a b).cst C0 := cst_opP (fun k => by
  unfold unionF
  split
  · split
    · exact cst_orP (ha.at k) (hb.at k)
    · exact ha.at k
  · exact hb.at k) _
theorem mem_jPairs {n rest : Int} {a b : List Cl} {p : Cl × Cl} (h : p ∈ jPairs n rest a b) : p.1 ∈ a ∧ p.2 ∈ b := mem_pairs.1 (List.mem_filter.1 h).1
theorem cst_foldP_mem {σ β : Type} {f : σ → β → Pr σ} {I : σ → Prop} : ∀ (l : List β) (s : σ), (∀ s, ∀ x ∈ l, I s → (f s x).cst I) → I s → (foldP f l s).cst I
  | [], _, _, h => h
  | x :: l, s, hf, h => Pr.cst_bind _ (Pr.cst_mono (fun a ha => cst_foldP_mem l a (fun s y hy => hf s y (List.mem_cons_of_mem _ hy)) ha) _ (hf s x (List.mem_cons_self ..) h))
theorem cst_join {n rest : Int} {total : Nat} {a b : List Cl} (ha : C0 a) (hb : C0 b) : (mjoinP n rest total a b).cst C0 := by
  unfold mjoinP
  refine Pr.cst_bind _ (Pr.cst_mono (fun t ht => cst_opP (f := fun k => .ret (t k)) (fun k => ht k) _) _ (cst_foldP_mem (I := fun s : Int → Int => ∀ k, Cst (s k)) _ _ (fun s p hp hs => ?_) (fun _ => Or.inr rfl)))
  obtain ⟨h1, h2⟩ := mem_jPairs hp
  unfold jF
  refine Pr.cst_bind _ (Pr.cst_mono (fun t ht => Pr.cst_bind _ (Pr.cst_mono (fun r hr => ?_) _ (cst_orP (hs _) ht))) _ (cst_andP (Or.inl (ha _ h1)) (Or.inl (hb _ h2))))
  intro k
  show Cst (if k = jr n rest p then r else s k)
  split
  · exact hr
  · exact hs k
theorem cst_square {n : Nat} {m : List Cl} (hm : C0 m) : (squareP n m).cst C0 := Pr.cst_bind _ (Pr.cst_mono (fun _ ht => cst_union hm ht) _ (cst_join hm hm))
theorem cst_stepw {n : Nat} {a m : List Cl} (ha : C0 a) (hm : C0 m) : (stepwP n a m).cst C0 := Pr.cst_bind _ (Pr.cst_mono (fun _ ht => cst_union ha ht) _ (cst_join hm ha))
theorem cst_rounds {f : List Cl → Pr (List Cl)} (hf : ∀ m, C0 m → (f m).cst C0) (k : Nat) {m : List Cl} (hm : C0 m) : (roundsP f k m).cst C0 := cst_foldP (I := C0) (fun s _ hs => hf s hs) _ m hm
theorem smP_cst {n : Nat} {gs : List Gt} {a : List Cl} (hG : Good gs) (ha : C0 a) : (smP n gs a).1 = gs ∧ C0 (smP n gs a).2 := by
  have h1 := Pr.cst_run _ hG (cst_rounds (f := squareP n) (fun m hm => cst_square hm) (sqR n) ha)
  have h2 := Pr.cst_run _ hG (cst_rounds (f := stepwP n a) (fun m hm => cst_stepw ha hm) (n - 1) ha)
  unfold smP
  split
  · exact h2
  · exact h1
theorem acR_cst {n : Nat} {gs : List Gt} {a : List Cl} (hG : Good gs) (ha : C0 a) : (acR n gs a).1 = gs ∧ Cst (acR n gs a).2 := by
  obtain ⟨h1, h2⟩ := smP_cst (n := n) hG ha
  unfold acR
  rw [h1]
  refine Pr.cst_run _ hG (cst_foldP (I := Cst) (fun r x hr => ?_) _ 0 (Or.inl rfl))
  exact cst_andP hr (not_const (h2.at _))
theorem validGo_of {g : List Gt} : ∀ {m : List Cl} {b : Int}, Mat g m → (∀ c ∈ m, b < c.1) → validGo g.length b m = true
  | [], _, _, _ => rfl
  | x :: m, b, h, hb => by
    obtain ⟨h1, h2⟩ := upM_cons.1 h.1
    have h3 := h.2 x (List.mem_cons_self ..)
    have h4 := h3.1
    unfold Ok at h4
    have h5 := hb x (List.mem_cons_self ..)
    unfold validGo okC
    rw [decide_eq_false (by omega), decide_eq_false (by omega), decide_eq_false (by omega), beq_false_of_ne h3.2, validGo_of ⟨h2, fun c hc => h.2 c (List.mem_cons_of_mem _ hc)⟩ h1]
    rfl
theorem validM_of {g : List Gt} {m : List Cl} {ar : Int} (h : Mat g m) (hr : ∀ c ∈ m, 0 ≤ c.1) (h1 : 1 ≤ ar) (h2 : ar ≤ 3) : validM g.length ar m = true := by
  unfold validM
  rw [validGo_of h (fun c hc => by have := hr c hc; omega), decide_eq_true h1, decide_eq_true h2]
  rfl
end Go.Proofs.Ythdhmflodiincaa

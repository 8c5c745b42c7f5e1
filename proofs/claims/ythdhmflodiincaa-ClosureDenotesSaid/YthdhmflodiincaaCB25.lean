/- Texts of the proof: UO RZ P9. -/
import Derived.Test.YthdhmflodiincaaCB24
import Derived.Test.YthdhmflodiincaaCB20
import Derived.Test.YthdhmflodiincaaCB13
import Derived.Test.YthdhmflodiincaaCB05
import Derived.Test.YthdhmflodiincaaCB10
import Derived.Test.YthdhmflodiincaaCB00
import Derived.Test.YthdhmflodiincaaCB12
import Derived.Deep.DeepCutAuto
import Derived.Test.YthdhmflodiincaaCB16
import Derived.Test.YthdhmflodiincaaCB02
import Derived.Test.YthdhmflodiincaaCB04
import Derived.Test.YthdhmflodiincaaCB23
namespace Go.Proofs.Ythdhmflodiincaa

theorem mem_stepC {n m f t : Nat} {S : List Int} {z : Int} : z ∈ stepC n m f t S ↔ z ∈ S ∨ (z = ((f * n + t : Nat) : Int) ∧ ((f * n + m : Nat) : Int) ∈ S ∧ ((m * n + t : Nat) : Int) ∈ S) := by
  unfold stepC
  by_cases h : ((f * n + m : Nat) : Int) ∈ S ∧ ((m * n + t : Nat) : Int) ∈ S
  · rw [if_pos h, List.mem_append, List.mem_singleton]
    exact ⟨fun h' => h'.elim .inl fun e => .inr ⟨e, h⟩, fun h' => h'.elim .inl fun e => .inr e.1⟩
  · rw [if_neg h]
    exact ⟨.inl, fun h' => h'.elim id fun e => absurd e.2 h⟩
/-- Whatever holds of the numbers at the start, and of each that a step may put in, holds of all. -/
theorem runT_all {P : Int → Prop} {n m f : Nat} : ∀ (t : Nat) (S : List Int), (∀ z ∈ S, P z) → (∀ t', t' < t → ∀ S' : List Int, (∀ z ∈ S', P z) → ((f * n + m : Nat) : Int) ∈ S' → ((m * n + t' : Nat) : Int) ∈ S' → P ((f * n + t' : Nat) : Int)) → ∀ z ∈ runT n m f t S, P z
  | 0, S, h, _, z, hz => h z hz
  | t + 1, S, h, hs, z, hz => by
    have ih := runT_all t S h (fun t' ht => hs t' (by omega))
    rcases mem_stepC.1 hz with h1 | ⟨rfl, h1, h2⟩
    · exact ih z h1
    · exact hs t (by omega) _ ih h1 h2
theorem runF_all {P : Int → Prop} {n m : Nat} : ∀ (f : Nat) (S : List Int), (∀ z ∈ S, P z) → (∀ f' t', f' < f → t' < n → ∀ S' : List Int, (∀ z ∈ S', P z) → ((f' * n + m : Nat) : Int) ∈ S' → ((m * n + t' : Nat) : Int) ∈ S' → P ((f' * n + t' : Nat) : Int)) → ∀ z ∈ runF n m f S, P z
  | 0, S, h, _, z, hz => h z hz
  | f + 1, S, h, hs, z, hz => runT_all n _ (runF_all f S h (fun f' t' hf ht => hs f' t' (by omega) ht)) (fun t' ht => hs f t' (by omega) ht) z hz
theorem runM_all {P : Int → Prop} {n : Nat} : ∀ (m : Nat) (S : List Int), (∀ z ∈ S, P z) → (∀ m' f' t', m' < m → f' < n → t' < n → ∀ S' : List Int, (∀ z ∈ S', P z) → ((f' * n + m' : Nat) : Int) ∈ S' → ((m' * n + t' : Nat) : Int) ∈ S' → P ((f' * n + t' : Nat) : Int)) → ∀ z ∈ runM n m S, P z
  | 0, S, h, _, z, hz => h z hz
  | m + 1, S, h, hs, z, hz => runF_all n _ (runM_all m S h (fun m' f' t' hm hf ht => hs m' f' t' (by omega) hf ht)) (fun f' t' hf ht => hs m f' t' (by omega) hf ht) z hz
/-- The tuple of rank z is there. -/
abbrev Hs (L : List Int) (z : Nat) : Prop := ((z : Nat) : Int) ∈ L
/-- A number is a pair. -/
theorem pair_of {q z p : Nat} (hq : 0 < q) (h : z < p * q) : ∃ u v, u < p ∧ v < q ∧ z = u * q + v :=
  ⟨z / q, z % q, Nat.div_lt_of_lt_mul (by rw [Nat.mul_comm]; exact h), Nat.mod_lt _ hq, by rw [Nat.mul_comm]; exact (Nat.div_add_mod z q).symm⟩
theorem pair_div {q u v : Nat} (hv : v < q) : (u * q + v) / q = u := by rw [Nat.mul_comm, Nat.mul_add_div (by omega), Nat.div_eq_of_lt hv, Nat.add_zero]
theorem pair_mod {q u v : Nat} (hv : v < q) : (u * q + v) % q = v := by rw [Nat.mul_comm, Nat.mul_add_mod, Nat.mod_eq_of_lt hv]
theorem pair_inj {q u v u' v' : Nat} (hv : v < q) (hv' : v' < q) (h : u * q + v = u' * q + v') : u = u' ∧ v = v' := by
  have h1 := congrArg (· / q) h
  have h2 := congrArg (· % q) h
  simp only [pair_div hv, pair_div hv', pair_mod hv, pair_mod hv'] at h1 h2
  exact ⟨h1, h2⟩
theorem runT_mono {n m f : Nat} {z : Int} : ∀ (t : Nat) (S : List Int), z ∈ S → z ∈ runT n m f t S
  | 0, _, h => h
  | t + 1, S, h => mem_stepC.2 (.inl (runT_mono t S h))
theorem runF_mono {n m : Nat} {z : Int} : ∀ (f : Nat) (S : List Int), z ∈ S → z ∈ runF n m f S
  | 0, _, h => h
  | f + 1, S, h => runT_mono n _ (runF_mono f S h)
theorem runM_mono {n : Nat} {z : Int} : ∀ (m : Nat) (S : List Int), z ∈ S → z ∈ runM n m S
  | 0, _, h => h
  | m + 1, S, h => runF_mono n _ (runM_mono m S h)
theorem runT_has {n m f t' : Nat} : ∀ (t : Nat) (S : List Int), t' < t → Hs S (f * n + m) → Hs S (m * n + t') → Hs (runT n m f t S) (f * n + t')
  | 0, _, h, _, _ => by omega
  | t + 1, S, h, h1, h2 => by
    rcases Nat.lt_or_ge t' t with h' | h'
    · exact mem_stepC.2 (.inl (runT_has t S h' h1 h2))
    · obtain rfl : t' = t := by omega
      exact mem_stepC.2 (.inr ⟨rfl, runT_mono _ _ h1, runT_mono _ _ h2⟩)
theorem runF_has {n m f' t' : Nat} (ht : t' < n) : ∀ (f : Nat) (S : List Int), f' < f → Hs S (f' * n + m) → Hs S (m * n + t') → Hs (runF n m f S) (f' * n + t')
  | 0, _, h, _, _ => by omega
  | f + 1, S, h, h1, h2 => by
    rcases Nat.lt_or_ge f' f with h' | h'
    · exact runT_mono _ _ (runF_has ht f S h' h1 h2)
    · obtain rfl : f' = f := by omega
      exact runT_has n _ ht (runF_mono _ _ h1) (runF_mono _ _ h2)
/-- One round of the outer loop: paths through one atom more. -/
theorem runF_iff {n m x y : Nat} {S : List Int} (hm : m < n) (hx : x < n) (hy : y < n) (_hS : ∀ z ∈ S, ∃ u v, u < n ∧ v < n ∧ z = ((u * n + v : Nat) : Int)) :
    Hs (runF n m n S) (x * n + y) ↔ Hs S (x * n + y) ∨ (Hs S (x * n + m) ∧ Hs S (m * n + y)) := by
  constructor
  · intro h
    have key := runF_all (P := fun z => ∀ u v, u < n → v < n → z = ((u * n + v : Nat) : Int) → Hs S (u * n + v) ∨ (Hs S (u * n + m) ∧ Hs S (m * n + v))) (n := n) (m := m) n S
      (fun z hz u v hu hv e => .inl (by rw [Hs, ← e]; exact hz))
      (fun f' t' hf ht S' hS' h1 h2 u v hu hv e => by
        obtain ⟨rfl, rfl⟩ := pair_inj hv ht (by omega : u * n + v = f' * n + t')
        refine .inr ⟨?_, ?_⟩
        · exact (hS' _ h1 u m hu hm rfl).elim id And.left
        · exact (hS' _ h2 m v hm hv rfl).elim id And.right)
    exact key _ h x y hx hy rfl
  · rintro (h | ⟨h1, h2⟩)
    · exact runF_mono _ _ h
    · exact runF_has hy n S hx h1 h2
theorem runM_pairs {n : Nat} (m : Nat) (_hmn : m ≤ n) {S : List Int} (hS : ∀ z ∈ S, ∃ u v, u < n ∧ v < n ∧ z = ((u * n + v : Nat) : Int)) : ∀ z ∈ runM n m S, ∃ u v, u < n ∧ v < n ∧ z = ((u * n + v : Nat) : Int) :=
  runM_all (P := fun z => ∃ u v, u < n ∧ v < n ∧ z = ((u * n + v : Nat) : Int)) m S hS (fun _ f' t' _ hf ht _ _ _ _ => ⟨f', t', hf, ht, rfl⟩)
theorem runM_closed {n : Nat} : ∀ (M : Nat), M ≤ n → ∀ {S : List Int}, (∀ z ∈ S, ∃ u v, u < n ∧ v < n ∧ z = ((u * n + v : Nat) : Int)) →
    ∀ m x y, m < M → x < n → y < n → Hs (runM n M S) (x * n + m) → Hs (runM n M S) (m * n + y) → Hs (runM n M S) (x * n + y)
  | 0, _, _, _, m, _, _, hm, _, _, _, _ => by omega
  | M + 1, hM, S, hS, m, x, y, hm, hx, hy, h1, h2 => by
    have ih := runM_closed M (by omega) hS
    have hp := runM_pairs M (by omega) hS
    have it := fun {x y : Nat} (hx : x < n) (hy : y < n) => runF_iff (m := M) (S := runM n M S) (by omega) hx hy hp
    change Hs (runF n M n (runM n M S)) _ at h1 h2
    change Hs (runF n M n (runM n M S)) _
    rcases Nat.lt_or_ge m M with hmM | hmM
    · rw [it hx (by omega)] at h1
      rw [it (by omega) hy] at h2
      rw [it hx hy]
      rcases h1 with h1 | ⟨h1, h1'⟩ <;> rcases h2 with h2 | ⟨h2, h2'⟩
      · exact .inl (ih m x y hmM hx hy h1 h2)
      · exact .inr ⟨ih m x M hmM hx (by omega) h1 h2, h2'⟩
      · exact .inr ⟨h1, ih m M y hmM (by omega) hy h1' h2⟩
      · exact .inr ⟨h1, h2'⟩
    · obtain rfl : m = M := by omega
      rw [it hx (by omega)] at h1
      rw [it (by omega) hy] at h2
      rw [it hx hy]
      exact .inr ⟨h1.elim id And.left, h2.elim id And.right⟩

/-- What the closure holds: the pairs with a path between them. -/
theorem clos_way {n : Nat} {A : List Int} (hA : ∀ z ∈ A, ∃ u v, u < n ∧ v < n ∧ z = ((u * n + v : Nat) : Int)) {x y : Nat} (hx : x < n) (hy : y < n) : Hs (uniq (closS n A)) (x * n + y) ↔ Way (fun x y => Hs A (x * n + y)) n n x y := by
  constructor
  · intro h
    have key := runM_all (P := fun z => ∀ u v, u < n → v < n → z = ((u * n + v : Nat) : Int) → Way (fun x y => Hs A (x * n + y)) n n u v) (n := n) n A
      (fun z hz u v hu hv e => ((way_one hu hv).2 (by rw [Hs, ← e]; exact hz)).wide (by omega))
      (fun m' f' t' hm hf ht S' hS' h1 h2 u v hu hv e => by
        obtain ⟨rfl, rfl⟩ := pair_inj hv ht (by omega : u * n + v = f' * n + t')
        exact ((hS' _ h1 u m' hu hm rfl).join (hS' _ h2 m' v hm hv rfl)).short)
    exact key _ (mem_uniq.1 h) x y hx hy rfl
  · rintro ⟨m, v, h1, _, rfl, rfl, hv, hr⟩
    rw [Hs, mem_uniq]
    have hb : ∀ i, i < m → Hs (closS n A) (v 0 * n + v (i + 1)) := by
      intro i
      induction i with
      | zero => exact fun h => runM_mono _ _ (hr 0 h)
      | succ i ih => exact fun h => runM_closed n (Nat.le_refl _) hA (v (i + 1)) (v 0) (v (i + 2)) (hv _ (by omega)) (hv _ (by omega)) (hv _ (by omega)) (ih (by omega)) (runM_mono _ _ (hr (i + 1) h))
    have := hb (m - 1) (by omega)
    rwa [Nat.sub_add_cancel h1] at this
/-- The pairs that a binary matrix denotes. -/
theorem val_pairs {n : Nat} {g : List Gt} {m : List Cl} (hs : Sq n g m) (v : List Bool) : ∀ z ∈ valL g v m, ∃ x y, x < n ∧ y < n ∧ z = ((x * n + y : Nat) : Int) := fun z hz => by
  unfold valL at hz
  obtain ⟨c, hc, rfl⟩ := List.mem_map.1 hz
  obtain ⟨h0, h1⟩ := hs.2 c (List.mem_filter.1 hc).1
  obtain ⟨k, hk⟩ : ∃ k : Nat, c.1 = (k : Int) := ⟨c.1.toNat, by omega⟩
  have hk2 : k < n * n := by rw [hk] at h1; exact_mod_cast h1
  obtain ⟨x, y, hx, hy, e⟩ := pair_of (by rcases Nat.eq_zero_or_pos n with rfl | h; omega; exact h) hk2
  exact ⟨x, y, hx, hy, by rw [hk, e]⟩
theorem val_rel {n : Nat} {g : List Gt} {m : List Cl} (hG : Good g) (hs : Sq n g m) (v : List Bool) (x y : Nat) : Hs (valL g v m) (x * n + y) ↔ relM g v n m x y := by
  rw [Hs, mem_valL hG hs.1.1 v]
  unfold relM
  rw [show ((x * n + y : Nat) : Int) = (x : Int) * n + y by simp]
/-- A matrix whose pairs are the paths of another denotes its closure. -/
theorem val_clos {n : Nat} {gs g : List Gt} {a m : List Cl} (hG : Good gs) (ha : Sq n gs a) (hg : Good g) (hm : Sq n g m) (v : List Bool) (h : ∀ x y, x < n → y < n → (relM g v n m x y ↔ Way (relM gs v n a) n n x y)) : valL g v m = uniq (closS n (valL gs v a)) := by
  have hA := val_pairs ha v
  have hw : ∀ x y, x < n → y < n → (Hs (valL g v m) (x * n + y) ↔ Hs (uniq (closS n (valL gs v a))) (x * n + y)) := fun x y hx hy => by
    rw [val_rel hg hm, h x y hx hy, clos_way hA hx hy]
    have e : (fun x y => Hs (valL gs v a) (x * n + y)) = relM gs v n a := by
      funext x y
      exact propext (val_rel hG ha v x y)
    rw [e]
  refine up_ext (val_up hm.1.1 v) (uniq_up _) fun z => ?_
  constructor
  · intro hz
    obtain ⟨x, y, hx, hy, rfl⟩ := val_pairs hm v z hz
    exact (hw x y hx hy).1 hz
  · intro hz
    obtain ⟨x, y, hx, hy, rfl⟩ := runM_pairs n (Nat.le_refl _) hA z (mem_uniq.1 hz)
    exact (hw x y hx hy).2 hz
theorem stQ_val {n : Nat} {gs : List Gt} {a : List Cl} (hG : Good gs) (ha : Sq n gs a) (hn : n ≤ 4) (hl : gs.length ≤ 1000) (v : List Bool) : valL (stQ n gs a (sqR n)).1 v (stQ n gs a (sqR n)).2 = uniq (closS n (valL gs v a)) := by
  obtain ⟨q1, q2, q3, q4, q5⟩ := stQ_ok hG ha hn hl (sqR n) (Nat.le_trans (sqR_le n) (by decide))
  exact val_clos hG ha q1 q4 v fun x y hx hy => by
    rw [q5 v x y hx hy]
    exact ⟨fun h => h.short, fun h => h.wide (sqR_way n hn)⟩
theorem stS_val {n : Nat} {gs : List Gt} {a : List Cl} (hG : Good gs) (ha : Sq n gs a) (hn1 : 1 ≤ n) (hn : n ≤ 4) (hl : gs.length ≤ 1000) (v : List Bool) : valL (stS n gs a (n - 1)).1 v (stS n gs a (n - 1)).2 = uniq (closS n (valL gs v a)) := by
  obtain ⟨q1, q2, q3, q4, q5⟩ := stS_ok hG ha hn hl (n - 1) (by omega)
  exact val_clos hG ha q1 q4 v fun x y hx hy => by rw [q5 v x y hx hy, Nat.sub_add_cancel hn1]
theorem smP_val {n : Nat} {gs : List Gt} {a : List Cl} (hG : Good gs) (ha : Sq n gs a) (hn1 : 1 ≤ n) (hn : n ≤ 4) (hl : gs.length ≤ 1000) (v : List Bool) : valL (smP n gs a).1 v (smP n gs a).2 = uniq (closS n (valL gs v a)) := by
  obtain ⟨q1, q2, q3, q4, q5⟩ := smP_ok hG ha hn1 hn hl
  exact val_clos hG ha q1 q4 v fun x y hx hy => q5 v x y hx hy
end Go.Proofs.Ythdhmflodiincaa

namespace Go.Proofs.Ythdhmflodiincaa

theorem valE_valL {g : List Gt} {v : List Bool} {m : List Cl} (h : ∀ c ∈ m, Ok g c.2) : valE g v m = valL g v m := by
  unfold valE valL
  rw [List.filter_congr (fun c hc => eval_val (h c hc))]
theorem madeC_next (refs : List Int) (raw : List Nat) (k : Nat) : madeC refs raw (k + 1) = madeC refs raw k ++ (if (raw.getD k 0) % 2 = 1 ∧ pickL refs (raw.getD k 0 / 2) ≠ 1 then [((k : Int), pickL refs (raw.getD k 0 / 2))] else []) := by
  unfold madeC
  rw [List.range_succ, List.filterMap_append, List.filterMap_cons, List.filterMap_nil]
  by_cases hc : (raw.getD k 0) % 2 = 1 ∧ pickL refs (raw.getD k 0 / 2) ≠ 1
  · rw [if_pos hc, if_pos hc]
  · rw [if_neg hc, if_neg hc]
theorem madeC_all (refs : List Int) (raw : List Nat) : ∀ k, UpM (madeC refs raw k) ∧ ∀ c ∈ madeC refs raw k, 0 ≤ c.1 ∧ c.1 < (k : Int) ∧ c.2 ≠ 1 ∧ ∃ n, c.2 = pickL refs n
  | 0 => ⟨by unfold UpM madeC; simp, fun c hc => by simp [madeC] at hc⟩
  | k + 1 => by
    obtain ⟨h1, h2⟩ := madeC_all refs raw k
    rw [madeC_next]
    by_cases hc : (raw.getD k 0) % 2 = 1 ∧ pickL refs (raw.getD k 0 / 2) ≠ 1
    · rw [if_pos hc]
      refine ⟨?_, fun c hm => ?_⟩
      · unfold UpM at h1 ⊢
        rw [List.map_append, List.pairwise_append]
        refine ⟨h1, by simp, fun x hx y hy => ?_⟩
        obtain ⟨c, hc', rfl⟩ := List.mem_map.1 hx
        simp at hy
        subst hy
        exact (h2 c hc').2.1
      · rcases List.mem_append.1 hm with hm | hm
        · have := h2 c hm
          exact ⟨this.1, by have := this.2.1; omega, this.2.2⟩
        · rw [List.mem_singleton.1 hm]
          exact ⟨by show (0 : Int) ≤ (k : Int); omega, by show (k : Int) < ((k + 1 : Nat) : Int); omega, hc.2, _, rfl⟩
    · rw [if_neg hc, List.append_nil]
      exact ⟨h1, fun c hm => by have := h2 c hm; exact ⟨this.1, by have := this.2.1; omega, this.2.2⟩⟩
theorem made_mat {g : List Gt} {refs : List Int} (hp : 1 ≤ g.length) (h : ∀ r ∈ refs, Ok g r) (raw : List Nat) (k : Nat) : Mat g (madeC refs raw k) :=
  ⟨(madeC_all refs raw k).1, fun c hc => by
    obtain ⟨_, _, h3, n, h4⟩ := (madeC_all refs raw k).2 c hc
    exact ⟨by rw [h4]; exact pick_ok hp h n, h3⟩⟩
open Go.RowKit in
theorem value_at {g : List Gt} {vs : List Bool} {m : List Cl} {na : Nat} {xa ma va : Option Addr} {xc mc vc : Nat} {w : World} (ar : Int) (hna : m.length = na) (hv8 : vs.length = 8) (hG : Good g) (hl : g.length ≤ 1000) (hok : ∀ c ∈ m, Ok g c.2) (hn : na ≤ 1000) (h : GatesW w xa xc g) (hm : CellsW w ma mc m) (hv : BoolsW w va vc vs) :
    Calls Try.prog 34 #[.agg #[.slice xa g.length xc], .agg #[.int .i64 ar, .slice ma na mc], .slice va 8 vc] w fun e w' => ∃ b nv d, e = .returned (.agg #[.int .i64 ar, .slice b nv d]) ∧ (valL g vs m).length = nv ∧ IntsW w' b d (valL g vs m) ∧ w.grownBy w' none := by
  subst hna
  have h1 := mvalue_calls g m vs ar xa xc ma mc va vc w h hm hv hl hn (by omega) (good_bounds hG (by omega)) (fun x hx => by have := hok x hx; unfold Ok at this; omega)
  rw [hv8, valE_valL hok] at h1
  refine h1.mono fun e w' he => ?_
  obtain ⟨b, d, rfl, hi, hg⟩ := he
  exact ⟨b, _, d, rfl, rfl, hi.weak, hg⟩
end Go.Proofs.Ythdhmflodiincaa

namespace Go.Proofs.Ythdhmflodiincaa
open Go.RowKit Go.Maps

theorem value15_at {g : List Gt} {vs : List Bool} {m : List Cl} {C : List Int} {na nC : Nat} {xa ma va : Option Addr} {xc mc vc : Nat} {w : World} (ar : Int) (hC : valL g vs m = C) (hnC : C.length = nC) (hna : m.length = na) (hv8 : vs.length = 8) (hG : Good g) (hl : g.length ≤ 1000) (hok : ∀ c ∈ m, Ok g c.2) (hn : na ≤ 1000) (h : GatesW w xa xc g) (hm : CellsW w ma mc m) (hv : BoolsW w va vc vs) :
    Calls Try.prog 34 #[.agg #[.slice xa g.length xc], .agg #[.int .i64 ar, .slice ma na mc], .slice va 8 vc] w fun e w' => ∃ b d, e = .returned (.agg #[.int .i64 ar, .slice b nC d]) ∧ IntsW w' b d C ∧ w.grownBy w' none := by
  refine (value_at ar hna hv8 hG hl hok hn h hm hv).mono fun e w' he => ?_
  obtain ⟨b, nv, d, rfl, hl2, hi, hg⟩ := he
  rw [hC] at hl2 hi
  exact ⟨b, d, by rw [← hl2, hnC], hi, hg⟩
theorem stQ_okL {n : Nat} {gs : List Gt} {a : List Cl} (hG : Good gs) (ha : Sq n gs a) (hn : n ≤ 4) (hl : gs.length ≤ 1000) : Good (stQ n gs a (sqR n)).1 ∧ gs <+: (stQ n gs a (sqR n)).1 ∧ (stQ n gs a (sqR n)).1.length ≤ gs.length + roundC n * 2 ∧ Sq n (stQ n gs a (sqR n)).1 (stQ n gs a (sqR n)).2 ∧ True := by
  obtain ⟨q1, q2, q3, q4, q5⟩ := stQ_ok hG ha hn hl (sqR n) (Nat.le_trans (sqR_le n) (by decide))
  exact ⟨q1, q2, Nat.le_trans q3 (Nat.add_le_add_left (Nat.mul_le_mul_left _ (sqR_le n)) _), q4, trivial⟩
theorem stS_okL {n : Nat} {gs : List Gt} {a : List Cl} (hG : Good gs) (ha : Sq n gs a) (hn : n ≤ 4) (hl : gs.length ≤ 1000) : Good (stS n gs a (n - 1)).1 ∧ gs <+: (stS n gs a (n - 1)).1 ∧ (stS n gs a (n - 1)).1.length ≤ gs.length + roundC n * 3 ∧ Sq n (stS n gs a (n - 1)).1 (stS n gs a (n - 1)).2 ∧ True := by
  obtain ⟨q1, q2, q3, q4, q5⟩ := stS_ok hG ha hn hl (n - 1) (by omega)
  exact ⟨q1, q2, Nat.le_trans q3 (Nat.add_le_add_left (Nat.mul_le_mul_left _ (by omega)) _), q4, trivial⟩
set_option maxRecDepth 100000 in
set_option maxHeartbeats 4000000 in
theorem denotes_calls (s bt : Nat) (l : List Stp) (X : List Nat) (nl nx : Nat) (sa xa : Option Addr) (sc xc : Nat) (w : World) (hs : s < 256) (hbt : bt < 256) (hnl : l.length = nl) (hnx : X.length = nx)
    (hl : StpsW w sa sc l) (ho : ∀ s ∈ l, StpOk s) (hx : U8W w xa xc X) (hxb : ∀ z ∈ X, z < 256) (hxm : (X.length : Int) ≤ 9223372036854775807) :
    Calls Try.prog 9 #[.int .u8 (s : Int), .slice sa nl sc, .slice xa nx xc, .int .u8 (bt : Int)] w fun e w' => e = .returned (.bool true) ∧ w.grownBy w' none := by
  have HG := Lib.hid (grown_refl w none)
  obtain ⟨n, hn⟩ : ∃ z, s % 4 + 1 = z := ⟨_, rfl⟩
  have HNK := Lib.hid (show 1 ≤ n ∧ n ≤ 4 ∧ s < 256 ∧ s % 4 + 1 = n from by omega)
  clear hn
  have HL := Lib.hid hl
  have HX := Lib.hid hx
  have HSO := Lib.hid ho
  have HXB := Lib.hid (And.intro hxb hxm)
  have HLN := Lib.hid (And.intro hnl hnx)
  clear hl hx ho hxb hxm hnl hnx hs
  have HV := Lib.hid (fun (U : World) => values15_calls bt hbt U)
  go_enter Try.func9, Try.ntmps9
  go_wp2_with fail
  refine (head15_calls _).mono ?_
  rintro e V1 ⟨rfl, g⟩
  replace HL := Lib.hid (HL.out.grown g)
  replace HX := Lib.hid (HX.out.grown g)
  replace HG := Lib.hid (World.grownBy.trans HG.out g)
  clear g
  by_cases hbig : 20 < nl
  · have f1 : decide (20 < nl) = true := decide_eq_true hbig
    have f2 : decide ((20 : Int) < (nl : Int)) = true := decide_eq_true (by omega)
    go_wp2_with fail
    go_ret
    exact ⟨rfl, HG.out⟩
  · have f1 : decide (20 < nl) = false := decide_eq_false hbig
    have f2 : decide ((20 : Int) < (nl : Int)) = false := decide_eq_false (by omega)
    obtain ⟨qb, hqb⟩ : ∃ z, buildC l = z := ⟨_, rfl⟩
    obtain ⟨g, refs⟩ := qb
    have hbu := built l (by rw [HLN.out.1]; omega)
    rw [hqb] at hbu
    have HBU := Lib.hid (show Good g ∧ g.length ≤ 61 ∧ refs.length ≤ 20 ∧ ∀ r ∈ refs, Ok g r from ⟨hbu.good, by have h1 := hbu.len; have h2 := HLN.out.1; simp only at h1; omega, by have h1 := hbu.refs; have h2 := HLN.out.1; simp only at h1; omega, hbu.ok⟩)
    obtain ⟨t, ht⟩ : ∃ z, min (n ^ 2) nx = z := ⟨_, rfl⟩
    have hT : t ≤ n ^ 2 := by rw [← ht]; exact Nat.min_le_left _ _
    have hM := made_mat HBU.out.1.pos HBU.out.2.2.2 X t
    have hR := (madeC_all refs X t).2
    obtain ⟨A, hA⟩ : ∃ z, madeC refs X t = z := ⟨_, rfl⟩
    rw [hA] at hM hR
    have HMA := Lib.hid (show Sq n g A from ⟨hM, fun c hc => ⟨(hR c hc).1, by have h1 := (hR c hc).2.1; have h3 : (t : Int) ≤ ((n ^ 2 : Nat) : Int) := Int.ofNat_le.2 hT; rw [Nat.pow_two, Int.natCast_mul] at h3; exact Int.lt_of_lt_of_le h1 h3⟩⟩)
    have HBC := Lib.hid (fun (U : World) (hU : w.grownBy U none) (h1 : StpsW U sa sc l) (h2 : U8W U xa xc X) => made15_calls s n l X g refs A nl nx g.length sa xa sc xc U HNK.out.2.2.1 HNK.out.2.2.2 HLN.out.1 HLN.out.2 rfl (by omega) h1 HSO.out h2 HXB.out.1 (by have := HXB.out.2; omega) hqb (by rw [ht]; exact hA))
    have hrc := roundC_le HNK.out.2.1
    have HRC := Lib.hid (show g.length + roundC n * 2 ≤ 440 from by have := HBU.out.2.1; omega)
    clear hqb hbu hbig hM hR hT ht hA hrc
    go_wp2_with fail
    clear f1 f2
    refine (HBC.out _ HG.out HL.out HX.out).mono ?_
    rintro e V2 ⟨a0, c0, aA, mA, cA, rfl, hlA, hr, hm, g1⟩
    clear HBC HL HX
    replace HG := Lib.hid (World.grownBy.trans HG.out g1)
    clear g1
    go_upto_region 5 with fail
    have h1 := CB.new hr
    have gw := World.grownBy_alloc V2 (.cells #[.slice a0 g.length c0] 30) none
    obtain ⟨V3, hU⟩ : ∃ z, World.alloc V2 (.cells #[.slice a0 g.length c0] 30) = z := ⟨_, rfl⟩
    have hsU : V3.heap.size = V2.heap.size + 1 := by rw [← hU]; simp
    rw [hU] at gw h1 ⊢
    clear hU
    obtain ⟨bc, hbb⟩ : ∃ b, V2.heap.size = b := ⟨_, rfl⟩
    rw [hbb] at h1 hsU ⊢
    clear hbb
    replace hm := hm.grown gw
    replace HG := Lib.hid (World.grownBy.trans HG.out gw)
    clear gw
    have hb := XB.new (2 : Int) hm hlA
    have gw := World.grownBy_alloc V3 (.cells #[.int .i64 2, .slice aA mA cA] 26) none
    obtain ⟨V4, hU⟩ : ∃ z, World.alloc V3 (.cells #[.int .i64 2, .slice aA mA cA] 26) = z := ⟨_, rfl⟩
    rw [hU] at gw hb ⊢
    clear hU
    rw [hsU] at hb
    clear hsU
    obtain ⟨ba, hbb⟩ : ∃ b, bc + 1 = b := ⟨_, rfl⟩
    rw [hbb] at hb ⊢
    clear hbb
    replace h1 := h1.grown gw
    replace HG := Lib.hid (World.grownBy.trans HG.out gw)
    clear gw
    have Hc := Lib.hid h1
    clear h1
    have Ha := Lib.hid hb
    clear hb
    clear hr hm hlA
    have qc := Hc.out.1
    have qa := Ha.out.1
    have ra := Ha.out.2.1
    go_wp2_with fail
    clear qc qa ra
    refine (HV.out _).mono ?_
    rintro e V5 ⟨av, cv, rfl, hv, g1⟩
    obtain ⟨vs, hvs⟩ : ∃ z, valsL bt = z := ⟨_, rfl⟩
    have HVL := Lib.hid (show vs.length = 8 from by rw [← hvs]; exact valsL_len bt)
    rw [hvs] at hv
    clear hvs HV
    replace Hc := Lib.hid (Hc.out.grown g1)
    replace Ha := Lib.hid (Ha.out.grown g1)
    replace HG := Lib.hid (World.grownBy.trans HG.out g1)
    clear g1
    have HVV := Lib.hid hv
    clear hv
    have qc := Hc.out.1
    have qa := Ha.out.1
    have ra := Ha.out.2.1
    go_wp2_with fail
    clear qc qa ra
    have hlA16 : A.length ≤ 16 := by have h1 := HMA.out.len; have : n * n ≤ 4 * 4 := Nat.mul_le_mul HNK.out.2.1 HNK.out.2.1; omega
    have HLA := Lib.hid hlA16
    clear hlA16
    refine (value_at 2 Ha.out.2.2.1 HVL.out HBU.out.1 (by have := HBU.out; omega) (fun c hc => (HMA.out.1.2 c hc).1) (by have := HLA.out; have := Ha.out.2.2.1; omega) Hc.out.2.2 Ha.out.2.2.2 HVV.out).mono ?_
    rintro e V6 ⟨aP, nP, cP, rfl, hlP, hr, g1⟩
    replace Hc := Lib.hid (Hc.out.grown g1)
    replace Ha := Lib.hid (Ha.out.grown g1)
    replace HVV := Lib.hid (HVV.out.grown g1)
    replace HG := Lib.hid (World.grownBy.trans HG.out g1)
    clear g1
    have hpp := val_pairs HMA.out vs
    have q1 := fun (gq : List Gt) (mq : List Cl) (e : stQ n g A (sqR n) = (gq, mq)) => (show valL gq vs mq = uniq (closS n (valL g vs A)) from by have h := stQ_val HBU.out.1 HMA.out HNK.out.2.1 (by have := HBU.out; omega) vs; rw [e] at h; exact h)
    have q2 := fun (gq : List Gt) (mq : List Cl) (e : stS n g A (n - 1) = (gq, mq)) => (show valL gq vs mq = uniq (closS n (valL g vs A)) from by have h := stS_val HBU.out.1 HMA.out HNK.out.1 HNK.out.2.1 (by have := HBU.out; omega) vs; rw [e] at h; exact h)
    have q3 := fun (gq : List Gt) (mq : List Cl) (e : smP n g A = (gq, mq)) => (show valL gq vs mq = uniq (closS n (valL g vs A)) from by have h := smP_val HBU.out.1 HMA.out HNK.out.1 HNK.out.2.1 (by have := HBU.out; omega) vs; rw [e] at h; exact h)
    have hPl : (valL g vs A).length ≤ 16 := by have h1 := HLA.out; unfold valL; rw [List.length_map]; exact Nat.le_trans (List.length_filter_le _ _) h1
    obtain ⟨P, hP⟩ : ∃ z, valL g vs A = z := ⟨_, rfl⟩
    rw [hP] at hlP hr hpp q1 q2 q3 hPl
    clear hP
    have hPx : ∀ x ∈ P, 0 ≤ x ∧ x ≤ 2000 := fun x hx => by
      obtain ⟨u, v, hu, hv, rfl⟩ := hpp x hx
      have h1 : u * n + v ≤ 3 * 4 + 3 := by have h2 : u * n ≤ 3 * 4 := Nat.mul_le_mul (by have := HNK.out; omega) HNK.out.2.1; have := HNK.out; omega
      omega
    have hcl := relClos_calls n 2 P aP cP V6 hr (by omega) (by have := HNK.out; omega) hPx
    rw [hlP] at hcl
    obtain ⟨C, hC⟩ : ∃ z, uniq (closS n P) = z := ⟨_, rfl⟩
    rw [hC] at hcl q1 q2 q3
    obtain ⟨nC, hnC⟩ : ∃ z, C.length = z := ⟨_, rfl⟩
    rw [hnC] at hcl
    have hC16 : nC ≤ 2000 := by
      have h1 := runM_len n n P
      have h2 : n * (n * n) ≤ 4 * 16 := Nat.mul_le_mul HNK.out.2.1 (Nat.mul_le_mul HNK.out.2.1 HNK.out.2.1)
      have h3 : (uniq (closS n P)).length ≤ (closS n P).length := ofTo_len
      rw [hC, hnC] at h3
      unfold closS at h3
      omega
    have HCL := Lib.hid (And.intro hnC hC16)
    have HV1 := Lib.hid q1
    have HV2 := Lib.hid q2
    have HV3 := Lib.hid q3
    have HCC := Lib.hid hcl
    clear hlP hr hpp hPl hPx hcl hC hnC hC16 q1 q2 q3
    have qc := Hc.out.1
    have qa := Ha.out.1
    have ra := Ha.out.2.1
    go_wp2_with fail
    clear qc qa ra
    refine HCC.out.mono ?_
    rintro e V7 ⟨aC, cC, rfl, hsp, g1⟩
    have hr := hsp.here
    clear hsp HCC
    replace Hc := Lib.hid (Hc.out.grown g1)
    replace Ha := Lib.hid (Ha.out.grown g1)
    replace HVV := Lib.hid (HVV.out.grown g1)
    replace HG := Lib.hid (World.grownBy.trans HG.out g1)
    clear g1
    have qc := Hc.out.1
    have qa := Ha.out.1
    have ra := Ha.out.2.1
    go_upto_region 7 with fail
    clear qc qa ra
    have hb := YB.new (2 : Int) hr HCL.out.1
    have gw := World.grownBy_alloc V7 (.cells #[.int .i64 2, .slice aC nC cC] 47) none
    obtain ⟨V8, hV8⟩ : ∃ z, World.alloc V7 (.cells #[.int .i64 2, .slice aC nC cC] 47) = z := ⟨_, rfl⟩
    have hsV8 : V8.heap.size = V7.heap.size + 1 := by rw [← hV8]; simp
    rw [hV8] at gw hb ⊢
    clear hV8
    obtain ⟨by1, hbb⟩ : ∃ b, V7.heap.size = b := ⟨_, rfl⟩
    rw [hbb] at hb hsV8 ⊢
    clear hbb
    replace Hc := Lib.hid (Hc.out.grown gw)
    replace Ha := Lib.hid (Ha.out.grown gw)
    replace HVV := Lib.hid (HVV.out.grown gw)
    replace HG := Lib.hid (World.grownBy.trans HG.out gw)
    clear gw
    have Hy := Lib.hid hb
    clear hb
    clear hr hsV8
    obtain ⟨gq, mq, hgq⟩ : ∃ x y, stQ n g A (sqR n) = (x, y) := ⟨_, _, rfl⟩
    have o := stQ_okL HBU.out.1 HMA.out HNK.out.2.1 (by have := HBU.out; omega)
    rw [hgq] at o
    have hc := squaring_calls V8 n g A a0 aA c0 cA g.length mA rfl Ha.out.2.2.1 Hc.out.2.2 Ha.out.2.2.2 HBU.out.1 HMA.out HNK.out.1 HNK.out.2.1 HRC.out
    rw [hgq] at hc
    simp only at hc
    have HUgq := Lib.hid (show Good gq ∧ gq.length ≤ 900 ∧ Sq n gq mq ∧ mq.length ≤ 16 ∧ valL gq vs mq = C from ⟨o.1, by have h1 := o.2.2.1; have h2 := HRC.out; simp only at h1; omega, o.2.2.2.1, by have h1 := o.2.2.2.1.len; have : n * n ≤ 4 * 4 := Nat.mul_le_mul HNK.out.2.1 HNK.out.2.1; simp only at h1; omega, HV1.out _ _ hgq⟩)
    have HCgq := Lib.hid hc
    clear o hc hgq
    have qc := Hc.out.1
    have qa := Ha.out.1
    have ra := Ha.out.2.1
    have qy := Hy.out.1
    have ry := Hy.out.2.1
    go_wp2_with fail
    clear qc qa ra qy ry
    refine (HCgq.out).mono ?_
    rintro e V9 ⟨ad, cd, ae, ne, ce, rfl, hn, hr, hm, g1⟩
    replace Hc := Lib.hid (Hc.out.grown g1)
    replace Ha := Lib.hid (Ha.out.grown g1)
    replace Hy := Lib.hid (Hy.out.grown g1)
    replace HVV := Lib.hid (HVV.out.grown g1)
    replace HG := Lib.hid (World.grownBy.trans HG.out g1)
    clear g1
    have qc := Hc.out.1
    have qa := Ha.out.1
    have ra := Ha.out.2.1
    have qy := Hy.out.1
    have ry := Hy.out.2.1
    go_upto_region 8 with fail
    clear qc qa ra qy ry
    have h1 := CB.new hr
    have gw := World.grownBy_alloc V9 (.cells #[.slice ad gq.length cd] 30) none
    obtain ⟨V10, hU⟩ : ∃ z, World.alloc V9 (.cells #[.slice ad gq.length cd] 30) = z := ⟨_, rfl⟩
    have hsU : V10.heap.size = V9.heap.size + 1 := by rw [← hU]; simp
    rw [hU] at gw h1 ⊢
    clear hU
    obtain ⟨bd, hbb⟩ : ∃ b, V9.heap.size = b := ⟨_, rfl⟩
    rw [hbb] at h1 hsU ⊢
    clear hbb
    replace hm := hm.grown gw
    replace Hc := Lib.hid (Hc.out.grown gw)
    replace Ha := Lib.hid (Ha.out.grown gw)
    replace Hy := Lib.hid (Hy.out.grown gw)
    replace HVV := Lib.hid (HVV.out.grown gw)
    replace HG := Lib.hid (World.grownBy.trans HG.out gw)
    clear gw
    have hb := XB.new (2 : Int) hm hn
    have gw := World.grownBy_alloc V10 (.cells #[.int .i64 2, .slice ae ne ce] 26) none
    obtain ⟨V11, hU⟩ : ∃ z, World.alloc V10 (.cells #[.int .i64 2, .slice ae ne ce] 26) = z := ⟨_, rfl⟩
    rw [hU] at gw hb ⊢
    clear hU
    rw [hsU] at hb
    clear hsU
    obtain ⟨be, hbb⟩ : ∃ b, bd + 1 = b := ⟨_, rfl⟩
    rw [hbb] at hb ⊢
    clear hbb
    replace h1 := h1.grown gw
    replace Hc := Lib.hid (Hc.out.grown gw)
    replace Ha := Lib.hid (Ha.out.grown gw)
    replace Hy := Lib.hid (Hy.out.grown gw)
    replace HVV := Lib.hid (HVV.out.grown gw)
    replace HG := Lib.hid (World.grownBy.trans HG.out gw)
    clear gw
    have Hd := Lib.hid h1
    clear h1
    have He := Lib.hid hb
    clear hb
    clear hr hm hn
    clear HCgq
    obtain ⟨gs, ms, hgs⟩ : ∃ x y, stS n g A (n - 1) = (x, y) := ⟨_, _, rfl⟩
    have o := stS_okL HBU.out.1 HMA.out HNK.out.2.1 (by have := HBU.out; omega)
    rw [hgs] at o
    have hc := stepwise_calls V11 n g A a0 aA c0 cA g.length mA rfl Ha.out.2.2.1 Hc.out.2.2 Ha.out.2.2.2 HBU.out.1 HMA.out HNK.out.1 HNK.out.2.1 HRC.out
    rw [hgs] at hc
    simp only at hc
    have HUgs := Lib.hid (show Good gs ∧ gs.length ≤ 900 ∧ Sq n gs ms ∧ ms.length ≤ 16 ∧ valL gs vs ms = C from ⟨o.1, by have h1 := o.2.2.1; have h2 := HRC.out; simp only at h1; omega, o.2.2.2.1, by have h1 := o.2.2.2.1.len; have : n * n ≤ 4 * 4 := Nat.mul_le_mul HNK.out.2.1 HNK.out.2.1; simp only at h1; omega, HV2.out _ _ hgs⟩)
    have HCgs := Lib.hid hc
    clear o hc hgs
    have qc := Hc.out.1
    have qa := Ha.out.1
    have ra := Ha.out.2.1
    have qy := Hy.out.1
    have ry := Hy.out.2.1
    have qd := Hd.out.1
    have qe := He.out.1
    have re := He.out.2.1
    go_wp2_with fail
    clear qc qa ra qy ry qd qe re
    refine (HCgs.out).mono ?_
    rintro e V12 ⟨af, cf, ah, nh, ch, rfl, hn, hr, hm, g1⟩
    replace Hc := Lib.hid (Hc.out.grown g1)
    replace Ha := Lib.hid (Ha.out.grown g1)
    replace Hy := Lib.hid (Hy.out.grown g1)
    replace Hd := Lib.hid (Hd.out.grown g1)
    replace He := Lib.hid (He.out.grown g1)
    replace HVV := Lib.hid (HVV.out.grown g1)
    replace HG := Lib.hid (World.grownBy.trans HG.out g1)
    clear g1
    have qc := Hc.out.1
    have qa := Ha.out.1
    have ra := Ha.out.2.1
    have qy := Hy.out.1
    have ry := Hy.out.2.1
    have qd := Hd.out.1
    have qe := He.out.1
    have re := He.out.2.1
    go_upto_region 9 with fail
    clear qc qa ra qy ry qd qe re
    have h1 := CB.new hr
    have gw := World.grownBy_alloc V12 (.cells #[.slice af gs.length cf] 30) none
    obtain ⟨V13, hU⟩ : ∃ z, World.alloc V12 (.cells #[.slice af gs.length cf] 30) = z := ⟨_, rfl⟩
    have hsU : V13.heap.size = V12.heap.size + 1 := by rw [← hU]; simp
    rw [hU] at gw h1 ⊢
    clear hU
    obtain ⟨bf, hbb⟩ : ∃ b, V12.heap.size = b := ⟨_, rfl⟩
    rw [hbb] at h1 hsU ⊢
    clear hbb
    replace hm := hm.grown gw
    replace Hc := Lib.hid (Hc.out.grown gw)
    replace Ha := Lib.hid (Ha.out.grown gw)
    replace Hy := Lib.hid (Hy.out.grown gw)
    replace Hd := Lib.hid (Hd.out.grown gw)
    replace He := Lib.hid (He.out.grown gw)
    replace HVV := Lib.hid (HVV.out.grown gw)
    replace HG := Lib.hid (World.grownBy.trans HG.out gw)
    clear gw
    have hb := XB.new (2 : Int) hm hn
    have gw := World.grownBy_alloc V13 (.cells #[.int .i64 2, .slice ah nh ch] 26) none
    obtain ⟨V14, hU⟩ : ∃ z, World.alloc V13 (.cells #[.int .i64 2, .slice ah nh ch] 26) = z := ⟨_, rfl⟩
    rw [hU] at gw hb ⊢
    clear hU
    rw [hsU] at hb
    clear hsU
    obtain ⟨bh, hbb⟩ : ∃ b, bf + 1 = b := ⟨_, rfl⟩
    rw [hbb] at hb ⊢
    clear hbb
    replace h1 := h1.grown gw
    replace Hc := Lib.hid (Hc.out.grown gw)
    replace Ha := Lib.hid (Ha.out.grown gw)
    replace Hy := Lib.hid (Hy.out.grown gw)
    replace Hd := Lib.hid (Hd.out.grown gw)
    replace He := Lib.hid (He.out.grown gw)
    replace HVV := Lib.hid (HVV.out.grown gw)
    replace HG := Lib.hid (World.grownBy.trans HG.out gw)
    clear gw
    have Hf := Lib.hid h1
    clear h1
    have Hh := Lib.hid hb
    clear hb
    clear hr hm hn
    clear HCgs
    obtain ⟨gm, mm, hgm⟩ : ∃ x y, smP n g A = (x, y) := ⟨_, _, rfl⟩
    have o := smP_ok HBU.out.1 HMA.out HNK.out.1 HNK.out.2.1 (by have := HBU.out; omega)
    rw [hgm] at o
    have hc := smaller_calls V14 n g A a0 aA c0 cA g.length mA rfl Ha.out.2.2.1 Hc.out.2.2 Ha.out.2.2.2 HBU.out.1 HMA.out HNK.out.1 HNK.out.2.1 HRC.out
    rw [hgm] at hc
    simp only at hc
    have HUgm := Lib.hid (show Good gm ∧ gm.length ≤ 900 ∧ Sq n gm mm ∧ mm.length ≤ 16 ∧ valL gm vs mm = C from ⟨o.1, by have h1 := o.2.2.1; have h2 := HRC.out; simp only at h1; omega, o.2.2.2.1, by have h1 := o.2.2.2.1.len; have : n * n ≤ 4 * 4 := Nat.mul_le_mul HNK.out.2.1 HNK.out.2.1; simp only at h1; omega, HV3.out _ _ hgm⟩)
    have HCgm := Lib.hid hc
    clear o hc hgm
    have qc := Hc.out.1
    have qa := Ha.out.1
    have ra := Ha.out.2.1
    have qy := Hy.out.1
    have ry := Hy.out.2.1
    have qd := Hd.out.1
    have qe := He.out.1
    have re := He.out.2.1
    have qf := Hf.out.1
    have qh := Hh.out.1
    have rh := Hh.out.2.1
    go_wp2_with fail
    clear qc qa ra qy ry qd qe re qf qh rh
    refine (HCgm.out).mono ?_
    rintro e V15 ⟨ai, ci, aj, nj, cj, rfl, hn, hr, hm, g1⟩
    replace Hc := Lib.hid (Hc.out.grown g1)
    replace Ha := Lib.hid (Ha.out.grown g1)
    replace Hy := Lib.hid (Hy.out.grown g1)
    replace Hd := Lib.hid (Hd.out.grown g1)
    replace He := Lib.hid (He.out.grown g1)
    replace Hf := Lib.hid (Hf.out.grown g1)
    replace Hh := Lib.hid (Hh.out.grown g1)
    replace HVV := Lib.hid (HVV.out.grown g1)
    replace HG := Lib.hid (World.grownBy.trans HG.out g1)
    clear g1
    have qc := Hc.out.1
    have qa := Ha.out.1
    have ra := Ha.out.2.1
    have qy := Hy.out.1
    have ry := Hy.out.2.1
    have qd := Hd.out.1
    have qe := He.out.1
    have re := He.out.2.1
    have qf := Hf.out.1
    have qh := Hh.out.1
    have rh := Hh.out.2.1
    go_upto_region 10 with fail
    clear qc qa ra qy ry qd qe re qf qh rh
    have h1 := CB.new hr
    have gw := World.grownBy_alloc V15 (.cells #[.slice ai gm.length ci] 30) none
    obtain ⟨V16, hU⟩ : ∃ z, World.alloc V15 (.cells #[.slice ai gm.length ci] 30) = z := ⟨_, rfl⟩
    have hsU : V16.heap.size = V15.heap.size + 1 := by rw [← hU]; simp
    rw [hU] at gw h1 ⊢
    clear hU
    obtain ⟨bi, hbb⟩ : ∃ b, V15.heap.size = b := ⟨_, rfl⟩
    rw [hbb] at h1 hsU ⊢
    clear hbb
    replace hm := hm.grown gw
    replace Hc := Lib.hid (Hc.out.grown gw)
    replace Ha := Lib.hid (Ha.out.grown gw)
    replace Hy := Lib.hid (Hy.out.grown gw)
    replace Hd := Lib.hid (Hd.out.grown gw)
    replace He := Lib.hid (He.out.grown gw)
    replace Hf := Lib.hid (Hf.out.grown gw)
    replace Hh := Lib.hid (Hh.out.grown gw)
    replace HVV := Lib.hid (HVV.out.grown gw)
    replace HG := Lib.hid (World.grownBy.trans HG.out gw)
    clear gw
    have hb := XB.new (2 : Int) hm hn
    have gw := World.grownBy_alloc V16 (.cells #[.int .i64 2, .slice aj nj cj] 26) none
    obtain ⟨V17, hU⟩ : ∃ z, World.alloc V16 (.cells #[.int .i64 2, .slice aj nj cj] 26) = z := ⟨_, rfl⟩
    rw [hU] at gw hb ⊢
    clear hU
    rw [hsU] at hb
    clear hsU
    obtain ⟨bj, hbb⟩ : ∃ b, bi + 1 = b := ⟨_, rfl⟩
    rw [hbb] at hb ⊢
    clear hbb
    replace h1 := h1.grown gw
    replace Hc := Lib.hid (Hc.out.grown gw)
    replace Ha := Lib.hid (Ha.out.grown gw)
    replace Hy := Lib.hid (Hy.out.grown gw)
    replace Hd := Lib.hid (Hd.out.grown gw)
    replace He := Lib.hid (He.out.grown gw)
    replace Hf := Lib.hid (Hf.out.grown gw)
    replace Hh := Lib.hid (Hh.out.grown gw)
    replace HVV := Lib.hid (HVV.out.grown gw)
    replace HG := Lib.hid (World.grownBy.trans HG.out gw)
    clear gw
    have Hi := Lib.hid h1
    clear h1
    have Hj := Lib.hid hb
    clear hb
    clear hr hm hn
    clear HCgm
    have HS := Lib.hid (fun (Wh : World) (hWh : V17.grownBy Wh none) => (⟨hWh, hWh.cell Hd.out.1 (by simp), hWh.cell Hf.out.1 (by simp), hWh.cell Hi.out.1 (by simp), hWh.cell He.out.1 (by simp), hWh.cell He.out.2.1 (by simp), hWh.cell Hh.out.1 (by simp), hWh.cell Hh.out.2.1 (by simp), hWh.cell Hj.out.1 (by simp), hWh.cell Hj.out.2.1 (by simp), hWh.cell Hy.out.1 (by simp), hWh.cell Hy.out.2.1 (by simp)⟩ : (fun Wh : World => V17.grownBy Wh none ∧ Wh.cell? ⟨bd, 0, none⟩ = some (.slice ad gq.length cd) ∧ Wh.cell? ⟨bf, 0, none⟩ = some (.slice af gs.length cf) ∧ Wh.cell? ⟨bi, 0, none⟩ = some (.slice ai gm.length ci) ∧ Wh.cell? ⟨be, 0, none⟩ = some (.int .i64 2) ∧ Wh.cell? ⟨be, 1, none⟩ = some (.slice ae ne ce) ∧ Wh.cell? ⟨bh, 0, none⟩ = some (.int .i64 2) ∧ Wh.cell? ⟨bh, 1, none⟩ = some (.slice ah nh ch) ∧ Wh.cell? ⟨bj, 0, none⟩ = some (.int .i64 2) ∧ Wh.cell? ⟨bj, 1, none⟩ = some (.slice aj nj cj) ∧ Wh.cell? ⟨by1, 0, none⟩ = some (.int .i64 2) ∧ Wh.cell? ⟨by1, 1, none⟩ = some (.slice aC nC cC)) Wh))
    have hdr : V17.grownBy V17.drew none := ⟨rfl, rfl, rfl, Nat.le_refl _, fun _ _ _ => rfl⟩
    refine wp_region_held_drew (S := (fun Wh : World => V17.grownBy Wh none ∧ Wh.cell? ⟨bd, 0, none⟩ = some (.slice ad gq.length cd) ∧ Wh.cell? ⟨bf, 0, none⟩ = some (.slice af gs.length cf) ∧ Wh.cell? ⟨bi, 0, none⟩ = some (.slice ai gm.length ci) ∧ Wh.cell? ⟨be, 0, none⟩ = some (.int .i64 2) ∧ Wh.cell? ⟨be, 1, none⟩ = some (.slice ae ne ce) ∧ Wh.cell? ⟨bh, 0, none⟩ = some (.int .i64 2) ∧ Wh.cell? ⟨bh, 1, none⟩ = some (.slice ah nh ch) ∧ Wh.cell? ⟨bj, 0, none⟩ = some (.int .i64 2) ∧ Wh.cell? ⟨bj, 1, none⟩ = some (.slice aj nj cj) ∧ Wh.cell? ⟨by1, 0, none⟩ = some (.int .i64 2) ∧ Wh.cell? ⟨by1, 1, none⟩ = some (.slice aC nC cC))) (by kernel_rfl) (HS.out _ hdr) (fun hHeld => ?_)
    refine wpAnyH_take (i := 0) (oi := { dst := some 63, op := Op.move (Operand.tmp 9), type := 4, pos := "law.go:79", after := #[], guard := none }) (v := ?_) rfl (by kernel_rfl) (by kernel_rfl) (by kernel_rfl) (fun _ _ _ h => h) (Or.inl ⟨by rfl, ?_⟩) (by assumption) ?_
    rotate_left 1
    · (intro W hSW; (try dsimp only at hSW); first | (go_simp; done) | (go_simp; with_reducible rfl))
    try simp only [Act.put, List.setIfInBounds_toArray, List.set_cons_zero, List.set_cons_succ]
    refine wpAnyH_take (i := 1) (oi := { dst := some 64, op := Op.move (Operand.tmp 63), type := 4, pos := "law.go:79", after := #[{ on := 0, ground := Ground.data }], guard := none }) (v := ?_) rfl (by kernel_rfl) (by kernel_rfl) (by kernel_rfl) (fun _ _ _ h => h) (Or.inl ⟨by rfl, ?_⟩) (by assumption) ?_
    rotate_left 1
    · (intro W hSW; (try dsimp only at hSW); first | (go_simp; done) | (go_simp; with_reducible rfl))
    try simp only [Act.put, List.setIfInBounds_toArray, List.set_cons_zero, List.set_cons_succ]
    refine wpAnyH_take (i := 2) (oi := { dst := some 65, op := Op.load 30 (Operand.tmp 15), type := 30, pos := "law.go:79", after := #[{ on := 1, ground := Ground.guard }], guard := some (1, true) }) (v := ?_) rfl (by kernel_rfl) (by kernel_rfl) (by kernel_rfl) (fun _ _ _ h => h) (Or.inl ⟨by rfl, ?_⟩) (by assumption) ?_
    rotate_left 1
    · (intro W hSW; (try dsimp only at hSW); first | (go_simp; done) | (go_simp; with_reducible rfl))
    try simp only [Act.put, List.setIfInBounds_toArray, List.set_cons_zero, List.set_cons_succ]
    refine wpAnyH_take (i := 3) (oi := { dst := some 66, op := Op.load 26 (Operand.tmp 16), type := 26, pos := "law.go:79", after := #[{ on := 1, ground := Ground.guard }], guard := some (1, true) }) (v := ?_) rfl (by kernel_rfl) (by kernel_rfl) (by kernel_rfl) (fun _ _ _ h => h) (Or.inl ⟨by rfl, ?_⟩) (by assumption) ?_
    rotate_left 1
    · (intro W hSW; (try dsimp only at hSW); first | (go_simp; done) | (go_simp; with_reducible rfl))
    try simp only [Act.put, List.setIfInBounds_toArray, List.set_cons_zero, List.set_cons_succ]
    refine wpAnyH_take (i := 4) (oi := { dst := some 67, op := Op.move (Operand.tmp 13), type := 49, pos := "law.go:79", after := #[{ on := 1, ground := Ground.guard }], guard := some (1, true) }) (v := ?_) rfl (by kernel_rfl) (by kernel_rfl) (by kernel_rfl) (fun _ _ _ h => h) (Or.inl ⟨by rfl, ?_⟩) (by assumption) ?_
    rotate_left 1
    · (intro W hSW; (try dsimp only at hSW); first | (go_simp; done) | (go_simp; with_reducible rfl))
    try simp only [Act.put, List.setIfInBounds_toArray, List.set_cons_zero, List.set_cons_succ]
    refine wpAnyH_take (i := 6) (oi := { dst := some 69, op := Op.load 47 (Operand.tmp 14), type := 47, pos := "law.go:79", after := #[{ on := 1, ground := Ground.guard }], guard := some (1, true) }) (v := ?_) rfl (by kernel_rfl) (by kernel_rfl) (by kernel_rfl) (fun _ _ _ h => h) (Or.inl ⟨by rfl, ?_⟩) (by assumption) ?_
    rotate_left 1
    · (intro W hSW; (try dsimp only at hSW); first | (go_simp; done) | (go_simp; with_reducible rfl))
    try simp only [Act.put, List.setIfInBounds_toArray, List.set_cons_zero, List.set_cons_succ]
    refine wpAnyH_ready (rs := [5]) (by kernel_rfl) (by simp) ?_
    refine (AllReadyH.cons (o := { dst := some 68, op := Op.call { callee := Callee.value (Operand.func 34), args := #[Operand.tmp 65, Operand.tmp 66, Operand.tmp 67], argTypes := #[30, 26, 49] }, type := 47, pos := "law.go:79", after := #[{ on := 2, ground := Ground.data }, { on := 3, ground := Ground.data }, { on := 4, ground := Ground.data }, { on := 1, ground := Ground.chain }, { on := 1, ground := Ground.guard }], guard := some (1, true) }) rfl (fun K hK => ?_) AllReadyH.nil)
    rw [if_pos (by rfl)]
    go_simp
    go_at_call 34
    refine (value15_at 2 HUgq.out.2.2.2.2 HCL.out.1 He.out.2.2.1 HVL.out HUgq.out.1 (by have := HUgq.out; omega) (fun c hc => (HUgq.out.2.2.1.1.2 c hc).1) (by have := HUgq.out.2.2.2.1; have := He.out.2.2.1; omega) (Hd.out.grown hdr).2.2 (He.out.grown hdr).2.2.2 (HVV.out.grown hdr)).mono ?_
    rintro e wc1 ⟨bv0, dv0, rfl, hv0, gc1⟩
    have hgr1 := World.grownBy.trans hdr gc1
    go_wp2_with fail
    refine hK.out _ _ (HS.out _ hgr1) (fun hHeld => ?_)
    clear hK K
    try simp only [Act.put, List.setIfInBounds_toArray, List.set_cons_zero, List.set_cons_succ]
    refine wpAnyH_ready (rs := [7]) (by kernel_rfl) (by simp) ?_
    refine (AllReadyH.cons (o := { dst := some 70, op := Op.call { callee := Callee.value (Operand.func 37), args := #[Operand.tmp 68, Operand.tmp 69], argTypes := #[47, 47] }, type := 4, pos := "law.go:79", after := #[{ on := 5, ground := Ground.data }, { on := 6, ground := Ground.data }, { on := 5, ground := Ground.chain }, { on := 1, ground := Ground.guard }], guard := some (1, true) }) rfl (fun K hK => ?_) AllReadyH.nil)
    rw [if_pos (by rfl)]
    go_simp
    go_at_call 37
    refine (h_eq_at 2 HCL.out.1 hv0 (Hy.out.grown hgr1).2.2.2 HCL.out.2).mono ?_
    rintro e wc2 ⟨rfl, gc2⟩
    have hgr2 := World.grownBy.trans hgr1 gc2
    go_wp2_with fail
    refine hK.out _ _ (HS.out _ hgr2) (fun hHeld => ?_)
    clear hK K
    try simp only [Act.put, List.setIfInBounds_toArray, List.set_cons_zero, List.set_cons_succ]
    refine wpAnyH_take (i := 8) (oi := { dst := some 71, op := Op.pick (Operand.tmp 64) (Operand.tmp 70) (Operand.const (Value.bool false)), type := 4, pos := "law.go:79", after := #[{ on := 1, ground := Ground.data }, { on := 7, ground := Ground.data }], guard := none }) (v := ?_) rfl (by kernel_rfl) (by kernel_rfl) (by kernel_rfl) (fun _ _ _ h => h) (Or.inl ⟨by rfl, ?_⟩) (by assumption) ?_
    rotate_left 1
    · (intro W hSW; (try dsimp only at hSW); first | (go_simp; done) | (go_simp; with_reducible rfl))
    try simp only [Act.put, List.setIfInBounds_toArray, List.set_cons_zero, List.set_cons_succ]
    refine wpAnyH_take (i := 9) (oi := { dst := some 72, op := Op.move (Operand.tmp 71), type := 4, pos := "law.go:79", after := #[{ on := 8, ground := Ground.data }, { on := 7, ground := Ground.chain }], guard := none }) (v := ?_) rfl (by kernel_rfl) (by kernel_rfl) (by kernel_rfl) (fun _ _ _ h => h) (Or.inl ⟨by rfl, ?_⟩) (by assumption) ?_
    rotate_left 1
    · (intro W hSW; (try dsimp only at hSW); first | (go_simp; done) | (go_simp; with_reducible rfl))
    try simp only [Act.put, List.setIfInBounds_toArray, List.set_cons_zero, List.set_cons_succ]
    refine wpAnyH_take (i := 10) (oi := { dst := some 73, op := Op.load 30 (Operand.tmp 17), type := 30, pos := "law.go:79", after := #[{ on := 9, ground := Ground.guard }], guard := some (9, true) }) (v := ?_) rfl (by kernel_rfl) (by kernel_rfl) (by kernel_rfl) (fun _ _ _ h => h) (Or.inl ⟨by rfl, ?_⟩) (by assumption) ?_
    rotate_left 1
    · (intro W hSW; (try dsimp only at hSW); first | (go_simp; done) | (go_simp; with_reducible rfl))
    try simp only [Act.put, List.setIfInBounds_toArray, List.set_cons_zero, List.set_cons_succ]
    refine wpAnyH_take (i := 11) (oi := { dst := some 74, op := Op.load 26 (Operand.tmp 18), type := 26, pos := "law.go:79", after := #[{ on := 9, ground := Ground.guard }], guard := some (9, true) }) (v := ?_) rfl (by kernel_rfl) (by kernel_rfl) (by kernel_rfl) (fun _ _ _ h => h) (Or.inl ⟨by rfl, ?_⟩) (by assumption) ?_
    rotate_left 1
    · (intro W hSW; (try dsimp only at hSW); first | (go_simp; done) | (go_simp; with_reducible rfl))
    try simp only [Act.put, List.setIfInBounds_toArray, List.set_cons_zero, List.set_cons_succ]
    refine wpAnyH_take (i := 12) (oi := { dst := some 75, op := Op.move (Operand.tmp 13), type := 49, pos := "law.go:79", after := #[{ on := 9, ground := Ground.guard }], guard := some (9, true) }) (v := ?_) rfl (by kernel_rfl) (by kernel_rfl) (by kernel_rfl) (fun _ _ _ h => h) (Or.inl ⟨by rfl, ?_⟩) (by assumption) ?_
    rotate_left 1
    · (intro W hSW; (try dsimp only at hSW); first | (go_simp; done) | (go_simp; with_reducible rfl))
    try simp only [Act.put, List.setIfInBounds_toArray, List.set_cons_zero, List.set_cons_succ]
    refine wpAnyH_take (i := 14) (oi := { dst := some 77, op := Op.load 47 (Operand.tmp 14), type := 47, pos := "law.go:79", after := #[{ on := 9, ground := Ground.guard }], guard := some (9, true) }) (v := ?_) rfl (by kernel_rfl) (by kernel_rfl) (by kernel_rfl) (fun _ _ _ h => h) (Or.inl ⟨by rfl, ?_⟩) (by assumption) ?_
    rotate_left 1
    · (intro W hSW; (try dsimp only at hSW); first | (go_simp; done) | (go_simp; with_reducible rfl))
    try simp only [Act.put, List.setIfInBounds_toArray, List.set_cons_zero, List.set_cons_succ]
    refine wpAnyH_ready (rs := [13]) (by kernel_rfl) (by simp) ?_
    refine (AllReadyH.cons (o := { dst := some 76, op := Op.call { callee := Callee.value (Operand.func 34), args := #[Operand.tmp 73, Operand.tmp 74, Operand.tmp 75], argTypes := #[30, 26, 49] }, type := 47, pos := "law.go:79", after := #[{ on := 10, ground := Ground.data }, { on := 11, ground := Ground.data }, { on := 12, ground := Ground.data }, { on := 9, ground := Ground.chain }, { on := 9, ground := Ground.guard }], guard := some (9, true) }) rfl (fun K hK => ?_) AllReadyH.nil)
    rw [if_pos (by rfl)]
    go_simp
    go_at_call 34
    refine (value15_at 2 HUgs.out.2.2.2.2 HCL.out.1 Hh.out.2.2.1 HVL.out HUgs.out.1 (by have := HUgs.out; omega) (fun c hc => (HUgs.out.2.2.1.1.2 c hc).1) (by have := HUgs.out.2.2.2.1; have := Hh.out.2.2.1; omega) (Hf.out.grown hgr2).2.2 (Hh.out.grown hgr2).2.2.2 (HVV.out.grown hgr2)).mono ?_
    rintro e wc3 ⟨bv1, dv1, rfl, hv1, gc3⟩
    have hgr3 := World.grownBy.trans hgr2 gc3
    go_wp2_with fail
    refine hK.out _ _ (HS.out _ hgr3) (fun hHeld => ?_)
    clear hK K
    try simp only [Act.put, List.setIfInBounds_toArray, List.set_cons_zero, List.set_cons_succ]
    refine wpAnyH_ready (rs := [15]) (by kernel_rfl) (by simp) ?_
    refine (AllReadyH.cons (o := { dst := some 78, op := Op.call { callee := Callee.value (Operand.func 37), args := #[Operand.tmp 76, Operand.tmp 77], argTypes := #[47, 47] }, type := 4, pos := "law.go:79", after := #[{ on := 13, ground := Ground.data }, { on := 14, ground := Ground.data }, { on := 13, ground := Ground.chain }, { on := 9, ground := Ground.guard }], guard := some (9, true) }) rfl (fun K hK => ?_) AllReadyH.nil)
    rw [if_pos (by rfl)]
    go_simp
    go_at_call 37
    refine (h_eq_at 2 HCL.out.1 hv1 (Hy.out.grown hgr3).2.2.2 HCL.out.2).mono ?_
    rintro e wc4 ⟨rfl, gc4⟩
    have hgr4 := World.grownBy.trans hgr3 gc4
    go_wp2_with fail
    refine hK.out _ _ (HS.out _ hgr4) (fun hHeld => ?_)
    clear hK K
    try simp only [Act.put, List.setIfInBounds_toArray, List.set_cons_zero, List.set_cons_succ]
    refine wpAnyH_take (i := 16) (oi := { dst := some 79, op := Op.pick (Operand.tmp 72) (Operand.tmp 78) (Operand.const (Value.bool false)), type := 4, pos := "law.go:79", after := #[{ on := 9, ground := Ground.data }, { on := 15, ground := Ground.data }], guard := none }) (v := ?_) rfl (by kernel_rfl) (by kernel_rfl) (by kernel_rfl) (fun _ _ _ h => h) (Or.inl ⟨by rfl, ?_⟩) (by assumption) ?_
    rotate_left 1
    · (intro W hSW; (try dsimp only at hSW); first | (go_simp; done) | (go_simp; with_reducible rfl))
    try simp only [Act.put, List.setIfInBounds_toArray, List.set_cons_zero, List.set_cons_succ]
    refine wpAnyH_take (i := 17) (oi := { dst := some 80, op := Op.move (Operand.tmp 79), type := 4, pos := "law.go:79", after := #[{ on := 16, ground := Ground.data }, { on := 15, ground := Ground.chain }], guard := none }) (v := ?_) rfl (by kernel_rfl) (by kernel_rfl) (by kernel_rfl) (fun _ _ _ h => h) (Or.inl ⟨by rfl, ?_⟩) (by assumption) ?_
    rotate_left 1
    · (intro W hSW; (try dsimp only at hSW); first | (go_simp; done) | (go_simp; with_reducible rfl))
    try simp only [Act.put, List.setIfInBounds_toArray, List.set_cons_zero, List.set_cons_succ]
    refine wpAnyH_take (i := 18) (oi := { dst := some 81, op := Op.load 30 (Operand.tmp 19), type := 30, pos := "law.go:79", after := #[{ on := 17, ground := Ground.guard }], guard := some (17, true) }) (v := ?_) rfl (by kernel_rfl) (by kernel_rfl) (by kernel_rfl) (fun _ _ _ h => h) (Or.inl ⟨by rfl, ?_⟩) (by assumption) ?_
    rotate_left 1
    · (intro W hSW; (try dsimp only at hSW); first | (go_simp; done) | (go_simp; with_reducible rfl))
    try simp only [Act.put, List.setIfInBounds_toArray, List.set_cons_zero, List.set_cons_succ]
    refine wpAnyH_take (i := 19) (oi := { dst := some 82, op := Op.load 26 (Operand.tmp 20), type := 26, pos := "law.go:79", after := #[{ on := 17, ground := Ground.guard }], guard := some (17, true) }) (v := ?_) rfl (by kernel_rfl) (by kernel_rfl) (by kernel_rfl) (fun _ _ _ h => h) (Or.inl ⟨by rfl, ?_⟩) (by assumption) ?_
    rotate_left 1
    · (intro W hSW; (try dsimp only at hSW); first | (go_simp; done) | (go_simp; with_reducible rfl))
    try simp only [Act.put, List.setIfInBounds_toArray, List.set_cons_zero, List.set_cons_succ]
    refine wpAnyH_take (i := 20) (oi := { dst := some 83, op := Op.move (Operand.tmp 13), type := 49, pos := "law.go:79", after := #[{ on := 17, ground := Ground.guard }], guard := some (17, true) }) (v := ?_) rfl (by kernel_rfl) (by kernel_rfl) (by kernel_rfl) (fun _ _ _ h => h) (Or.inl ⟨by rfl, ?_⟩) (by assumption) ?_
    rotate_left 1
    · (intro W hSW; (try dsimp only at hSW); first | (go_simp; done) | (go_simp; with_reducible rfl))
    try simp only [Act.put, List.setIfInBounds_toArray, List.set_cons_zero, List.set_cons_succ]
    refine wpAnyH_take (i := 22) (oi := { dst := some 85, op := Op.load 47 (Operand.tmp 14), type := 47, pos := "law.go:79", after := #[{ on := 17, ground := Ground.guard }], guard := some (17, true) }) (v := ?_) rfl (by kernel_rfl) (by kernel_rfl) (by kernel_rfl) (fun _ _ _ h => h) (Or.inl ⟨by rfl, ?_⟩) (by assumption) ?_
    rotate_left 1
    · (intro W hSW; (try dsimp only at hSW); first | (go_simp; done) | (go_simp; with_reducible rfl))
    try simp only [Act.put, List.setIfInBounds_toArray, List.set_cons_zero, List.set_cons_succ]
    refine wpAnyH_ready (rs := [21]) (by kernel_rfl) (by simp) ?_
    refine (AllReadyH.cons (o := { dst := some 84, op := Op.call { callee := Callee.value (Operand.func 34), args := #[Operand.tmp 81, Operand.tmp 82, Operand.tmp 83], argTypes := #[30, 26, 49] }, type := 47, pos := "law.go:79", after := #[{ on := 18, ground := Ground.data }, { on := 19, ground := Ground.data }, { on := 20, ground := Ground.data }, { on := 17, ground := Ground.chain }, { on := 17, ground := Ground.guard }], guard := some (17, true) }) rfl (fun K hK => ?_) AllReadyH.nil)
    rw [if_pos (by rfl)]
    go_simp
    go_at_call 34
    refine (value15_at 2 HUgm.out.2.2.2.2 HCL.out.1 Hj.out.2.2.1 HVL.out HUgm.out.1 (by have := HUgm.out; omega) (fun c hc => (HUgm.out.2.2.1.1.2 c hc).1) (by have := HUgm.out.2.2.2.1; have := Hj.out.2.2.1; omega) (Hi.out.grown hgr4).2.2 (Hj.out.grown hgr4).2.2.2 (HVV.out.grown hgr4)).mono ?_
    rintro e wc5 ⟨bv2, dv2, rfl, hv2, gc5⟩
    have hgr5 := World.grownBy.trans hgr4 gc5
    go_wp2_with fail
    refine hK.out _ _ (HS.out _ hgr5) (fun hHeld => ?_)
    clear hK K
    try simp only [Act.put, List.setIfInBounds_toArray, List.set_cons_zero, List.set_cons_succ]
    refine wpAnyH_ready (rs := [23]) (by kernel_rfl) (by simp) ?_
    refine (AllReadyH.cons (o := { dst := some 86, op := Op.call { callee := Callee.value (Operand.func 37), args := #[Operand.tmp 84, Operand.tmp 85], argTypes := #[47, 47] }, type := 4, pos := "law.go:79", after := #[{ on := 21, ground := Ground.data }, { on := 22, ground := Ground.data }, { on := 21, ground := Ground.chain }, { on := 17, ground := Ground.guard }], guard := some (17, true) }) rfl (fun K hK => ?_) AllReadyH.nil)
    rw [if_pos (by rfl)]
    go_simp
    go_at_call 37
    refine (h_eq_at 2 HCL.out.1 hv2 (Hy.out.grown hgr5).2.2.2 HCL.out.2).mono ?_
    rintro e wc6 ⟨rfl, gc6⟩
    have hgr6 := World.grownBy.trans hgr5 gc6
    go_wp2_with fail
    refine hK.out _ _ (HS.out _ hgr6) (fun hHeld => ?_)
    clear hK K
    try simp only [Act.put, List.setIfInBounds_toArray, List.set_cons_zero, List.set_cons_succ]
    refine wpAnyH_take (i := 24) (oi := { dst := some 87, op := Op.pick (Operand.tmp 80) (Operand.tmp 86) (Operand.const (Value.bool false)), type := 4, pos := "law.go:79", after := #[{ on := 17, ground := Ground.data }, { on := 23, ground := Ground.data }], guard := none }) (v := ?_) rfl (by kernel_rfl) (by kernel_rfl) (by kernel_rfl) (fun _ _ _ h => h) (Or.inl ⟨by rfl, ?_⟩) (by assumption) ?_
    rotate_left 1
    · (intro W hSW; (try dsimp only at hSW); first | (go_simp; done) | (go_simp; with_reducible rfl))
    try simp only [Act.put, List.setIfInBounds_toArray, List.set_cons_zero, List.set_cons_succ]
    refine wpAnyH_take (i := 25) (oi := { dst := some 8, op := Op.assign (Operand.tmp 87), type := 4, pos := "law.go:79", after := #[{ on := 24, ground := Ground.data }, { on := 23, ground := Ground.chain }, { on := 0, ground := Ground.phase }, { on := 1, ground := Ground.phase }, { on := 2, ground := Ground.phase }, { on := 3, ground := Ground.phase }, { on := 4, ground := Ground.phase }, { on := 5, ground := Ground.phase }, { on := 6, ground := Ground.phase }, { on := 7, ground := Ground.phase }, { on := 8, ground := Ground.phase }, { on := 9, ground := Ground.phase }, { on := 10, ground := Ground.phase }, { on := 11, ground := Ground.phase }, { on := 12, ground := Ground.phase }, { on := 13, ground := Ground.phase }, { on := 14, ground := Ground.phase }, { on := 15, ground := Ground.phase }, { on := 16, ground := Ground.phase }, { on := 17, ground := Ground.phase }, { on := 18, ground := Ground.phase }, { on := 19, ground := Ground.phase }, { on := 20, ground := Ground.phase }, { on := 21, ground := Ground.phase }, { on := 22, ground := Ground.phase }, { on := 23, ground := Ground.phase }, { on := 24, ground := Ground.phase }], guard := none }) (v := ?_) rfl (by kernel_rfl) (by kernel_rfl) (by kernel_rfl) (fun _ _ _ h => h) (Or.inl ⟨by rfl, ?_⟩) (by assumption) ?_
    rotate_left 1
    · (intro W hSW; (try dsimp only at hSW); first | (go_simp; done) | (go_simp; with_reducible rfl))
    try simp only [Act.put, List.setIfInBounds_toArray, List.set_cons_zero, List.set_cons_succ]
    refine wpAnyH_done (by kernel_rfl) ?_ _
    have hEND := hgr6
    clear hHeld
    go_wp2_with fail
    go_ret
    exact ⟨rfl, World.grownBy.trans HG.out hEND⟩
end Go.Proofs.Ythdhmflodiincaa

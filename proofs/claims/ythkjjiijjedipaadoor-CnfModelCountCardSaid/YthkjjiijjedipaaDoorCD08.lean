/- Texts of the proof: N2. -/
import Derived.Test.YthkjjiijjedipaaDoorCD07
namespace Go.Proofs.YthkjjiijjedipaaDoor

section
variable {gs : List Gt} (hG : Good gs) (h8 : In8 gs) {m : Nat} (hm : 8 ≤ m) {q : Nat} {N : List Bool} (hN : Need gs q N)
include hG h8 hm hN

omit hN in
/-- The gate of an operand of a needed gate: an input, or needed. -/
theorem oper_pos {i : Nat} {g : Gt} (_hi : i < gs.length) (hi0 : 0 < i) (hg : gs[i]? = some g) (hn : isAnd gs i = true → N[i]? = some true) : 0 < vOf gs m N i ∧ vOf gs m N i ≤ ((m + cntN N : Nat) : Int) := by
  unfold vOf
  by_cases e : N[i]? = some true
  · rw [if_pos e]
    have := rank_cnt e
    constructor <;> omega
  · rw [if_neg e, hg]
    have h2 : ¬ g.1 = 2 := fun h => e (hn (by unfold isAnd; rw [hg]; exact decide_eq_true h))
    rcases hG.form i g hi0 hg with h1 | h1
    · have h3 := h8 g (List.mem_of_getElem? hg) h1.1
      simp only [h1.1, if_true]
      have := h1.2.1
      constructor <;> omega
    · exact absurd h1.1 h2
omit hN in
/-- What a place of the assignment says of a gate. -/
theorem oper_val {w : List Bool} {i : Nat} {g : Gt} (hi0 : 0 < i) (hg : gs[i]? = some g) (hn : isAnd gs i = true → N[i]? = some true)
    (hw : N[i]? = some true → (w[m + rankN N i]?).getD false = valC gs (w.take m) (2 * (i : Int))) : holdsP w (vOf gs m N i) = valC gs (w.take m) (2 * (i : Int)) := by
  unfold vOf
  by_cases e : N[i]? = some true
  · rw [if_pos e, holds_pos]
    exact hw e
  · rw [if_neg e, hg]
    have h2 : ¬ g.1 = 2 := fun h => e (hn (by unfold isAnd; rw [hg]; exact decide_eq_true h))
    rcases hG.form i g hi0 hg with h1 | h1
    · have h3 := h8 g (List.mem_of_getElem? hg) h1.1
      have h4 := h1.2.1
      simp only [h1.1, if_true]
      rw [val_at hg]
      unfold gateV
      rw [if_pos h1.1]
      obtain ⟨n, hn1⟩ : ∃ n : Nat, g.2.1 = ((n + 1 : Nat) : Int) := ⟨(g.2.1 - 1).toNat, by omega⟩
      rw [hn1, holds_pos, show (((n + 1 : Nat) : Int) - 1).toNat = n by omega, decide_eq_true (by omega : (1 : Int) ≤ ((n + 1 : Nat) : Int))]
      rw [List.getElem?_take_of_lt (by omega)]
      simp
    · exact absurd h1.1 h2
omit hN in
theorem lit_val {w : List Bool} {r : Int} (hr : Ok gs r) (hr2 : 2 ≤ r) (hn : isAnd gs (r / 2).toNat = true → N[(r / 2).toNat]? = some true)
    (hw : N[(r / 2).toNat]? = some true → (w[m + rankN N (r / 2).toNat]?).getD false = valC gs (w.take m) (2 * (((r / 2).toNat : Nat) : Int))) :
    litN gs m N r ≠ 0 ∧ holdsP w (litN gs m N r) = valC gs (w.take m) r := by
  have hil : (r / 2).toNat < gs.length := by have := hr.1; have := hr.2; omega
  obtain ⟨g, hg⟩ : ∃ g, gs[(r / 2).toNat]? = some g := ⟨_, List.getElem?_eq_getElem hil⟩
  have hp := oper_pos hG h8 hm hil (by omega) hg hn
  have hv := oper_val hG h8 hm (by omega) hg hn hw
  rw [show 2 * (((r / 2).toNat : Nat) : Int) = 2 * (r / 2) by omega] at hv
  unfold litN
  rw [val_lit hr]
  by_cases h2 : r % 2 = 1
  · rw [if_pos h2, if_neg (by omega)]
    exact ⟨by omega, by rw [holds_neg w (by omega), hv]⟩
  · rw [if_neg h2, if_pos (by omega)]
    exact ⟨by omega, hv⟩
omit hN in
theorem lit_range {r : Int} (hr : Ok gs r) (hr2 : 2 ≤ r) (hn : isAnd gs (r / 2).toNat = true → N[(r / 2).toNat]? = some true) :
    litN gs m N r ≠ 0 ∧ litN gs m N r ≤ ((m + cntN N : Nat) : Int) ∧ -((m + cntN N : Nat) : Int) ≤ litN gs m N r := by
  have hil : (r / 2).toNat < gs.length := by have := hr.1; have := hr.2; omega
  obtain ⟨g, hg⟩ : ∃ g, gs[(r / 2).toNat]? = some g := ⟨_, List.getElem?_eq_getElem hil⟩
  have hp := oper_pos hG h8 hm hil (by omega) hg hn
  unfold litN
  split <;> omega
omit h8 hm in
/-- The two operands of a needed gate. -/
theorem need_ops {i : Nat} (hi : N[i]? = some true) : ∃ g, gs[i]? = some g ∧ g.1 = 2 ∧ i < gs.length ∧ gateA gs i = g.2.1 ∧ gateB gs i = g.2.2
    ∧ (Ok gs g.2.1 ∧ 2 ≤ g.2.1 ∧ (g.2.1 / 2).toNat < i ∧ (isAnd gs (g.2.1 / 2).toNat = true → N[(g.2.1 / 2).toNat]? = some true))
    ∧ (Ok gs g.2.2 ∧ 2 ≤ g.2.2 ∧ (g.2.2 / 2).toNat < i ∧ (isAnd gs (g.2.2 / 2).toNat = true → N[(g.2.2 / 2).toNat]? = some true)) := by
  have hil : i < gs.length := by rw [← hN.len]; exact (List.getElem?_eq_some_iff.1 hi).1
  obtain ⟨g, hg⟩ : ∃ g, gs[i]? = some g := ⟨_, List.getElem?_eq_getElem hil⟩
  obtain ⟨h1, h2, h3, h4, h5, _⟩ := low_lt hG hg (hN.ands i hi)
  have hs := hN.shut i g hi hg
  exact ⟨g, hg, h1, hil, by unfold gateA; rw [hg], by unfold gateB; rw [hg], ⟨⟨by omega, by omega⟩, h2, h4, hs.1⟩, ⟨by omega, by omega⟩, h3, h5, hs.2⟩
/-- The clauses of a needed gate say what its value is, where those of the gates below it are right. -/
theorem tri_at_sat {w : List Bool} {i : Nat} (hi : N[i]? = some true) (hw : ∀ j, j < i → N[j]? = some true → (w[m + rankN N j]?).getD false = valC gs (w.take m) (2 * (j : Int))) :
    satP w (triAt gs m N i) = ((w[m + rankN N i]?).getD false == valC gs (w.take m) (2 * (i : Int))) := by
  obtain ⟨g, hg, hk, hil, ea, eb, ⟨oa, a2, la, na⟩, ob, b2, lb, nb⟩ := need_ops hG hN hi
  obtain ⟨za, va⟩ := lit_val hG h8 hm oa a2 na (hw _ la)
  obtain ⟨zb, vb⟩ := lit_val hG h8 hm ob b2 nb (hw _ lb)
  unfold triAt
  rw [ea, eb, tri_sat w (by omega) za zb, va, vb, holds_pos]
  rw [val_and_gate hG (show gs[i]? = some (2, g.2.1, g.2.2) by rw [hg, ← hk])]
theorem cls_sat (w : List Bool) : ∀ k, k ≤ gs.length → (satP w (clsGo gs m N k) = true ↔ ∀ i, i < k → N[i]? = some true → (w[m + rankN N i]?).getD false = valC gs (w.take m) (2 * (i : Int)))
  | 0, _ => by simp [clsGo, satP]
  | k + 1, hk => by
    have ih := cls_sat w k (by omega)
    unfold clsGo
    by_cases e : N[k]? = some true
    · rw [if_pos e, sat_append, Bool.and_eq_true, ih]
      constructor
      · rintro ⟨h1, h2⟩ i hi hn
        by_cases e2 : i = k
        · subst e2
          rw [tri_at_sat hG h8 hm hN hn (fun j hj => h1 j hj)] at h2
          exact eq_of_beq h2
        · exact h1 i (by omega) hn
      · intro h
        have h1 : ∀ j, j < k → N[j]? = some true → (w[m + rankN N j]?).getD false = valC gs (w.take m) (2 * (j : Int)) := fun j hj => h j (by omega)
        refine ⟨h1, ?_⟩
        rw [tri_at_sat hG h8 hm hN e h1, h k (by omega) e]
        exact beq_self_eq_true _
    · rw [if_neg e, ih]
      constructor
      · intro h i hi hn
        exact h i (by rcases Nat.lt_or_ge i k with h1 | h1; exact h1; exact absurd (by rwa [show i = k by omega] at hn) e) hn
      · exact fun h i hi => h i (by omega)
theorem cls_range : ∀ k, k ≤ gs.length → ∀ c ∈ clsGo gs m N k, ∀ x ∈ c, x ≠ 0 ∧ x ≤ ((m + cntN N : Nat) : Int) ∧ -((m + cntN N : Nat) : Int) ≤ x
  | 0, _, c, hc => by simp [clsGo] at hc
  | k + 1, hk, c, hc => by
    unfold clsGo at hc
    by_cases e : N[k]? = some true
    · rw [if_pos e, List.mem_append] at hc
      rcases hc with hc | hc
      · exact cls_range k (by omega) c hc
      · obtain ⟨g, hg, hk2, hil, ea, eb, ⟨oa, a2, la, na⟩, ob, b2, lb, nb⟩ := need_ops hG hN e
        obtain ⟨a0, a1, a3⟩ := lit_range hG h8 hm oa a2 na
        obtain ⟨b0, b1, b3⟩ := lit_range hG h8 hm ob b2 nb
        have hr := rank_cnt e
        unfold triAt triN at hc
        rw [ea, eb] at hc
        intro x hx
        simp only [List.mem_cons, List.not_mem_nil, or_false] at hc
        rcases hc with rfl | rfl | rfl <;> simp only [List.mem_cons, List.not_mem_nil, or_false] at hx
        · rcases hx with rfl | rfl
          · omega
          · exact ⟨a0, a1, a3⟩
        · rcases hx with rfl | rfl
          · omega
          · exact ⟨b0, b1, b3⟩
        · rcases hx with rfl | rfl | rfl <;> omega
    · rw [if_neg e] at hc
      exact cls_range k (by omega) c hc
end
theorem cls_len (gs : List Gt) (m : Nat) {N : List Bool} : ∀ k, k ≤ N.length → (clsGo gs m N k).length = 3 * rankN N k
  | 0, _ => by simp [clsGo, rankN]
  | k + 1, hk => by
    have ih := cls_len gs m (N := N) k (by omega)
    obtain ⟨z, hz⟩ : ∃ z, N[k]? = some z := ⟨_, List.getElem?_eq_getElem (by omega)⟩
    unfold clsGo
    rw [rank_succ hz, hz]
    cases z with
    | false => simp [ih]
    | true => simp [ih, triAt, triN]; omega
theorem cls_three (gs : List Gt) (m : Nat) (N : List Bool) : ∀ k, ∀ c ∈ clsGo gs m N k, c.length ≤ 3 ∧ 1 ≤ c.length
  | 0, c, hc => by simp [clsGo] at hc
  | k + 1, c, hc => by
    unfold clsGo at hc
    split at hc
    · rw [List.mem_append] at hc
      rcases hc with hc | hc
      · exact cls_three gs m N k c hc
      · unfold triAt triN at hc
        simp only [List.mem_cons, List.not_mem_nil, or_false] at hc
        rcases hc with rfl | rfl | rfl <;> simp
    · exact cls_three gs m N k c hc

/-- The assignment that is extended: the inputs, then the values of the needed gates. -/
def givenP (m : Nat) (vals : List Bool) : List Bool := (List.range m).map fun i => (vals[i]?).getD false
def extGo (gs : List Gt) (N : List Bool) (given : List Bool) : Nat → List Bool
  | 0 => given
  | k + 1 => if N[k]? = some true then extGo gs N given k ++ [evalC gs given (2 * (k : Int))] else extGo gs N given k
def extP (gs : List Gt) (r : Int) (m : Nat) (vals : List Bool) : List Bool := extGo gs (needL gs (r / 2).toNat) (givenP m vals) gs.length
theorem given_len (m : Nat) (vals : List Bool) : (givenP m vals).length = m := by simp [givenP]
theorem given_at {m : Nat} {vals : List Bool} {i : Nat} (h : i < m) : (givenP m vals)[i]? = some ((vals[i]?).getD false) := by simp [givenP, h]
theorem given_self {m : Nat} {w : List Bool} (h : w.length = m) : givenP m w = w := by
  apply List.ext_getElem?
  intro i
  by_cases hi : i < m
  · rw [given_at hi, List.getElem?_eq_getElem (by omega)]; rfl
  · rw [List.getElem?_eq_none (by rw [given_len]; omega), List.getElem?_eq_none (by omega)]
theorem ext_len (gs : List Gt) {N : List Bool} (given : List Bool) : ∀ k, k ≤ N.length → (extGo gs N given k).length = given.length + rankN N k
  | 0, _ => by simp [extGo, rankN]
  | k + 1, hk => by
    have ih := ext_len gs (N := N) given k (by omega)
    obtain ⟨z, hz⟩ : ∃ z, N[k]? = some z := ⟨_, List.getElem?_eq_getElem (by omega)⟩
    unfold extGo
    rw [rank_succ hz, hz]
    cases z with
    | false => simp [ih]
    | true => simp [ih]; omega
theorem ext_pre (gs : List Gt) (N : List Bool) (given : List Bool) : ∀ (d k : Nat), extGo gs N given k <+: extGo gs N given (k + d)
  | 0, k => List.prefix_refl _
  | d + 1, k => by
    refine (ext_pre gs N given d k).trans ?_
    rw [show k + (d + 1) = (k + d) + 1 by omega]
    conv => rhs; unfold extGo
    split
    · exact List.prefix_append _ _
    · exact List.prefix_refl _
theorem ext_take (gs : List Gt) {N : List Bool} (given : List Bool) (k : Nat) : (extGo gs N given k).take given.length = given := by
  have h := ext_pre gs N given k 0
  rw [Nat.zero_add] at h
  have h2 : extGo gs N given 0 = given := rfl
  rw [h2] at h
  exact (List.prefix_iff_eq_take.1 h).symm
theorem ext_at (gs : List Gt) {N : List Bool} (given : List Bool) {i n : Nat} (hi : N[i]? = some true) (hin : i < n) : (extGo gs N given n)[given.length + rankN N i]? = some (evalC gs given (2 * (i : Int))) := by
  have hil := (List.getElem?_eq_some_iff.1 hi).1
  have h1 : extGo gs N given (i + 1) = extGo gs N given i ++ [evalC gs given (2 * (i : Int))] := by
    conv => lhs; unfold extGo
    rw [if_pos hi]
  have h2 := ext_pre gs N given (n - (i + 1)) (i + 1)
  rw [show i + 1 + (n - (i + 1)) = n by omega] at h2
  have h3 : (extGo gs N given (i + 1))[given.length + rankN N i]? = some (evalC gs given (2 * (i : Int))) := by
    rw [h1, ← ext_len gs given i (by omega), List.getElem?_concat_length]
  obtain ⟨t, ht⟩ := h2
  rw [← ht, List.getElem?_append_left (List.getElem?_eq_some_iff.1 h3).1]
  exact h3

section
variable {gs : List Gt} (hG : Good gs) (h8 : In8 gs) {m : Nat} (hm : 8 ≤ m) {r : Int} (hr : Ok gs r)
include hG h8 hm hr
theorem tse_sat (w : List Bool) (hr2 : 2 ≤ r) : satP w (tseP gs r m).2 = true ↔
    (∀ i, (needL gs (r / 2).toNat)[i]? = some true → (w[m + rankN (needL gs (r / 2).toNat) i]?).getD false = valC gs (w.take m) (2 * (i : Int))) ∧ valC gs (w.take m) r = true := by
  have hq : (r / 2).toNat < gs.length := by have := hr.1; have := hr.2; omega
  have hN := need_of hG hq
  unfold tseP
  rw [if_neg (by omega), if_neg (by omega), sat_append, Bool.and_eq_true, cls_sat hG h8 hm hN w _ (Nat.le_refl _), sat_one]
  constructor
  · rintro ⟨h1, h2⟩
    have h3 : ∀ i, (needL gs (r / 2).toNat)[i]? = some true → (w[m + rankN (needL gs (r / 2).toNat) i]?).getD false = valC gs (w.take m) (2 * (i : Int)) := fun i hi => h1 i (by rw [← hN.len]; exact (List.getElem?_eq_some_iff.1 hi).1) hi
    refine ⟨h3, ?_⟩
    rw [(lit_val hG h8 hm hr hr2 hN.top (h3 _)).2] at h2
    exact h2
  · rintro ⟨h1, h2⟩
    refine ⟨fun i _ hi => h1 i hi, ?_⟩
    rw [(lit_val hG h8 hm hr hr2 hN.top (h1 _)).2]
    exact h2
/-- Which assignments of the right length satisfy the formula: the extensions of their inputs, where the reference is true. -/
theorem tse_ext (w : List Bool) (hw : w.length = (tseP gs r m).1) : satP w (tseP gs r m).2 = true ↔ w = extP gs r m (w.take m) ∧ evalC gs (w.take m) r = true := by
  have hq : (r / 2).toNat < gs.length := by have := hr.1; have := hr.2; have := hG.pos; omega
  have hN := need_of hG hq
  rw [eval_val hr]
  by_cases h0 : r = 0 ∨ r = 1
  · have hnone : ∀ i : Nat, ¬ (needL gs (r / 2).toNat)[i]? = some true := fun i hi => by
      have h1 := hN.low i hi
      have h2 := hN.ands i hi
      obtain rfl : i = 0 := by omega
      unfold isAnd at h2
      rw [hG.zero] at h2
      simp at h2
    have hwm : w.length = m := by
      rw [hw]
      unfold tseP
      rcases h0 with rfl | rfl <;> rfl
    have hext : extP gs r m (w.take m) = w := by
      unfold extP
      have hgo : ∀ k, extGo gs (needL gs (r / 2).toNat) (givenP m (w.take m)) k = givenP m (w.take m) := by
        intro k
        induction k with
        | zero => rfl
        | succ k ih => unfold extGo; rw [if_neg (hnone k), ih]
      rw [hgo, List.take_of_length_le (by omega), given_self hwm]
    rw [hext]
    rcases h0 with rfl | rfl
    · rw [val_true hG]; exact ⟨fun _ => ⟨rfl, rfl⟩, fun _ => rfl⟩
    · rw [val_false hG]
      refine ⟨fun h => ?_, fun h => by cases h.2⟩
      unfold tseP satP at h
      simp at h
  · have hr2 : 2 ≤ r := by have := hr.1; omega
    have hlen : w.length = m + cntN (needL gs (r / 2).toNat) := by
      rw [hw]; unfold tseP; rw [if_neg (by omega), if_neg (by omega)]
    have hgv : givenP m (w.take m) = w.take m := given_self (by rw [List.length_take]; omega)
    have hok : ∀ i : Nat, (needL gs (r / 2).toNat)[i]? = some true → Ok gs (2 * (i : Int)) := fun i hi => by
      have := (List.getElem?_eq_some_iff.1 hi).1
      rw [hN.len] at this
      exact ⟨by omega, by omega⟩
    have hat : ∀ i : Nat, (needL gs (r / 2).toNat)[i]? = some true → (extP gs r m (w.take m))[m + rankN (needL gs (r / 2).toNat) i]? = some (valC gs (w.take m) (2 * (i : Int))) := fun i hi => by
      have h1 := ext_at gs (givenP m (w.take m)) hi (by rw [← hN.len]; exact (List.getElem?_eq_some_iff.1 hi).1 : i < gs.length)
      rw [given_len] at h1
      unfold extP
      rw [h1, hgv, eval_val (hok i hi)]
    rw [tse_sat hG h8 hm hr w hr2]
    constructor
    · rintro ⟨h1, h2⟩
      refine ⟨?_, h2⟩
      have hel : (extP gs r m (w.take m)).length = m + cntN (needL gs (r / 2).toNat) := by
        unfold extP
        rw [ext_len gs _ _ (Nat.le_of_eq hN.len.symm), given_len, ← hN.len]
        rfl
      apply List.ext_getElem?
      intro i
      by_cases hi : i < m
      · have ht : (extP gs r m (w.take m)).take m = w.take m := by
          have := ext_take gs (N := needL gs (r / 2).toNat) (givenP m (w.take m)) gs.length
          rw [given_len, hgv] at this
          unfold extP
          rw [hgv]
          exact this
        have e1 := List.getElem?_take_of_lt (l := w) hi
        have e2 := List.getElem?_take_of_lt (l := extP gs r m (w.take m)) hi
        rw [← e1, ← e2, ht]
      · by_cases hi2 : i < m + cntN (needL gs (r / 2).toNat)
        · obtain ⟨j, hj, hjt, hjr⟩ := rank_at (N := needL gs (r / 2).toNat) _ (i - m) (Nat.le_refl _) (by unfold cntN at hi2; omega)
          have h3 := hat j hjt
          have h4 := h1 j hjt
          rw [hjr, show m + (i - m) = i by omega] at h3 h4
          rw [h3, ← h4, List.getElem?_eq_getElem (by omega)]
          rfl
        · rw [List.getElem?_eq_none (by omega), List.getElem?_eq_none (by omega)]
    · rintro ⟨h1, h2⟩
      refine ⟨fun i hi => ?_, h2⟩
      have h3 := hat i hi
      rw [← h1] at h3
      rw [h3]
      rfl
/-- Every extension has the right length, agrees with the inputs, and satisfies the formula where the reference is true. -/
theorem ext_tse (vals : List Bool) : (extP gs r m vals).length = (tseP gs r m).1 ∧ (extP gs r m vals).take m = givenP m vals ∧ satP (extP gs r m vals) (tseP gs r m).2 = evalC gs (givenP m vals) r := by
  have hq : (r / 2).toNat < gs.length := by have := hr.1; have := hr.2; have := hG.pos; omega
  have hN := need_of hG hq
  have ht : (extP gs r m vals).take m = givenP m vals := by
    have := ext_take gs (N := needL gs (r / 2).toNat) (givenP m vals) gs.length
    rw [given_len] at this
    exact this
  have hcnt : r < 2 → cntN (needL gs (r / 2).toNat) = 0 := fun h2 => by
    rcases Nat.eq_zero_or_pos (cntN (needL gs (r / 2).toNat)) with e | e
    · exact e
    · obtain ⟨i, _, hi, _⟩ := rank_at (N := needL gs (r / 2).toNat) _ 0 (Nat.le_refl _) e
      have h1 := hN.low i hi
      have h3 := hN.ands i hi
      obtain rfl : i = 0 := by have := hr.1; omega
      unfold isAnd at h3
      rw [hG.zero] at h3
      simp at h3
  have hel : (extP gs r m vals).length = (tseP gs r m).1 := by
    unfold extP
    rw [ext_len gs _ _ (Nat.le_of_eq hN.len.symm), given_len, ← hN.len]
    unfold tseP
    split
    · rename_i h; have := hcnt (by omega); unfold cntN at this; omega
    · split
      · rename_i h; have := hcnt (by omega); unfold cntN at this; omega
      · rfl
  refine ⟨hel, ht, ?_⟩
  have hiff := tse_ext hG h8 hm hr (extP gs r m vals) hel
  have hself : extP gs r m ((extP gs r m vals).take m) = extP gs r m vals := by
    rw [ht]
    unfold extP
    rw [given_self (given_len m vals)]
  rw [hself, ht] at hiff
  cases h1 : satP (extP gs r m vals) (tseP gs r m).2 <;> cases h2 : evalC gs (givenP m vals) r <;> rw [h1, h2] at hiff <;> simp at hiff ⊢
theorem tse_range : ∀ c ∈ (tseP gs r m).2, ∀ x ∈ c, x ≠ 0 ∧ x ≤ ((tseP gs r m).1 : Int) ∧ -((tseP gs r m).1 : Int) ≤ x := by
  have hq : (r / 2).toNat < gs.length := by have := hr.1; have := hr.2; have := hG.pos; omega
  have hN := need_of hG hq
  unfold tseP
  by_cases h0 : r = 0
  · rw [if_pos h0]; intro c hc; simp at hc
  · by_cases h1 : r = 1
    · rw [if_neg h0, if_pos h1]; intro c hc; simp at hc; subst hc; intro x hx; simp at hx
    · rw [if_neg h0, if_neg h1]
      intro c hc
      rw [List.mem_append] at hc
      rcases hc with hc | hc
      · exact cls_range hG h8 hm hN _ (Nat.le_refl _) c hc
      · simp at hc
        subst hc
        intro x hx
        simp at hx
        subst hx
        exact lit_range hG h8 hm hr (by have := hr.1; omega) hN.top
end
/-- How many clauses there are. -/
theorem tse_len {gs : List Gt} (hG : Good gs) {m : Nat} {r : Int} (hr : Ok gs r) (hr2 : 2 ≤ r) : (tseP gs r m).2.length = 3 * ((tseP gs r m).1 - m) + 1 ∧ m ≤ (tseP gs r m).1 := by
  have hq : (r / 2).toNat < gs.length := by have := hr.1; have := hr.2; have := hG.pos; omega
  have hN := need_of hG hq
  unfold tseP
  rw [if_neg (by omega), if_neg (by omega)]
  refine ⟨?_, by simp⟩
  rw [List.length_append, cls_len gs m _ (Nat.le_of_eq hN.len.symm)]
  simp only [List.length_cons, List.length_nil]
  unfold cntN
  rw [hN.len]
  omega
theorem cnt_le {gs : List Gt} {N : List Bool} {q : Nat} (h : Need gs q N) : cntN N ≤ gs.length := by
  have := rank_le N N.length
  unfold cntN
  rw [h.len] at this ⊢
  exact this
/-- The formula of the opposite reference. -/
theorem tse_not {gs : List Gt} {m : Nat} {r : Int} (hr2 : 2 ≤ r) : ∃ C x, tseP gs r m = (m + cntN (needL gs (r / 2).toNat), C ++ [[x]]) ∧ tseP gs (notR r) m = (m + cntN (needL gs (r / 2).toNat), C ++ [[-x]]) ∧ ∀ c ∈ C, c.length ≤ 3 ∧ 1 ≤ c.length := by
  have hh := notR_half (r := r) (by omega)
  refine ⟨clsGo gs m (needL gs (r / 2).toNat) gs.length, litN gs m (needL gs (r / 2).toNat) r, ?_, ?_, cls_three gs m _ _⟩
  · unfold tseP; rw [if_neg (by omega), if_neg (by omega)]
  · have hn2 : 2 ≤ notR r := by
      rcases Int.emod_two_eq r with e | e
      · rw [notR_even (by omega) e]; omega
      · rw [notR_odd (by omega) (by omega)]; omega
    unfold tseP
    rw [if_neg (by omega), if_neg (by omega), hh]
    congr 4
    unfold litN
    rw [hh]
    rcases Int.emod_two_eq r with e | e
    · rw [notR_even (by omega) e, if_pos (by omega), if_neg (by omega)]
    · rw [notR_odd (by omega) (by omega), if_neg (by omega), if_pos e, Int.neg_neg]
end Go.Proofs.YthkjjiijjedipaaDoor

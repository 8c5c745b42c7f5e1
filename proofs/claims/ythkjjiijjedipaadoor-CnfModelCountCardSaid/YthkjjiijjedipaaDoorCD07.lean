/- Texts of the proof: N1. -/
import Derived.Test.YthkjjiijjedipaaDoorCD06
namespace Go.Proofs.YthkjjiijjedipaaDoor

def isAnd (gs : List Gt) (i : Nat) : Bool := match gs[i]? with | some g => decide (g.1 = 2) | none => false
def lowA (gs : List Gt) (i : Nat) : Nat := match gs[i]? with | some g => (g.2.1 / 2).toNat | none => 0
def lowB (gs : List Gt) (i : Nat) : Nat := match gs[i]? with | some g => (g.2.2 / 2).toNat | none => 0
/-- One gate is looked at. -/
def needOne (gs : List Gt) (M : List Bool) (i : Nat) : List Bool :=
  if (M[i]?).getD false && isAnd gs i then ((M.set i true).set (lowA gs i) true).set (lowB gs i) true else M.set i false
def needGo (gs : List Gt) : Nat → List Bool → List Bool
  | 0, M => M
  | k + 1, M => needGo gs k (needOne gs M k)
/-- Which gates are needed. -/
def needL (gs : List Gt) (q : Nat) : List Bool := needGo gs gs.length ((List.replicate gs.length false).set q true)

def KeptN (gs : List Gt) (k : Nat) (M : List Bool) (p : Nat) : Prop := (p < k → M[p]? = some true) ∧ (k ≤ p → isAnd gs p = true → M[p]? = some true)
structure NeedInv (gs : List Gt) (q k : Nat) (M : List Bool) : Prop where
  len : M.length = gs.length
  ands : ∀ i, k ≤ i → M[i]? = some true → isAnd gs i = true
  top : KeptN gs k M q
  low : ∀ i, M[i]? = some true → i ≤ q
  shut : ∀ (i : Nat) (g : Gt), k ≤ i → M[i]? = some true → gs[i]? = some g → KeptN gs k M (g.2.1 / 2).toNat ∧ KeptN gs k M (g.2.2 / 2).toNat
theorem low_lt {gs : List Gt} (h : Good gs) {k : Nat} {g : Gt} (hg : gs[k]? = some g) (ha : isAnd gs k = true) : g.1 = 2 ∧ 2 ≤ g.2.1 ∧ 2 ≤ g.2.2 ∧ (g.2.1 / 2).toNat < k ∧ (g.2.2 / 2).toNat < k ∧ lowA gs k = (g.2.1 / 2).toNat ∧ lowB gs k = (g.2.2 / 2).toNat := by
  have h2 : g.1 = 2 := by unfold isAnd at ha; rw [hg] at ha; exact of_decide_eq_true ha
  have hk : 0 < k := by
    rcases Nat.eq_zero_or_pos k with e | e
    · subst e; rw [h.zero] at hg; cases hg; simp at h2
    · exact e
  rcases h.form k g hk hg with h1 | h1
  · omega
  · obtain ⟨_, h3, h4, h5, _⟩ := h1
    refine ⟨h2, h3, by omega, by omega, by omega, ?_, ?_⟩
    · unfold lowA; rw [hg]
    · unfold lowB; rw [hg]
theorem needOne_len (gs : List Gt) (M : List Bool) (i : Nat) : (needOne gs M i).length = M.length := by unfold needOne; split <;> simp
theorem set_true_mono {M : List Bool} {j p : Nat} (hp : M[p]? = some true) : (M.set j true)[p]? = some true := by
  have hpl := (List.getElem?_eq_some_iff.1 hp).1
  by_cases e : j = p
  · subst e; rw [List.getElem?_set_self hpl]
  · rw [List.getElem?_set_ne e]; exact hp
theorem needOne_mono {gs : List Gt} {M : List Bool} {k p : Nat} (hp : M[p]? = some true) (hk : p = k → isAnd gs k = true) : (needOne gs M k)[p]? = some true := by
  unfold needOne
  split
  · exact set_true_mono (set_true_mono (set_true_mono hp))
  · rename_i h
    by_cases e : k = p
    · subst e
      rw [hp, hk rfl] at h
      simp at h
    · rw [List.getElem?_set_ne e]; exact hp
theorem needOne_above {gs : List Gt} (h : Good gs) {M : List Bool} {k i : Nat} (hk : k < gs.length) (hi : k < i) : (needOne gs M k)[i]? = M[i]? := by
  unfold needOne
  split
  · rename_i hx
    rw [Bool.and_eq_true] at hx
    obtain ⟨g, hg⟩ : ∃ g, gs[k]? = some g := ⟨_, List.getElem?_eq_getElem hk⟩
    obtain ⟨_, _, _, h1, h2, e1, e2⟩ := low_lt h hg hx.2
    rw [e1, e2, List.getElem?_set_ne (by omega), List.getElem?_set_ne (by omega), List.getElem?_set_ne (by omega)]
  · rw [List.getElem?_set_ne (by omega)]
theorem needOne_at {gs : List Gt} {M : List Bool} {k : Nat} (hkM : k < M.length) (ht : (needOne gs M k)[k]? = some true) : (M[k]?).getD false = true ∧ isAnd gs k = true := by
  unfold needOne at ht
  split at ht
  · rename_i hx
    rw [Bool.and_eq_true] at hx
    exact hx
  · rw [List.getElem?_set_self hkM] at ht
    cases ht
theorem KeptN.step {gs : List Gt} {M : List Bool} {k p : Nat} (h : KeptN gs (k + 1) M p) : KeptN gs k (needOne gs M k) p := by
  constructor
  · intro hp
    exact needOne_mono (h.1 (by omega)) (fun e => by omega)
  · intro hp ha
    by_cases e : p = k
    · subst e
      exact needOne_mono (h.1 (by omega)) (fun _ => ha)
    · exact needOne_mono (h.2 (by omega) ha) (fun e2 => absurd e2 e)
theorem NeedInv.step {gs : List Gt} (hG : Good gs) {q k : Nat} {M : List Bool} (h : NeedInv gs q (k + 1) M) (hk : k < gs.length) : NeedInv gs q k (needOne gs M k) := by
  have hkM : k < M.length := by rw [h.len]; exact hk
  refine ⟨by rw [needOne_len]; exact h.len, fun i hi ht => ?_, h.top.step, fun i ht => ?_, fun i g hi ht hg => ?_⟩
  · by_cases e : i = k
    · subst e; exact (needOne_at hkM ht).2
    · rw [needOne_above hG hk (by omega)] at ht
      exact h.ands i (by omega) ht
  · have hget : (M[k]?).getD false = true → M[k]? = some true := fun hh => by
      cases hz : M[k]? with
      | none => rw [hz] at hh; cases hh
      | some z => rw [hz] at hh; simp only [Option.getD_some] at hh; rw [hh]
    by_cases e : k < i
    · rw [needOne_above hG hk e] at ht
      exact h.low i ht
    · by_cases e2 : i = k
      · subst e2
        exact h.low i (hget (needOne_at hkM ht).1)
      · by_cases hx : (M[k]?).getD false = true
        · have := h.low k (hget hx)
          omega
        · unfold needOne at ht
          rw [if_neg (by simp [hx]), List.getElem?_set_ne (by omega)] at ht
          exact h.low i ht
  · by_cases e : i = k
    · subst e
      obtain ⟨hx, ha⟩ := needOne_at hkM ht
      obtain ⟨_, _, _, h1, h2, e1, e2⟩ := low_lt hG hg ha
      have hM : needOne gs M i = ((M.set i true).set (lowA gs i) true).set (lowB gs i) true := by unfold needOne; rw [hx, ha]; rfl
      rw [hM, e1, e2]
      have hl : M.length = gs.length := h.len
      constructor
      · refine ⟨fun _ => ?_, fun hh => by omega⟩
        exact set_true_mono (by rw [List.getElem?_set_self (by rw [List.length_set]; omega)])
      · refine ⟨fun _ => ?_, fun hh => by omega⟩
        rw [List.getElem?_set_self (by rw [List.length_set, List.length_set]; omega)]
    · rw [needOne_above hG hk (by omega)] at ht
      obtain ⟨h1, h2⟩ := h.shut i g (by omega) ht hg
      exact ⟨h1.step, h2.step⟩
theorem needGo_inv {gs : List Gt} (hG : Good gs) {q : Nat} : ∀ (k : Nat) (M : List Bool), k ≤ gs.length → NeedInv gs q k M → NeedInv gs q 0 (needGo gs k M)
  | 0, _, _, h => h
  | k + 1, _, hk, h => needGo_inv hG k _ (by omega) (h.step hG (by omega))
theorem need_inv {gs : List Gt} (hG : Good gs) {q : Nat} (hq : q < gs.length) : NeedInv gs q 0 (needL gs q) := by
  refine needGo_inv hG _ _ (Nat.le_refl _) ⟨by simp, fun i hi ht => ?_, ⟨fun _ => ?_, fun h => by omega⟩, fun i ht => ?_, fun i g hi ht hg => ?_⟩
  · have := (List.getElem?_eq_some_iff.1 ht).1; simp at this; omega
  · rw [List.getElem?_set_self (by simpa using hq)]
  · by_cases e : q = i
    · omega
    · rw [List.getElem?_set_ne e, List.getElem?_replicate] at ht
      split at ht <;> cases ht
  · have := (List.getElem?_eq_some_iff.1 ht).1; simp at this; omega

/-- What is known of the needed gates. -/
structure Need (gs : List Gt) (q : Nat) (N : List Bool) : Prop where
  len : N.length = gs.length
  ands : ∀ i, N[i]? = some true → isAnd gs i = true
  top : isAnd gs q = true → N[q]? = some true
  low : ∀ i, N[i]? = some true → i ≤ q
  shut : ∀ (i : Nat) (g : Gt), N[i]? = some true → gs[i]? = some g → (isAnd gs (g.2.1 / 2).toNat = true → N[(g.2.1 / 2).toNat]? = some true) ∧ (isAnd gs (g.2.2 / 2).toNat = true → N[(g.2.2 / 2).toNat]? = some true)
theorem need_of {gs : List Gt} (hG : Good gs) {q : Nat} (hq : q < gs.length) : Need gs q (needL gs q) := by
  have h := need_inv hG hq
  exact ⟨h.len, fun i ht => h.ands i (Nat.zero_le _) ht, fun ha => h.top.2 (Nat.zero_le _) ha, h.low, fun i g ht hg => ⟨fun ha => (h.shut i g (Nat.zero_le _) ht hg).1.2 (Nat.zero_le _) ha, fun ha => (h.shut i g (Nat.zero_le _) ht hg).2.2 (Nat.zero_le _) ha⟩⟩

/-- How many needed gates lie below a place. -/
def rankN (N : List Bool) (i : Nat) : Nat := (N.take i).countP id
theorem rank_succ {N : List Bool} {i : Nat} {z : Bool} (h : N[i]? = some z) : rankN N (i + 1) = rankN N i + (if z = true then 1 else 0) := by
  unfold rankN
  rw [List.take_add_one, h, List.countP_append]
  cases z <;> simp
theorem rank_mono {N : List Bool} : ∀ (d i : Nat), rankN N i ≤ rankN N (i + d)
  | 0, i => Nat.le_refl _
  | d + 1, i => by
    have h := rank_mono (N := N) d i
    rw [show i + (d + 1) = (i + d) + 1 by omega]
    cases hz : N[i + d]? with
    | some z => rw [rank_succ hz]; omega
    | none =>
      have hl : N.length ≤ i + d := List.getElem?_eq_none_iff.1 hz
      unfold rankN at h ⊢
      rw [List.take_of_length_le (show N.length ≤ i + d + 1 by omega)]
      rw [List.take_of_length_le (show N.length ≤ i + d by omega)] at h
      exact h
theorem rank_lt {N : List Bool} {i j : Nat} (h : N[i]? = some true) (hij : i < j) : rankN N i < rankN N j := by
  have h1 := rank_succ h
  have h2 := rank_mono (N := N) (j - (i + 1)) (i + 1)
  rw [show i + 1 + (j - (i + 1)) = j by omega] at h2
  rw [if_pos rfl] at h1
  omega
theorem rank_le (N : List Bool) (i : Nat) : rankN N i ≤ i := by
  unfold rankN
  have := List.countP_le_length (p := id) (l := N.take i)
  simp at this
  omega
def cntN (N : List Bool) : Nat := rankN N N.length
theorem rank_cnt {N : List Bool} {i : Nat} (h : N[i]? = some true) : rankN N i < cntN N := rank_lt h (List.getElem?_eq_some_iff.1 h).1
theorem rank_at {N : List Bool} : ∀ (n k : Nat), n ≤ N.length → k < rankN N n → ∃ i, i < n ∧ N[i]? = some true ∧ rankN N i = k
  | 0, k, _, h => by simp [rankN] at h
  | n + 1, k, hn, h => by
    obtain ⟨z, hz⟩ : ∃ z, N[n]? = some z := ⟨_, List.getElem?_eq_getElem (by omega)⟩
    rw [rank_succ hz] at h
    cases z with
    | false => obtain ⟨i, h1, h2⟩ := rank_at (N := N) n k (by omega) (by simpa using h); exact ⟨i, Nat.lt_succ_of_lt h1, h2⟩
    | true =>
      by_cases e : k = rankN N n
      · exact ⟨n, Nat.lt_succ_self n, hz, e.symm⟩
      · obtain ⟨i, h1, h2⟩ := rank_at (N := N) n k (by omega) (by simp at h; omega); exact ⟨i, Nat.lt_succ_of_lt h1, h2⟩

/-- The variable of a gate. -/
def vOf (gs : List Gt) (m : Nat) (N : List Bool) (i : Nat) : Int :=
  if N[i]? = some true then ((m + rankN N i + 1 : Nat) : Int) else match gs[i]? with | some g => if g.1 = 1 then g.2.1 else 0 | none => 0
def litN (gs : List Gt) (m : Nat) (N : List Bool) (r : Int) : Int := if r % 2 = 1 then -(vOf gs m N (r / 2).toNat) else vOf gs m N (r / 2).toNat
def triN (v a b : Int) : List (List Int) := [[-v, a], [-v, b], [v, -a, -b]]
def gateA (gs : List Gt) (i : Nat) : Int := match gs[i]? with | some g => g.2.1 | none => 0
def gateB (gs : List Gt) (i : Nat) : Int := match gs[i]? with | some g => g.2.2 | none => 0
def triAt (gs : List Gt) (m : Nat) (N : List Bool) (i : Nat) : List (List Int) := triN ((m + rankN N i + 1 : Nat) : Int) (litN gs m N (gateA gs i)) (litN gs m N (gateB gs i))
def clsGo (gs : List Gt) (m : Nat) (N : List Bool) : Nat → List (List Int)
  | 0 => []
  | k + 1 => if N[k]? = some true then clsGo gs m N k ++ triAt gs m N k else clsGo gs m N k
/-- The formula of a reference: the number of its variables, and its clauses. -/
def tseP (gs : List Gt) (r : Int) (m : Nat) : Nat × List (List Int) :=
  if r = 0 then (m, []) else if r = 1 then (m, [[]])
  else (m + cntN (needL gs (r / 2).toNat), clsGo gs m (needL gs (r / 2).toNat) gs.length ++ [[litN gs m (needL gs (r / 2).toNat) r]])

def holdsP (w : List Bool) (x : Int) : Bool := if x < 0 then !((w[(-x - 1).toNat]?).getD false) else decide (0 < x) && (w[(x - 1).toNat]?).getD false
def satP (w : List Bool) (cls : List (List Int)) : Bool := cls.all fun c => c.any (holdsP w)
theorem holds_neg (w : List Bool) {x : Int} (h : x ≠ 0) : holdsP w (-x) = !holdsP w x := by
  unfold holdsP
  by_cases h1 : x < 0
  · rw [if_neg (by omega), if_pos h1, decide_eq_true (by omega : 0 < -x)]
    simp
  · rw [if_pos (by omega), if_neg h1, decide_eq_true (by omega : 0 < x), show - -x - 1 = x - 1 by omega]
    simp
theorem holds_pos (w : List Bool) {n : Nat} : holdsP w ((n + 1 : Nat) : Int) = (w[n]?).getD false := by
  unfold holdsP
  rw [if_neg (by omega), decide_eq_true (by omega : 0 < ((n + 1 : Nat) : Int)), show (((n + 1 : Nat) : Int) - 1).toNat = n by omega]
  simp
theorem tri_sat (w : List Bool) {v a b : Int} (hv : v ≠ 0) (ha : a ≠ 0) (hb : b ≠ 0) : satP w (triN v a b) = (holdsP w v == (holdsP w a && holdsP w b)) := by
  unfold satP triN
  simp only [List.all_cons, List.all_nil, List.any_cons, List.any_nil, holds_neg w hv, holds_neg w ha, holds_neg w hb]
  cases holdsP w v <;> cases holdsP w a <;> cases holdsP w b <;> rfl
theorem sat_append (w : List Bool) (A B : List (List Int)) : satP w (A ++ B) = (satP w A && satP w B) := by unfold satP; rw [List.all_append]
theorem sat_one (w : List Bool) (x : Int) : satP w [[x]] = holdsP w x := by unfold satP; simp
end Go.Proofs.YthkjjiijjedipaaDoor

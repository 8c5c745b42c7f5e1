/- The sorting network, plain: its comparators, what they do to references and to truth values. -/
import Derived.Test.YthagoihpppppkaaN1
namespace Go.Proofs.Ythagoihpppppkaa

def loopL (lim step : Nat) : Nat → Nat → List (Nat × Nat)
  | 0, _ => []
  | f + 1, i => if i + step < lim then (i, i + step) :: loopL lim step f (i + 2 * step) else []
def mergL (lim : Nat) : Nat → Nat → Nat → List (Nat × Nat)
  | 0, start, st => [(start, start + st)]
  | d + 1, start, st => mergL lim d start (2 * st) ++ mergL lim d (start + st) (2 * st) ++ loopL lim st lim (start + st)
/-- The comparators for 2 ^ k elements from first on. -/
def msL : Nat → Nat → List (Nat × Nat)
  | 0, _ => []
  | k + 1, first => msL k first ++ msL k (first + 2 ^ k) ++ mergL (first + 2 ^ (k + 1)) k first 1
def kOf (n : Nat) : Nat := if n ≤ 1 then 0 else if n ≤ 2 then 1 else if n ≤ 4 then 2 else if n ≤ 8 then 3 else 4
theorem kOf_le (n : Nat) : kOf n ≤ 4 := by unfold kOf; split; omega; split; omega; split; omega; split <;> omega
def cmpP (out : List Int) (ij : Nat × Nat) : Pr (List Int) :=
  if ij.2 < out.length then (orP (out.getD ij.1 0) (out.getD ij.2 0)).bind fun r => (andP (out.getD ij.1 0) (out.getD ij.2 0)).bind fun q => .ret ((out.set ij.1 r).set ij.2 q) else .ret out
def vCmp (v : List Bool) (ij : Nat × Nat) : List Bool :=
  if ij.2 < v.length then (v.set ij.1 (v.getD ij.1 false || v.getD ij.2 false)).set ij.2 (v.getD ij.1 false && v.getD ij.2 false) else v
def sorterP (l : List Int) : Pr (List Int) := foldP cmpP (msL (kOf l.length) 0) l
/-- A number in unary. -/
def unary (n m : Nat) : List Bool := (List.range m).map (fun i => decide (i < n))
def allVec : Nat → List (List Bool)
  | 0 => [[]]
  | n + 1 => (allVec n).flatMap fun v => [true :: v, false :: v]
theorem mem_allVec : ∀ v : List Bool, v ∈ allVec v.length
  | [] => by simp [allVec]
  | b :: v => by
    have := mem_allVec v
    simp only [List.length_cons, allVec, List.mem_flatMap]
    exact ⟨v, this, by cases b <;> simp⟩
def sortsB (n : Nat) : Bool := (allVec n).all fun v => (msL (kOf n) 0).foldl vCmp v == unary (v.count true) n
theorem sorts_all : (sortsB 0 && sortsB 1 && sortsB 2 && sortsB 3 && sortsB 4 && sortsB 5 && sortsB 6 && sortsB 7 && sortsB 8 && sortsB 9) = true := by decide +kernel
theorem sorts {v : List Bool} (h : v.length ≤ 9) : (msL (kOf v.length) 0).foldl vCmp v = unary (v.count true) v.length := by
  have ha := sorts_all
  simp only [Bool.and_eq_true] at ha
  have hs : sortsB v.length = true := by
    obtain ⟨n, hn⟩ : ∃ n, v.length = n := ⟨_, rfl⟩
    rw [hn] at h ⊢
    match n, h with
    | 0, _ => exact ha.1.1.1.1.1.1.1.1.1
    | 1, _ => exact ha.1.1.1.1.1.1.1.1.2
    | 2, _ => exact ha.1.1.1.1.1.1.1.2
    | 3, _ => exact ha.1.1.1.1.1.1.2
    | 4, _ => exact ha.1.1.1.1.1.2
    | 5, _ => exact ha.1.1.1.1.2
    | 6, _ => exact ha.1.1.1.2
    | 7, _ => exact ha.1.1.2
    | 8, _ => exact ha.1.2
    | 9, _ => exact ha.2
    | n + 10, h => exact absurd h (by omega)
  have := List.all_eq_true.1 hs v (mem_allVec v)
  simpa using this
theorem comps (k : Nat) (h : k ≤ 4) : (msL k 0).length ≤ 63 ∧ ∀ x ∈ msL k 0, x.1 < x.2 := by
  match k, h with
  | 0, _ => decide +kernel
  | 1, _ => decide +kernel
  | 2, _ => decide +kernel
  | 3, _ => decide +kernel
  | 4, _ => decide +kernel
  | k + 5, h => exact absurd h (by omega)
theorem most_cmpP (out : List Int) (ij : Nat × Nat) : (cmpP out ij).most 2 := by
  unfold cmpP
  split
  · exact Pr.most_bind (m := 1) (n := 1) (fun r => Pr.most_bind (m := 1) (n := 0) (f := fun q => Pr.ret ((out.set ij.1 r).set ij.2 q)) (fun q => trivial) _ (most_andP _ _)) _ (most_orP _ _)
  · trivial
theorem most_sorterP (l : List Int) : (sorterP l).most 126 := Pr.most_mono _ (by have := (comps _ (kOf_le l.length)).1; omega) (most_foldP most_cmpP _ _)
theorem Grew.ok {gs g : List Gt} {n : Nat} (h : Grew gs n g) {r : Int} (hr : Ok gs r) : Ok g r := Ok.grow h.pre hr
theorem Grew.val {gs g : List Gt} {n : Nat} (h : Grew gs n g) {values : List Bool} {r : Int} (hr : Ok gs r) : valC g values r = valC gs values r := val_grow h.pre hr
theorem Grew.vals {gs g : List Gt} {n : Nat} (h : Grew gs n g) {values : List Bool} {l : List Int} (hl : ∀ r ∈ l, Ok gs r) : l.map (valC g values) = l.map (valC gs values) := List.map_congr_left fun r hr => h.val (hl r hr)
theorem getD_map {l : List Int} {f : Int → Bool} {i : Nat} (hi : i < l.length) : (l.map f).getD i false = f (l.getD i 0) := by
  simp [List.getD_eq_getElem?_getD, List.getElem?_map, List.getElem?_eq_getElem hi]
theorem getD_in {l : List Int} {i : Nat} (hi : i < l.length) : l.getD i 0 ∈ l := by
  simp only [List.getD_eq_getElem?_getD, List.getElem?_eq_getElem hi, Option.getD_some]; exact List.getElem_mem hi
theorem safe_cmpP {gs : List Gt} (hg : Good gs) (hl : gs.length < 19990) {out : List Int} (ho : ∀ r ∈ out, Ok gs r) {ij : Nat × Nat} (hij : ij.1 < ij.2) :
    (cmpP out ij).safe gs (fun g t => Grew gs 2 g ∧ (∀ r ∈ t, Ok g r) ∧ ∀ values, t.map (valC g values) = vCmp (out.map (valC gs values)) ij) := by
  unfold cmpP
  by_cases hj : ij.2 < out.length
  · rw [if_pos hj]
    have h1 := ho _ (getD_in (show ij.1 < out.length by omega))
    have h2 := ho _ (getD_in hj)
    refine Pr.safe_bind _ (Pr.safe_mono (fun g r hr => ?_) _ (safe_orP hg (by omega) h1 h2))
    obtain ⟨w1, o1, v1⟩ := hr
    refine Pr.safe_bind _ (Pr.safe_mono (fun g' q hq => ?_) _ (safe_andP w1.good (by have := w1.len; omega) (w1.ok h1) (w1.ok h2)))
    obtain ⟨w2, o2, v2⟩ := hq
    refine ⟨w1.trans w2, fun x hx => ?_, fun values => ?_⟩
    · rcases List.mem_or_eq_of_mem_set hx with hx | rfl
      · rcases List.mem_or_eq_of_mem_set hx with hx | rfl
        · exact (w1.trans w2).ok (ho x hx)
        · exact w2.ok o1
      · exact o2
    · rw [List.map_set, List.map_set, (w1.trans w2).vals ho, v2, w2.val o1, v1, w1.val h1, w1.val h2]
      unfold vCmp
      rw [if_pos (by simpa using hj), getD_map (show ij.1 < out.length by omega), getD_map hj]
  · rw [if_neg hj]
    refine ⟨(Grew.refl hg).wide (by omega), ho, fun values => ?_⟩
    unfold vCmp
    rw [if_neg (by simpa using hj)]
theorem len_vCmp (v : List Bool) (ij : Nat × Nat) : (vCmp v ij).length = v.length := by unfold vCmp; split <;> simp
theorem foldl_take_succ {α β : Type} (f : α → β → α) (l : List β) (a : α) {j : Nat} {x : β} (hj : l[j]? = some x) : (l.take (j + 1)).foldl f a = f ((l.take j).foldl f a) x := by
  rw [List.take_add_one, hj, List.foldl_append]; rfl
/-- Sorting: the answers are references, and their values are the inputs' values, sorted. -/
theorem safe_sorterP {gs : List Gt} (hg : Good gs) (hl : gs.length ≤ 19000) {l : List Int} (ho : ∀ r ∈ l, Ok gs r) :
    (sorterP l).safe gs (fun g t => Grew gs 126 g ∧ (∀ r ∈ t, Ok g r) ∧ t.length = l.length ∧ (l.length ≤ 9 → ∀ values, t.map (valC g values) = unary ((l.map (valC gs values)).count true) l.length)) := by
  have hc := comps _ (kOf_le l.length)
  obtain ⟨L, hL⟩ : ∃ L, msL (kOf l.length) 0 = L := ⟨_, rfl⟩
  rw [hL] at hc
  have hI := safe_foldP (f := cmpP) (fun g k t => Grew gs (2 * k) g ∧ (∀ r ∈ t, Ok g r) ∧ ∀ values, t.map (valC g values) = (L.take k).foldl vCmp (l.map (valC gs values))) L 0 gs l ⟨Grew.refl hg, ho, fun _ => rfl⟩ (fun j x g t hj ht => by
    obtain ⟨t1, t2, t3⟩ := ht
    have hjl := (List.getElem?_eq_some_iff.1 hj).1
    refine Pr.safe_mono (fun g' t' h' => ?_) _ (safe_cmpP t1.good (by have := t1.len; have := hc.1; omega) t2 (hc.2 x (List.mem_of_getElem? hj)))
    obtain ⟨u1, u2, u3⟩ := h'
    exact ⟨(t1.trans u1).wide (by omega), u2, fun values => by rw [u3, t3, Nat.zero_add, foldl_take_succ vCmp L _ hj]⟩)
  have e : sorterP l = foldP cmpP L l := by unfold sorterP; rw [hL]
  rw [e]
  refine Pr.safe_mono (fun g t ht => ?_) _ hI
  obtain ⟨t1, t2, t3⟩ := ht
  rw [Nat.zero_add, List.take_length] at t3
  have hlen : ∀ (L : List (Nat × Nat)) (v : List Bool), (L.foldl vCmp v).length = v.length := fun L => by
    induction L with
    | nil => intro v; rfl
    | cons x L ih => intro v; rw [List.foldl_cons, ih, len_vCmp]
  refine ⟨t1.wide (by have := hc.1; omega), t2, ?_, fun h9 values => ?_⟩
  · have := congrArg List.length (t3 [])
    rw [hlen] at this
    simpa using this
  · rw [t3, ← hL]
    have := sorts (v := l.map (valC gs values)) (by simpa using h9)
    simpa using this
theorem cst_sorterP {l : List Int} (h : ∀ r ∈ l, r = 0 ∨ r = 1) : (sorterP l).cst (fun t => (∀ r ∈ t, r = 0 ∨ r = 1)) := by
  unfold sorterP
  refine cst_foldP (I := fun t => ∀ r ∈ t, r = 0 ∨ r = 1) (fun s x hs => ?_) _ _ h
  have hg : ∀ i, s.getD i 0 = 0 ∨ s.getD i 0 = 1 := fun i => by
    by_cases hi : i < s.length
    · exact hs _ (getD_in hi)
    · left; simp [List.getD_eq_getElem?_getD, List.getElem?_eq_none (Nat.not_lt.1 hi)]
  unfold cmpP
  split
  · refine Pr.cst_bind _ (Pr.cst_mono (fun r hr => Pr.cst_bind _ (Pr.cst_mono (fun q hq => ?_) _ (cst_andP (hg _) (hg _)))) _ (cst_orP (hg _) (hg _)))
    intro y hy
    rcases List.mem_or_eq_of_mem_set hy with hy | rfl
    · rcases List.mem_or_eq_of_mem_set hy with hy | rfl
      · exact hs y hy
      · exact hr
    · exact hq
  · exact hs
end Go.Proofs.Ythagoihpppppkaa

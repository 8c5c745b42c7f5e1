/- What the laws share: what comes in, in memory; what the answers denote. -/
import Derived.Test.YthagoihpppppkaaS3
namespace Go.Proofs.Ythagoihpppppkaa
open Go.RowKit Go.Maps

/-- The argument of a law, in memory. -/
structure RawIn (w : World) (l : List Stp) (A B : List Nat) (vals : List Bool) (y : Int) (sa : Option Addr) (sc : Nat) (aa : Option Addr) (ac : Nat) (ba : Option Addr) (bc : Nat) (va : Option Addr) (vc : Nat) : Prop where
  s : StpsW w sa sc l
  a : U8sW w aa ac A
  b : U8sW w ba bc B
  v : BoolsW w va vc vals
  oks : ∀ s ∈ l, StpOk s
  oka : ∀ z ∈ A, z < 256
  okb : ∀ z ∈ B, z < 256
  oky : -128 ≤ y ∧ y ≤ 127
theorem RawIn.grown {w w' : World} {l : List Stp} {A B : List Nat} {vals : List Bool} {y : Int} {sa : Option Addr} {sc : Nat} {aa : Option Addr} {ac : Nat} {ba : Option Addr} {bc : Nat} {va : Option Addr} {vc : Nat} (h : RawIn w l A B vals y sa sc aa ac ba bc va vc) (hg : w.grownBy w' none) : RawIn w' l A B vals y sa sc aa ac ba bc va vc :=
  ⟨h.s.grown hg, h.a.grown hg, h.b.grown hg, h.v.grown hg, h.oks, h.oka, h.okb, h.oky⟩
/-- Its box. -/
structure RawB (w : World) (bX : Nat) (sa : Option Addr) (nl sc : Nat) (aa : Option Addr) (na ac : Nat) (ba : Option Addr) (nb bc : Nat) (va : Option Addr) (nv vc : Nat) (y : Int) : Prop where
  c0 : w.cell? ⟨bX, 0, none⟩ = some (.slice sa nl sc)
  c1 : w.cell? ⟨bX, 1, none⟩ = some (.slice aa na ac)
  c2 : w.cell? ⟨bX, 2, none⟩ = some (.slice ba nb bc)
  c3 : w.cell? ⟨bX, 3, none⟩ = some (.slice va nv vc)
  c4 : w.cell? ⟨bX, 4, none⟩ = some (.int .i8 y)
theorem RawB.grown {w w' : World} {bX : Nat} {sa : Option Addr} {nl sc : Nat} {aa : Option Addr} {na ac : Nat} {ba : Option Addr} {nb bc : Nat} {va : Option Addr} {nv vc : Nat} {y : Int} (h : RawB w bX sa nl sc aa na ac ba nb bc va nv vc y) (hg : w.grownBy w' none) : RawB w' bX sa nl sc aa na ac ba nb bc va nv vc y :=
  ⟨hg.cell h.c0 (by simp), hg.cell h.c1 (by simp), hg.cell h.c2 (by simp), hg.cell h.c3 (by simp), hg.cell h.c4 (by simp)⟩
def AnsIn (w : World) (g : List Gt) (l m : List Int) (n k : Nat) (x : Ending) (w' : World) : Prop := ∃ a c b d b2 d2, x = .returned (.tuple #[.agg #[.slice a g.length c], .slice b n d, .slice b2 k d2]) ∧ GatesW w' a c g ∧ IntsW w' b d l ∧ IntsW w' b2 d2 m ∧ w.grownBy w' none
theorem inputs_n (l : List Stp) (A B : List Nat) (vals : List Bool) (y : Int) (sa : Option Addr) (sc : Nat) (aa : Option Addr) (ac : Nat) (ba : Option Addr) (bc : Nat) (va : Option Addr) (vc : Nat) {nl na nb nv : Nat} (w : World) (h : RawIn w l A B vals y sa sc aa ac ba bc va vc) (hl : l.length = nl) (hA : A.length = na) (hB : B.length = nb) (hs : nl ≤ 40 ∧ na ≤ 9 ∧ nb ≤ 9) :
    ∃ g0 la lb, Good g0 ∧ g0.length ≤ 121 ∧ (∀ r ∈ la, Ok g0 r) ∧ (∀ r ∈ lb, Ok g0 r) ∧ la.length = na ∧ lb.length = nb ∧ Calls Try.prog 12 #[.agg #[.slice sa nl sc, .slice aa na ac, .slice ba nb bc, .slice va nv vc, .int .i8 y]] w (AnsIn w g0 la lb na nb) := by
  subst hl hA hB
  obtain ⟨p, hp⟩ : ∃ p, buildC l = p := ⟨_, rfl⟩
  obtain ⟨g0, refs⟩ := p
  have hb := built l (by omega)
  rw [hp] at hb
  have hlen : g0.length ≤ 121 := by have := hb.len; simp only at this; omega
  refine ⟨g0, A.map (pickL refs), B.map (pickL refs), hb.good, hlen, fun r hr => ?_, fun r hr => ?_, List.length_map .., List.length_map .., ?_⟩
  · obtain ⟨z, _, rfl⟩ := List.mem_map.1 hr; exact pick_ok hb.good.pos hb.ok z
  · obtain ⟨z, _, rfl⟩ := List.mem_map.1 hr; exact pick_ok hb.good.pos hb.ok z
  · have h1 := inputs_calls l A B sa sc aa ac ba bc va nv vc y w g0 refs hp h.s h.a h.b hs.1 hs.2.1 hs.2.2 h.oks h.oka h.okb
    refine h1.mono (fun x w' hh => ?_)
    obtain ⟨a, c, b, d, b2, d2, e, h2, h3, h4, h5⟩ := hh
    exact ⟨a, c, b, d, b2, d2, by rw [e, List.length_map, List.length_map], h2, h3, h4, h5⟩
theorem great_no {nl na nb nv : Nat} (h : greatB nl na nb nv = false) : nl ≤ 40 ∧ na ≤ 9 ∧ nb ≤ 9 ∧ nv ≤ 20 := by
  unfold greatB at h
  simp only [Bool.or_eq_false_iff, decide_eq_false_iff_not] at h
  omega

/-- How many are true. -/
def numV (gs : List Gt) (v : List Bool) (l : List Int) : Nat := (l.map (valC gs v)).count true
theorem numV_le (gs : List Gt) (v : List Bool) (l : List Int) : numV gs v l ≤ l.length := by have := count_le' (l.map (valC gs v)); simpa [numV] using this
theorem num_eq {gs : List Gt} {v : List Bool} {l : List Int} (h : ∀ r ∈ l, Ok gs r) : numE gs v l = numV gs v l := by
  unfold numE numV
  rw [List.map_congr_left (fun r hr => eval_val (h r hr))]
theorem num_grow {gs g : List Gt} {k : Nat} (h : Grew gs k g) {v : List Bool} {l : List Int} (hl : ∀ r ∈ l, Ok gs r) : numV g v l = numV gs v l := by unfold numV; rw [h.vals hl]
theorem count_unary : ∀ {n m : Nat}, n ≤ m → (unary n m).count true = n
  | n, 0, h => by have : n = 0 := by omega
                  subst this; rfl
  | n, m + 1, h => by
    rw [unary_succ, List.count_append]
    by_cases hn : n ≤ m
    · rw [count_unary hn, decide_eq_false (by omega)]; rfl
    · have e : n = m + 1 := by omega
      subst e
      have h1 : unary (m + 1) m = unary m m := by
        unfold unary
        refine List.map_congr_left (fun i hi => ?_)
        have := List.mem_range.1 hi
        rw [decide_eq_true (by omega), decide_eq_true (by omega)]
      rw [h1, count_unary (Nat.le_refl m), decide_eq_true (by omega)]
      rfl
/-- A row of references that denotes n. -/
def Den (g : List Gt) (v : List Bool) (l : List Int) (n : Nat) : Prop := l.map (valC g v) = unary n l.length ∧ n ≤ l.length ∧ ∀ r ∈ l, Ok g r
theorem Den.num {g : List Gt} {v : List Bool} {l : List Int} {n : Nat} (h : Den g v l n) : numV g v l = n := by unfold numV; rw [h.1]; exact count_unary h.2.1
theorem Den.numE {g : List Gt} {v : List Bool} {l : List Int} {n : Nat} (h : Den g v l n) : numE g v l = n := by rw [num_eq h.2.2]; exact h.num
theorem Den.at {g : List Gt} {v : List Bool} {l : List Int} {n i : Nat} (h : Den g v l n) {r : Int} (hr : l[i]? = some r) : evalC g v r = decide (i < n) := by
  have hi := (List.getElem?_eq_some_iff.1 hr).1
  rw [eval_val (h.2.2 r (List.mem_of_getElem? hr))]
  have h1 : (l.map (valC g v))[i]? = some (valC g v r) := by rw [List.getElem?_map, hr]; rfl
  rw [h.1] at h1
  unfold unary at h1
  rw [List.getElem?_map, List.getElem?_range hi] at h1
  simpa using h1.symm
theorem Den.un {g : List Gt} {v : List Bool} {l : List Int} {n : Nat} (h : Den g v l n) : unE g v l (n : Int) = true := by
  have h1 : unE g v l (n : Int) = decide ((n : Int) ≤ (l.length : Int)) := unE_good rfl (fun j r _ hr => by rw [h.at hr]; exact decide_eq_decide.2 (by omega))
  rw [h1]
  exact decide_eq_true (by have := h.2.1; omega)
theorem Den.grow {gs g : List Gt} {k : Nat} (hg : Grew gs k g) {v : List Bool} {l : List Int} {n : Nat} (h : Den gs v l n) : Den g v l n := ⟨by rw [hg.vals h.2.2]; exact h.1, h.2.1, fun r hr => hg.ok (h.2.2 r hr)⟩
section
variable {gs g' : List Gt} {l l' m : List Int}
theorem sorter_den (e : (sorterP l).run gs = (g', l')) (hG : Good gs) (hl : gs.length ≤ 850) (ho : ∀ r ∈ l, Ok gs r) (h9 : l.length ≤ 9) : Grew gs 126 g' ∧ l'.length = l.length ∧ ∀ v, Den g' v l' (numV gs v l) := by
  have h := Pr.safe_run _ (safe_sorterP hG (by omega) ho)
  rw [e] at h
  obtain ⟨h1, h2, h3, h4⟩ := h
  exact ⟨h1, h3, fun v => ⟨by have := h4 h9 v; rw [this]; show _ = unary _ l'.length; rw [h3]; rfl, by show _ ≤ l'.length; rw [h3]; exact numV_le gs v l, h2⟩⟩
theorem total_den (e : (totalP 6 l).run gs = (g', l')) (hG : Good gs) (hl : gs.length + costT 6 l.length ≤ 19900) (ho : ∀ r ∈ l, Ok gs r) (h64 : l.length ≤ 64) : Grew gs (costT 6 l.length) g' ∧ l'.length = l.length ∧ ∀ v, Den g' v l' (numV gs v l) := by
  have h := Pr.safe_run _ (safe_totalP 6 l hG ho (by simpa using h64) hl)
  rw [e] at h
  obtain ⟨h1, h2, h3, h4⟩ := h
  exact ⟨h1, h3, fun v => ⟨by rw [h4 v]; show _ = unary _ l'.length; rw [h3]; rfl, by show _ ≤ l'.length; rw [h3]; exact numV_le gs v l, h2⟩⟩
theorem count_den (e : (countP l).run gs = (g', l')) (hG : Good gs) (hl : gs.length + costC 0 l.length ≤ 19900) (ho : ∀ r ∈ l, Ok gs r) : Grew gs (costC 0 l.length) g' ∧ l'.length = l.length ∧ ∀ v, Den g' v l' (numV gs v l) := by
  have h := Pr.safe_run _ (safe_countP l [] hG ho (by simp) hl)
  have h' : (foldP (fun out (x : Int) => addP out [x]) l []).run gs = (g', l') := e
  rw [h'] at h
  obtain ⟨h1, h2, h3, h4⟩ := h
  have h3' : l'.length = l.length := by rw [List.length_nil, Nat.zero_add] at h3; exact h3
  exact ⟨h1, h3', fun v => ⟨by have h5 := h4 v 0 (Nat.le_refl _) rfl; rw [List.length_nil, Nat.zero_add, Nat.zero_add] at h5; rw [h3']; exact h5, by rw [h3']; exact numV_le gs v l, h2⟩⟩
theorem add_den (e : (addP l m).run gs = (g', l')) (hG : Good gs) (hl : gs.length + costA l.length m.length ≤ 19900) (ho : ∀ r ∈ l, Ok gs r) (ho2 : ∀ r ∈ m, Ok gs r) : Grew gs (costA l.length m.length) g' ∧ l'.length = l.length + m.length ∧ (∀ r ∈ l', Ok g' r) ∧ ∀ v n k, Den gs v l n → Den gs v m k → Den g' v l' (n + k) := by
  have h := Pr.safe_run _ (safe_addP hG ho ho2 hl)
  rw [e] at h
  obtain ⟨h1, h2, h3, h4⟩ := h
  simp only at h3
  exact ⟨h1, h3, h2, fun v n k hn hk => ⟨by rw [h3]; exact h4 v n k hn.2.1 hk.2.1 hn.1 hk.1, by rw [h3]; have := hn.2.1; have := hk.2.1; omega, h2⟩⟩
theorem less_den {r y : Int} (e : (lessP l m y).run gs = (g', r)) (hG : Good gs) (hl : gs.length + 2 * (m.length + 1) ≤ 19900) (ho : ∀ r ∈ l, Ok gs r) (ho2 : ∀ r ∈ m, Ok gs r) : Grew gs (2 * (m.length + 1)) g' ∧ Ok g' r ∧ ∀ v n k, Den gs v l n → Den gs v m k → evalC g' v r = decide ((n : Int) < (k : Int) + y) := by
  have h := Pr.safe_run _ (safe_lessP hG ho ho2 y hl)
  rw [e] at h
  obtain ⟨h1, h2, h3⟩ := h
  exact ⟨h1, h2, fun v n k hn hk => by
    rw [eval_val h2, h3 v, hn.1, hk.1]
    exact less_unary hn.2.1 hk.2.1 y⟩
theorem atl_den {r k : Int} (e : (atlP l k).run gs = (g', r)) (hG : Good gs) (hl : gs.length ≤ 850) (ho : ∀ r ∈ l, Ok gs r) (h9 : l.length ≤ 9) : Grew gs 126 g' ∧ Ok g' r ∧ (k ≤ 0 → r = 0) ∧ ((l.length : Int) < k → r = 1) ∧ ∀ v, evalC g' v r = decide (k ≤ (numV gs v l : Int)) := by
  have hp := hG.pos
  unfold atlP at e
  by_cases hk : k < 1 ∨ (l.length : Int) < k
  · rw [if_pos hk] at e
    injection e with e1 e2
    subst e1 e2
    have hok := reach_ok hG ho k
    refine ⟨(Grew.refl hG).wide (by omega), hok, fun h => ?_, fun h => ?_, fun v => ?_⟩
    · unfold reachL; rw [if_pos (by omega)]
    · unfold reachL; rw [if_neg (by omega), if_pos h]
    · rw [eval_val hok, reach_val hG]
      unfold reachV
      have := numV_le gs v l
      by_cases h1 : k < 1
      · rw [if_pos h1]; exact (decide_eq_true (by omega)).symm
      · rw [if_neg h1, if_pos (by rw [List.length_map]; omega)]; exact (decide_eq_false (by omega)).symm
  · rw [if_neg hk, Pr.run_bind] at e
    obtain ⟨p, hp'⟩ : ∃ p, (sorterP l).run gs = p := ⟨_, rfl⟩
    obtain ⟨g2, t⟩ := p
    rw [hp'] at e
    injection e with e1 e2
    subst e1
    obtain ⟨s1, s2, s3⟩ := sorter_den hp' hG hl ho h9
    obtain ⟨i, hi⟩ : ∃ i : Nat, k - 1 = (i : Int) := ⟨(k - 1).toNat, by omega⟩
    obtain ⟨q, hq⟩ : ∃ q, t[i]? = some q := ⟨_, List.getElem?_eq_getElem (by omega)⟩
    have hr : r = q := by
      rw [← e2]
      unfold reachL
      simp only
      rw [if_neg (by omega), if_neg (by omega), hi, List.getD_eq_getElem?_getD, show ((i : Int)).toNat = i by omega, hq]
      rfl
    subst hr
    exact ⟨s1, (s3 []).2.2 _ (List.mem_of_getElem? hq), fun h => by omega, fun h => by omega, fun v => by rw [(s3 v).at hq]; exact decide_eq_decide.2 (by omega)⟩
end
theorem costC9 : ∀ n, n < 10 → costC 0 n ≤ 162 := by decide +kernel
theorem costT9 : ∀ n, n < 10 → costT 6 n ≤ 130 := by decide +kernel
theorem costT18 : ∀ n, n < 19 → costT 6 n ≤ 600 := by decide +kernel
theorem costA9 : ∀ n, n < 10 → ∀ m, m < 10 → costA n m ≤ 198 := by decide +kernel
theorem costA18 : ∀ n, n < 19 → ∀ m, m < 10 → costA n m ≤ 378 := by decide +kernel
theorem costA18b : ∀ n, n < 10 → ∀ m, m < 19 → costA n m ≤ 378 := by decide +kernel
end Go.Proofs.Ythagoihpppppkaa

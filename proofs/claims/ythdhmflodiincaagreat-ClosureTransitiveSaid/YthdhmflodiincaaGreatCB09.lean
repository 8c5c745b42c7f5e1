/- Texts of the proof: KF KG KH QA QC QD QI QJ. -/
import Derived.Test.YthdhmflodiincaaGreatCB08
import Derived.Test.YthdhmflodiincaaGreatCB05
import Derived.Deep.DeepCutAuto
import Derived.Test.YthdhmflodiincaaGreatCB01
import Derived.RangeFuncNested
import Derived.RangeFuncLeaves
import Derived.RangeFuncBound
import Derived.Shelf.Abstract
import Derived.Shelf.RegionOpen
import Derived.Sort.LoopGhostIn
import Derived.TacticsInMore
import Derived.LoopNIn
import Derived.LoopIn
import Derived.OwnWalkIn
import Derived.RegionIn
set_option maxRecDepth 100000
set_option maxHeartbeats 8000000
namespace Go.Proofs.YthdhmflodiincaaGreat

theorem up_len : ∀ (m : List Cl) (lo : Int) (n : Nat), UpM m → (∀ c ∈ m, lo ≤ c.1 ∧ c.1 < lo + n) → m.length ≤ n
  | [], _, _, _, _ => Nat.zero_le _
  | x :: m, lo, n, h, hb => by
    obtain ⟨h1, h2⟩ := upM_cons.1 h
    have hx := hb x (by simp)
    have := up_len m (x.1 + 1) (n - 1) h2 (fun c hc => by have := h1 c hc; have := hb c (by simp [hc]); omega)
    rw [List.length_cons]
    omega
theorem jPairs_len {n rest : Int} {b : List Cl} {k : Nat} : ∀ (a : List Cl), (∀ x ∈ a, (b.filter fun y => x.1 % n == y.1 / rest).length ≤ k) → (jPairs n rest a b).length ≤ a.length * k
  | [], _ => by simp [jPairs, allPairs]
  | x :: a, h => by
    have ih := jPairs_len a (fun y hy => h y (by simp [hy]))
    have hx := h x (by simp)
    unfold jPairs allPairs at ih ⊢
    rw [List.flatMap_cons, List.filter_append, List.length_append, List.length_cons, Nat.succ_mul]
    have e : ((b.map fun y => (x, y)).filter fun p => p.1.1 % n == p.2.1 / rest).length = (b.filter fun y => x.1 % n == y.1 / rest).length := by
      rw [List.filter_map, List.length_map]
      rfl
    omega
def Sq (n : Nat) (g : List Gt) (m : List Cl) : Prop := Mat g m ∧ ∀ c ∈ m, 0 ≤ c.1 ∧ c.1 < (n : Int) * n
theorem Sq.grow {n : Nat} {g g' : List Gt} {m : List Cl} (h : Sq n g m) (hp : g <+: g') : Sq n g' m := ⟨h.1.grow hp, h.2⟩
theorem Sq.len {n : Nat} {g : List Gt} {m : List Cl} (h : Sq n g m) : m.length ≤ n * n := up_len m 0 (n * n) h.1.1 (fun c hc => by have := h.2 c hc; rw [Int.zero_add, Int.natCast_mul]; exact this)
theorem sq_pairs {n : Nat} {g : List Gt} {a b : List Cl} (ha : Sq n g a) (hb : Sq n g b) : (jPairs n n a b).length ≤ n * n * n := by
  refine Nat.le_trans (jPairs_len a (k := n) (fun x hx => ?_)) (Nat.mul_le_mul_right _ ha.len)
  have h0 := ha.2 x hx
  by_cases hn : n = 0
  · subst hn; omega
  have hn' : (0 : Int) < n := by omega
  refine up_len _ (x.1 % n * n) n (hb.1.1.sublist (List.Sublist.map _ List.filter_sublist)) (fun c hc => ?_)
  obtain ⟨_, h2⟩ := List.mem_filter.1 hc
  have h3 : x.1 % (n : Int) = c.1 / (n : Int) := by simpa using h2
  rw [h3]
  have e := Int.mul_ediv_add_emod c.1 (n : Int)
  have e1 := Int.emod_nonneg c.1 (show (n : Int) ≠ 0 by omega)
  have e2 := Int.emod_lt_of_pos c.1 hn'
  rw [Int.mul_comm] at e
  omega
def relM (g : List Gt) (v : List Bool) (n : Nat) (m : List Cl) (x y : Nat) : Prop := hasV g v m ((x : Int) * n + y) = true
theorem relM_grow {gs g : List Gt} (hp : gs <+: g) (hG : Good gs) {n : Nat} {m : List Cl} (h : Sq n gs m) (v : List Bool) (x y : Nat) : relM g v n m x y ↔ relM gs v n m x y := by unfold relM; rw [has_grow hp hG h.1]
theorem rank_lt {n x y : Nat} (hx : x < n) (hy : y < n) : 0 ≤ (x : Int) * n + y ∧ (x : Int) * n + y < (n : Int) * n := by
  have h1 : (x + 1) * n ≤ n * n := Nat.mul_le_mul_right _ hx
  rw [Nat.succ_mul] at h1
  have h2 : ((x * n : Nat) : Int) + n ≤ ((n * n : Nat) : Int) := by omega
  rw [Int.natCast_mul, Int.natCast_mul] at h2
  have h3 : (0 : Int) ≤ (x : Int) * n := Int.mul_nonneg (by omega) (by omega)
  omega
section
variable {gs : List Gt} {n : Nat} {a b : List Cl}
theorem safe_joinSq (hG : Good gs) (ha : Sq n gs a) (hb : Sq n gs b) (hl : gs.length + 2 * (n * n * n) ≤ 19900) :
    (mjoinP n n (n * n) a b).safe gs (fun g m => Grew gs (2 * (n * n * n)) g ∧ Sq n g m ∧ ∀ v x y, x < n → y < n → (relM g v n m x y ↔ ∃ z, z < n ∧ relM gs v n a x z ∧ relM gs v n b z y)) := by
  have hlen := sq_pairs ha hb
  have h := safe_foldP (f := jF n n) (fun g j s => Grew gs (2 * j) g ∧ (∀ k, Ok g (s k)) ∧ ∀ v k, valC g v (s k) = ((jPairs n n a b).take j).any fun p => decide (jr n n p = k) && (valC gs v p.1.2 && valC gs v p.2.2)) (jPairs n n a b) 0 gs (fun _ => 1)
    ⟨(Grew.refl hG).wide (Nat.zero_le _), fun _ => (one_ok hG).1, fun v k => by simp [val_false hG]⟩
    (fun j p g s hj hs => by
      rw [Nat.zero_add] at hs ⊢
      obtain ⟨h1, h2, h3⟩ := hs
      have hm := mem_pairs.1 (List.mem_filter.1 (List.mem_of_getElem? hj)).1
      have hj1 := (List.getElem?_eq_some_iff.1 hj).1
      have l1 := h1.len
      have p1 := h1.pre.length_le
      have o1 := (ha.1.2 _ hm.1).1
      have o2 := (hb.1.2 _ hm.2).1
      refine Pr.safe_mono (fun g' s' hh => ?_) _ (safe_jF (n := n) (rest := n) h1.good (by omega) h2 (show Ok g p.1.2 by unfold Ok at *; omega) (show Ok g p.2.2 by unfold Ok at *; omega))
      obtain ⟨e1, e2, e3⟩ := hh
      refine ⟨by rw [Nat.mul_succ]; exact h1.trans e1, e2, fun v k => ?_⟩
      rw [e3 v k, h3 v k, val_grow h1.pre o1, val_grow h1.pre o2, List.take_add_one, hj, List.any_append]
      simp)
  rw [Nat.zero_add] at h
  refine Pr.safe_bind _ (Pr.safe_mono (fun g t ht => ?_) _ h)
  obtain ⟨h1, h2, h3⟩ := ht
  refine Pr.safe_mono (fun g' m hm => ?_) _ (safe_ofTab h1.good (ranksTo_up (n * n)) h2)
  refine ⟨(h1.trans hm.grew).wide (by omega), ⟨hm.mat (ranksTo_up _), fun c hc => ?_⟩, fun v x y hx hy => ?_⟩
  · have := mem_ranksTo.1 (hm.up.mem (List.mem_map_of_mem hc))
    rw [Int.natCast_mul] at this
    exact this
  · have hr := rank_lt hx hy
    have hv := hm.val v ((x : Int) * n + y)
    rw [decide_eq_true (mem_ranksTo.2 (by rw [Int.natCast_mul]; exact hr)), Bool.true_and, h3 v, List.take_length] at hv
    unfold relM
    rw [show hasV g' v m ((x : Int) * n + y) = _ from hv]
    exact join_val hG ha.1 hb.1 ha.2 hb.2 v hx hy
theorem safe_unionSq (hG : Good gs) (ha : Sq n gs a) (hb : Sq n gs b) (hl : gs.length + 2 * (n * n) ≤ 19900) :
    (munionP a b).safe gs (fun g m => Grew gs (2 * (n * n)) g ∧ Sq n g m ∧ ∀ v x y, (relM g v n m x y ↔ relM gs v n a x y ∨ relM gs v n b x y)) := by
  have la := ha.len
  have lb := hb.len
  obtain ⟨hs, hmem⟩ := rk_spec (a.length + b.length) a b (Nat.le_refl _) ha.1.1 hb.1.1
  refine Pr.safe_mono (fun g m h => ⟨h.grew.wide (by omega), ⟨h.mat hs, fun c hc => ?_⟩, fun v x y => ?_⟩) _ (safe_munionP hG ha.1 hb.1 (by omega))
  · rcases (hmem _).1 (h.up.mem (List.mem_map_of_mem hc)) with ⟨d, hd, e⟩ | ⟨d, hd, e⟩
    · have := ha.2 d hd; rw [← e]; exact this
    · have := hb.2 d hd; rw [← e]; exact this
  · have hv := h.val v ((x : Int) * n + y)
    unfold relM
    rw [show hasV g v m ((x : Int) * n + y) = _ from hv, Bool.and_eq_true, Bool.or_eq_true, decide_eq_true_eq]
    constructor
    · exact fun hh => hh.2
    · intro hh
      refine ⟨(hmem _).2 ?_, hh⟩
      rcases hh with hh | hh
      · refine .inl ?_
        rcases @atM_mem a ((x : Int) * n + y) with e | e
        · unfold hasV at hh; rw [e, val_false hG] at hh; cases hh
        · exact ⟨_, e, rfl⟩
      · refine .inr ?_
        rcases @atM_mem b ((x : Int) * n + y) with e | e
        · unfold hasV at hh; rw [e, val_false hG] at hh; cases hh
        · exact ⟨_, e, rfl⟩
def squareP (n : Nat) (m : List Cl) : Pr (List Cl) := (mjoinP n n (n * n) m m).bind fun t => munionP m t
def stepwP (n : Nat) (a m : List Cl) : Pr (List Cl) := (mjoinP n n (n * n) m a).bind fun t => munionP a t
def roundC (n : Nat) : Nat := 2 * (n * n * n) + 2 * (n * n)
theorem safe_squareP {m : List Cl} (hG : Good gs) (hm : Sq n gs m) (hl : gs.length + roundC n ≤ 19900) :
    (squareP n m).safe gs (fun g m' => Grew gs (roundC n) g ∧ Sq n g m' ∧ ∀ v x y, x < n → y < n → (relM g v n m' x y ↔ relM gs v n m x y ∨ ∃ z, z < n ∧ relM gs v n m x z ∧ relM gs v n m z y)) := by
  unfold roundC at *
  refine Pr.safe_bind _ (Pr.safe_mono (fun g t ht => ?_) _ (safe_joinSq hG hm hm (by omega)))
  obtain ⟨h1, h2, h3⟩ := ht
  have l1 := h1.len
  refine Pr.safe_mono (fun g' u hu => ⟨h1.trans hu.1, hu.2.1, fun v x y hx hy => ?_⟩) _ (safe_unionSq h1.good (hm.grow h1.pre) h2 (by omega))
  rw [hu.2.2 v x y, relM_grow h1.pre hG hm, h3 v x y hx hy]
theorem safe_stepwP {m : List Cl} (hG : Good gs) (ha : Sq n gs a) (hm : Sq n gs m) (hl : gs.length + roundC n ≤ 19900) :
    (stepwP n a m).safe gs (fun g m' => Grew gs (roundC n) g ∧ Sq n g m' ∧ ∀ v x y, x < n → y < n → (relM g v n m' x y ↔ relM gs v n a x y ∨ ∃ z, z < n ∧ relM gs v n m x z ∧ relM gs v n a z y)) := by
  unfold roundC at *
  refine Pr.safe_bind _ (Pr.safe_mono (fun g t ht => ?_) _ (safe_joinSq hG hm ha (by omega)))
  obtain ⟨h1, h2, h3⟩ := ht
  have l1 := h1.len
  refine Pr.safe_mono (fun g' u hu => ⟨h1.trans hu.1, hu.2.1, fun v x y hx hy => ?_⟩) _ (safe_unionSq h1.good (ha.grow h1.pre) h2 (by omega))
  rw [hu.2.2 v x y, relM_grow h1.pre hG ha, h3 v x y hx hy]
def roundsP (f : List Cl → Pr (List Cl)) (k : Nat) (m : List Cl) : Pr (List Cl) := foldP (fun m (_ : Nat) => f m) (List.range k) m
theorem safe_squares (hG : Good gs) (ha : Sq n gs a) (k : Nat) (hl : gs.length + roundC n * k ≤ 19900) :
    (roundsP (squareP n) k a).safe gs (fun g m => Grew gs (roundC n * k) g ∧ Sq n g m ∧ ∀ v x y, x < n → y < n → (relM g v n m x y ↔ Way (relM gs v n a) n (2 ^ k) x y)) := by
  have h := safe_foldP (f := fun m (_ : Nat) => squareP n m) (fun g j m => Grew gs (roundC n * j) g ∧ Sq n g m ∧ ∀ v x y, x < n → y < n → (relM g v n m x y ↔ Way (relM gs v n a) n (2 ^ j) x y)) (List.range k) 0 gs a
    ⟨(Grew.refl hG).wide (Nat.zero_le _), ha, fun v x y hx hy => (way_one hx hy).symm⟩
    (fun j _ g m hj hs => by
      rw [Nat.zero_add] at hs ⊢
      obtain ⟨h1, h2, h3⟩ := hs
      have hj1 := (List.getElem?_eq_some_iff.1 hj).1
      rw [List.length_range] at hj1
      have l1 := h1.len
      have hmul : roundC n * (j + 1) ≤ roundC n * k := Nat.mul_le_mul_left _ hj1
      rw [Nat.mul_succ] at hmul ⊢
      refine Pr.safe_mono (fun g' u hu => ⟨h1.trans hu.1, hu.2.1, fun v x y hx hy => ?_⟩) _ (safe_squareP h1.good h2 (by omega))
      rw [hu.2.2 v x y hx hy, Nat.pow_succ, Nat.mul_comm, way_double (Nat.one_le_two_pow), h3 v x y hx hy]
      refine or_congr_right (exists_congr fun z => and_congr_right fun hz => ?_)
      rw [h3 v x z hx hz, h3 v z y hz hy])
  rw [Nat.zero_add, List.length_range] at h
  exact h
theorem safe_steps (hG : Good gs) (ha : Sq n gs a) (k : Nat) (hl : gs.length + roundC n * k ≤ 19900) :
    (roundsP (stepwP n a) k a).safe gs (fun g m => Grew gs (roundC n * k) g ∧ Sq n g m ∧ ∀ v x y, x < n → y < n → (relM g v n m x y ↔ Way (relM gs v n a) n (k + 1) x y)) := by
  have h := safe_foldP (f := fun m (_ : Nat) => stepwP n a m) (fun g j m => Grew gs (roundC n * j) g ∧ Sq n g m ∧ ∀ v x y, x < n → y < n → (relM g v n m x y ↔ Way (relM gs v n a) n (j + 1) x y)) (List.range k) 0 gs a
    ⟨(Grew.refl hG).wide (Nat.zero_le _), ha, fun v x y hx hy => (way_one hx hy).symm⟩
    (fun j _ g m hj hs => by
      rw [Nat.zero_add] at hs ⊢
      obtain ⟨h1, h2, h3⟩ := hs
      have hj1 := (List.getElem?_eq_some_iff.1 hj).1
      rw [List.length_range] at hj1
      have l1 := h1.len
      have hmul : roundC n * (j + 1) ≤ roundC n * k := Nat.mul_le_mul_left _ hj1
      rw [Nat.mul_succ] at hmul ⊢
      refine Pr.safe_mono (fun g' u hu => ⟨h1.trans hu.1, hu.2.1, fun v x y hx hy => ?_⟩) _ (safe_stepwP h1.good (ha.grow h1.pre) h2 (by omega))
      rw [hu.2.2 v x y hx hy, way_step (Nat.le_add_left 1 j) hx hy, relM_grow h1.pre hG ha]
      refine or_congr_right (exists_congr fun z => and_congr_right fun hz => ?_)
      rw [h3 v x z hx hz, relM_grow h1.pre hG ha])
  rw [Nat.zero_add, List.length_range] at h
  exact h
end
end Go.Proofs.YthdhmflodiincaaGreat

namespace Go.Proofs.YthdhmflodiincaaGreat
open Go.RowKit Go.Maps

def CellAt (w : World) (b o : Nat) (x : Cl) : Prop := w.cell? ⟨b, o, none⟩ = some (.int .i64 x.1) ∧ w.cell? ⟨b, o + 1, none⟩ = some (.int .i64 x.2)
theorem CellAt.grown {w w' : World} {b o : Nat} {x : Cl} (h : CellAt w b o x) (hg : w.grownBy w' none) : CellAt w' b o x := ⟨hg.cell h.1 (by simp), hg.cell h.2 (by simp)⟩
def CellsW (w : World) (a : Option Addr) (c : Nat) (m : List Cl) : Prop :=
  m.length ≤ c ∧ (m = [] ∨ ∃ b o, a = some ⟨b, o, none⟩ ∧ ∀ (j : Nat) (x : Cl), m[j]? = some x → CellAt w b (o + j * 2) x)
theorem CellsW.grown {w w' : World} {a : Option Addr} {c : Nat} {m : List Cl} (h : CellsW w a c m) (hg : w.grownBy w' none) : CellsW w' a c m := by
  obtain ⟨hc, h | ⟨b, o, ha, hz⟩⟩ := h
  · exact ⟨hc, .inl h⟩
  · exact ⟨hc, .inr ⟨b, o, ha, fun j z hj => (hz j z hj).grown hg⟩⟩
theorem CellsW.at {w : World} {a : Option Addr} {c : Nat} {m : List Cl} (h : CellsW w a c m) {i : Nat} {x : Cl} (hz : m[i]? = some x) : ∃ b o, a = some ⟨b, o, none⟩ ∧ CellAt w b (o + i * 2) x := by
  obtain ⟨_, h | ⟨b, o, ha, hc⟩⟩ := h
  · rw [h] at hz; simp at hz
  · exact ⟨b, o, ha, hc i x hz⟩
end Go.Proofs.YthdhmflodiincaaGreat

namespace Go.Proofs.YthdhmflodiincaaGreat
open Go.RowKit Go.Maps

def clCells (m : List Cl) : List Value := m.flatMap fun x => [.int .i64 x.1, .int .i64 x.2]
theorem clCells_len (m : List Cl) : (clCells m).length = m.length * 2 := by
  unfold clCells
  induction m with
  | nil => rfl
  | cons x m ih => rw [List.flatMap_cons, List.length_append, ih]; simp; omega
theorem clCells_app (l m : List Cl) : clCells (l ++ m) = clCells l ++ clCells m := List.flatMap_append
theorem clCells_at : ∀ {m : List Cl} {j : Nat} {x : Cl}, m[j]? = some x → (clCells m)[j * 2]? = some (.int .i64 x.1) ∧ (clCells m)[j * 2 + 1]? = some (.int .i64 x.2)
  | [], _, _, h => by simp at h
  | y :: m, 0, x, h => by simp at h; subst h; exact ⟨rfl, rfl⟩
  | y :: m, j + 1, x, h => by
    have ih := clCells_at (m := m) (j := j) (x := x) (by simpa using h)
    have e : clCells (y :: m) = .int .i64 y.1 :: .int .i64 y.2 :: clCells m := rfl
    rw [e, show (j + 1) * 2 = j * 2 + 2 by omega]
    exact ih
theorem infoCl : (Tryz.prog.info? 70).map (fun i => (i.zero, i.size, i.bytes)) = some (some (.agg #[.int .i64 0, .int .i64 0]), 2, 16) := by kernel_rfl
theorem cells_new_at (w : World) (x : Cl) : ∀ j u, (clCells [x])[j]? = some u → (w.alloc (.cells #[.int .i64 x.1, .int .i64 x.2] 70)).cell? ((⟨w.heap.size, 0, none⟩ : Addr).add j) = some u := by
  intro j u hj
  have hc := one_cells w (.int .i64 x.1) (.int .i64 x.2) 70
  rcases j with _ | _ | j
  · have e : some (Value.int .i64 x.1) = some u := hj
    cases e
    exact hc.2.1
  · have e : some (Value.int .i64 x.2) = some u := hj
    cases e
    exact hc.2.2.1
  · have e : ([] : List Value)[j]? = some u := hj
    simp at e
theorem kept_calls (B : Nat) (m : List Cl) (a : Option Addr) (n c : Nat) (k r : Int) (w : World) (hown : w.ownsRow B 70 2 (.slice a n c) n (clCells m)) (hn : m.length = n) (hl : n ≤ 1000) (hB : B ≤ w.heap.size) :
    Calls Tryz.prog 53 #[.slice a n c, .int .i64 k, .int .i64 r] w fun e w' => ∃ a' n' c', e = .returned (.slice a' n' c') ∧ w'.ownsRow B 70 2 (.slice a' n' c') n' (clCells (keptM m k r)) ∧ (keptM m k r).length = n' ∧ w.grownBy w' (Value.slice a n c).ownBlock ∧ ∀ b, (Value.slice a' n' c').ownBlock = some b → (Value.slice a n c).ownBlock = some b ∨ w.heap.size ≤ b := by
  obtain ⟨i0, hi0, hz0, hz1, hz2⟩ := info_parts infoCl
  have HO := Lib.hid hown
  have HN := Lib.hid hn
  clear hown hn
  by_cases hr : r = 1
  · have e1 : (r == 1) = true := by simp [hr]
    have HR := Lib.hid (show keptM m k r = m from by unfold keptM; rw [if_pos hr])
    clear hr
    go_enter Tryz.func53, Tryz.ntmps53
    go_wp2_with fail
    go_ret
    exact ⟨a, n, c, rfl, by rw [HR.out]; exact HO.out, by rw [HR.out]; exact HN.out, grown_refl _ _, fun b e => .inl e⟩
  · have e1 : (r == 1) = false := by simp [hr]
    have HR := Lib.hid (show keptM m k r = m ++ [(k, r)] from by unfold keptM; rw [if_neg hr])
    obtain ⟨Lk, hLk⟩ : ∃ L, clCells m = L := ⟨_, rfl⟩
    have HL := Lib.hid hLk
    rw [hLk] at HO
    have HLL := Lib.hid (show Lk.length = n * 2 from by rw [← hLk, clCells_len, HN.out])
    clear hr hLk
    have hnew := cells_new_at w (k, r)
    go_enter Tryz.func53, Tryz.ntmps53
    go_wp2_with (at_builtin; refine wpList_append_own_at _ rfl _ _ 33 rfl B 70 i0 (.agg #[.int .i64 0, .int .i64 0]) 2 16 Tryz.underlying33 hi0 hz0 hz1 hz2 rfl (by decide) _ n Lk rfl (HO.out.alloc _) ⟨w.heap.size, 0, none⟩ 1 1 [.int .i64 k, .int .i64 r] rfl rfl hnew (fun u hu => by simp at hu; rcases hu with rfl | rfl <;> rfl) (by unfold maxLen; omega) (by omega) (by simp; omega) ?_)
    intro v' w6 hown' hgrow6 _ hat6
    obtain ⟨rgA, rcA, rfl⟩ := own_shape hown'
    have HS := Lib.hid (show w6.ownsRow B 70 2 (.slice rgA (n + 1) rcA) (n + 1) (clCells (keptM m k r)) from by rw [HR.out, clCells_app, HL.out]; exact hown')
    have HGW := Lib.hid (World.grownBy.trans (World.grownBy_alloc w (.cells #[.int .i64 k, .int .i64 r] 70) _) hgrow6)
    have HAT := Lib.hid (show ∀ b, (Value.slice rgA (n + 1) rcA).ownBlock = some b → (Value.slice a n c).ownBlock = some b ∨ w.heap.size ≤ b from fun b e => by
      rcases hat6 with h | h
      · exact .inl (h.symm.trans e)
      · rw [h] at e; cases e; exact .inr (by simp))
    have HLN := Lib.hid (show (keptM m k r).length = n + 1 from by rw [HR.out, List.length_append, HN.out]; rfl)
    clear hown' hgrow6 hat6 hnew
    go_wp2_with fail
    go_ret
    exact ⟨rgA, n + 1, rcA, rfl, HS.out, HLN.out, HGW.out, HAT.out⟩
end Go.Proofs.YthdhmflodiincaaGreat

namespace Go.Proofs.YthdhmflodiincaaGreat
set_option maxRecDepth 100000
open Go.RowKit Go.Maps

theorem newb_calls (gs : List Gt) (a : Option Addr) (c : Nat) (w : World) (h : GatesW w a c gs) :
    Calls Tryz.prog 60 #[.agg #[.slice a gs.length c]] w fun e w' => ∃ q p, e = .returned (.pointer (some ⟨q, 0, none⟩)) ∧ w.heap.size ≤ p ∧ w.heap.size ≤ q ∧ p ≠ q ∧ w'.cell? ⟨q, 0, none⟩ = some (.pointer (some ⟨p, 0, none⟩)) ∧ GX p (fun k => k = p) w' gs 0 ∧ w.grownBy w' none := by
  have HF := Lib.hid (fun (U : World) (hU : GatesW U a c gs) => from_calls gs a c U hU)
  have HH := Lib.hid h
  clear h
  go_enter Tryz.func60, Tryz.ntmps60
  go_wp2_with fail
  have hg1 := World.grownBy_alloc w (.cells #[.slice a gs.length c] 27) none
  obtain ⟨W, hW⟩ : ∃ z, w.alloc (.cells #[.slice a gs.length c] 27) = z := ⟨_, rfl⟩
  rw [hW] at hg1 ⊢
  clear hW
  have HG1 := Lib.hid hg1
  refine (HF.out W (HH.out.grown hg1)).mono ?_
  rintro e w2 ⟨p, rfl, hp, hgr, hg2⟩
  have HP := Lib.hid hp
  have HGR := Lib.hid hgr
  have HG2 := Lib.hid (World.grownBy.trans hg1 hg2)
  clear hg1 hg2 hgr hp
  go_wp2_with fail
  go_ret
  have hb := one_cell w2 (.pointer (some ⟨p, 0, none⟩)) 86
  have hga := World.grownBy_alloc w2 (.cells #[.pointer (some ⟨p, 0, none⟩)] 86) none
  have hpl : p < w2.heap.size := lies_lt HGR.out.c0
  exact ⟨w2.heap.size, p, rfl, Nat.le_trans HG1.out.size HP.out, HG2.out.size, by omega, hb.2.1, (GX.of HGR.out).grown hga, World.grownBy.trans HG2.out hga⟩
def IntsN (N : Nat → Prop) (w : World) (a : Option Addr) (c : Nat) (zs : List Int) : Prop :=
  zs.length ≤ c ∧ (zs = [] ∨ ∃ b o, a = some ⟨b, o, none⟩ ∧ ¬ N b ∧ b < w.heap.size ∧ ∀ (j : Nat) (z : Int), zs[j]? = some z → w.cell? ⟨b, o + j, none⟩ = some (.int .i64 z))
theorem IntsN.off {N N' : Nat → Prop} {w w' : World} {a : Option Addr} {c : Nat} {zs : List Int} (h : IntsN N w a c zs) (ho : Off N w w') (hn : ∀ k, N' k → N k ∨ w.heap.size ≤ k) : IntsN N' w' a c zs := by
  obtain ⟨hc, h | ⟨b, o, ha, hb, hl, hz⟩⟩ := h
  · exact ⟨hc, .inl h⟩
  · exact ⟨hc, .inr ⟨b, o, ha, fun h => by rcases hn b h with h1 | h1; exact hb h1; omega, Nat.lt_of_lt_of_le hl ho.size, fun j z hj => ho.cell (hz j z hj) hb⟩⟩
theorem IntsN.weak {N : Nat → Prop} {w : World} {a : Option Addr} {c : Nat} {zs : List Int} (h : IntsN N w a c zs) : IntsW w a c zs := by
  obtain ⟨hc, h | ⟨b, o, ha, hb, hl, hz⟩⟩ := h
  · exact ⟨hc, .inl h⟩
  · exact ⟨hc, .inr ⟨b, o, ha, hz⟩⟩
theorem IntsW.far {N : Nat → Prop} {w0 w : World} {a : Option Addr} {c : Nat} {zs : List Int} (h : IntsW w0 a c zs) (hg : w0.grownBy w none) (hn : ∀ k, N k → w0.heap.size ≤ k) : IntsN N w a c zs := by
  obtain ⟨hc, h | ⟨b, o, ha, hz⟩⟩ := h
  · exact ⟨hc, .inl h⟩
  · cases zs with
    | nil => exact ⟨hc, .inl rfl⟩
    | cons x l =>
      have h0 := hz 0 x rfl
      have hl : b < w0.heap.size := lies_lt h0
      exact ⟨hc, .inr ⟨b, o, ha, fun h => by have := hn b h; omega, Nat.lt_of_lt_of_le hl hg.size, fun j z hj => hg.cell (hz j z hj) (by simp)⟩⟩
structure GS (p q : Nat) (N : Nat → Prop) (w : World) (gs : List Gt) (hi : Int) : Prop where
  gx : GX p N w gs hi
  q0 : w.cell? ⟨q, 0, none⟩ = some (.pointer (some ⟨p, 0, none⟩))
  nq : ¬ N q
  low : ∀ k, N k → k < w.heap.size
def Goes (N : Nat → Prop) (w : World) (N' : Nat → Prop) (w' : World) : Prop := Off N w w' ∧ ∀ k, N' k → N k ∨ w.heap.size ≤ k
theorem Goes.refl (N : Nat → Prop) (w : World) : Goes N w N w := ⟨Off.refl N w, fun _ h => .inl h⟩
theorem Goes.trans {N N1 N2 : Nat → Prop} {w w1 w2 : World} (h : Goes N w N1 w1) (h2 : Goes N1 w1 N2 w2) : Goes N w N2 w2 :=
  ⟨h.1.trans h2.1 (fun k hk h1 => (h.2 k h1).resolve_right (by omega)), fun k hk => by
    rcases h2.2 k hk with h1 | h1
    · exact h.2 k h1
    · have := h.1.size; exact .inr (by omega)⟩
theorem Goes.grown {N : Nat → Prop} {w w' : World} (hg : w.grownBy w' none) : Goes N w N w' := ⟨Off.of hg (fun k e => by cases e), fun _ h => .inl h⟩
theorem IntsN.goes {N N' : Nat → Prop} {w w' : World} {a : Option Addr} {c : Nat} {zs : List Int} (h : IntsN N w a c zs) (hg : Goes N w N' w') : IntsN N' w' a c zs := h.off hg.1 hg.2
theorem GS.step {p q : Nat} {N N' : Nat → Prop} {w w' : World} {gs gs' : List Gt} {hi hi' : Int} (h : GS p q N w gs hi) (hx : GX p N' w' gs' hi') (hg : Goes N w N' w') (hl : ∀ k, N' k → k < w'.heap.size) : GS p q N' w' gs' hi' :=
  ⟨hx, hg.1.cell h.q0 h.nq, fun e => by rcases hg.2 q e with h1 | h1; exact h.nq h1; have : q < w.heap.size := lies_lt h.q0; omega, hl⟩
theorem GS.grown {p q : Nat} {N : Nat → Prop} {w w' : World} {gs : List Gt} {hi : Int} (h : GS p q N w gs hi) (hg : w.grownBy w' none) : GS p q N w' gs hi :=
  h.step (h.gx.grown hg) (Goes.grown hg) (fun k hk => Nat.lt_of_lt_of_le (h.low k hk) hg.size)
structure AddS (p q : Nat) (N0 : Nat → Prop) (w0 : World) (N : Nat → Prop) (w : World) (gs : List Gt) (hi : Int) : Prop where
  gs : GS p q N w gs hi
  go : Goes N0 w0 N w
theorem AddS.step {p q : Nat} {N0 : Nat → Prop} {w0 : World} {N N' : Nat → Prop} {w w' : World} {gs gs' : List Gt} {hi hi' : Int} (h : AddS p q N0 w0 N w gs hi) (hx : GX p N' w' gs' hi') (ho : Off N w w') (hn : ∀ k, N' k → N k ∨ w.heap.size ≤ k) (hl : ∀ k, N' k → k < w'.heap.size) : AddS p q N0 w0 N' w' gs' hi' :=
  ⟨h.gs.step hx ⟨ho, hn⟩ hl, h.go.trans ⟨ho, hn⟩⟩
theorem GS.p_lt {p q : Nat} {N : Nat → Prop} {w : World} {gs : List Gt} {hi : Int} (h : GS p q N w gs hi) : p < w.heap.size := by
  obtain ⟨_, _, _, _, _, g, _⟩ := h.gx
  exact lies_lt g.c0
theorem GS.far {p q : Nat} {N : Nat → Prop} {w w' : World} {gs : List Gt} {hi : Int} {r : Option Nat} (h : GS p q N w gs hi) (hg : w.grownBy w' r) (hr : ∀ x, r = some x → p ≤ x ∧ q ≠ x ∧ ¬ N x) : GS p q N w' gs hi :=
  ⟨h.gx.far hg (fun x e => ⟨(hr x e).1, (hr x e).2.2⟩), hg.cell h.q0 (fun e => (hr q e.symm).2.1 rfl), h.nq, fun k hk => Nat.lt_of_lt_of_le (h.low k hk) hg.size⟩
theorem gand_c (gs : List Gt) (a b : Int) (p : Nat) (g1 : List Gt) (t : Int) (e : andC gs a b = (g1, t)) (hG : Good gs) (hl : gs.length ≤ 990) (M : Nat → Prop) (w : World) (hi : Int) (h : GX p M w gs hi) :
    Calls Tryz.prog 51 #[.pointer (some ⟨p, 0, none⟩), .int .i64 a, .int .i64 b] w fun e w' => e = .returned (.int .i64 t) ∧ ∃ hi', GX p (fun k => M k ∨ w.heap.size ≤ k) w' g1 hi' ∧ Off M w w' := by
  have h1 := gand_calls gs a b p M w hi h hG hl
  rw [e] at h1
  exact h1.mono (fun e w' hh => ⟨hh.1, _, hh.2.1, hh.2.2⟩)
theorem gor_c (gs : List Gt) (a b : Int) (p : Nat) (g1 : List Gt) (t : Int) (e : orC gs a b = (g1, t)) (hG : Good gs) (hl : gs.length ≤ 990) (ha : a ≤ 9223372036854775807) (hb : b ≤ 9223372036854775807) (M : Nat → Prop) (w : World) (hi : Int) (h : GX p M w gs hi) :
    Calls Tryz.prog 52 #[.pointer (some ⟨p, 0, none⟩), .int .i64 a, .int .i64 b] w fun e w' => e = .returned (.int .i64 t) ∧ ∃ hi', GX p (fun k => M k ∨ w.heap.size ≤ k) w' g1 hi' ∧ Off M w w' := by
  have h1 := gor_calls gs a b p M w hi h hG hl ha hb
  rw [e] at h1
  exact h1.mono (fun e w' hh => ⟨hh.1, _, hh.2.1, hh.2.2⟩)
end Go.Proofs.YthdhmflodiincaaGreat

namespace Go.Proofs.YthdhmflodiincaaGreat
set_option maxRecDepth 100000
open Go.RowKit Go.Maps

theorem newalg_calls (gs : List Gt) (n : Int) (a : Option Addr) (c : Nat) (w : World) (h : GatesW w a c gs) :
    Calls Tryz.prog 49 #[.agg #[.slice a gs.length c], .int .i64 n] w fun e w' => ∃ s q p, e = .returned (.pointer (some ⟨s, 0, none⟩)) ∧ w.heap.size ≤ p ∧ w.heap.size ≤ q ∧ w.heap.size ≤ s ∧ p ≠ q ∧ p ≠ s ∧ q ≠ s ∧ w'.cell? ⟨s, 0, none⟩ = some (.pointer (some ⟨q, 0, none⟩)) ∧ w'.cell? ⟨s, 1, none⟩ = some (.int .i64 n) ∧ w'.cell? ⟨q, 0, none⟩ = some (.pointer (some ⟨p, 0, none⟩)) ∧ GX p (fun k => k = p) w' gs 0 ∧ w.grownBy w' none := by
  have HF := Lib.hid (fun (U : World) (hU : GatesW U a c gs) => newb_calls gs a c U hU)
  have HH := Lib.hid h
  clear h
  go_enter Tryz.func49, Tryz.ntmps49
  go_wp2_with fail
  have hg1 := World.grownBy_alloc w (.cells #[.slice a gs.length c] 27) none
  obtain ⟨W, hW⟩ : ∃ z, w.alloc (.cells #[.slice a gs.length c] 27) = z := ⟨_, rfl⟩
  rw [hW] at hg1 ⊢
  clear hW
  have HG1 := Lib.hid hg1
  refine (HF.out W (HH.out.grown hg1)).mono ?_
  rintro e w2 ⟨q, p, rfl, hp, hq, hpq, hcell, hgx, hg2⟩
  have HP := Lib.hid (And.intro hp (And.intro hq (And.intro hpq (And.intro hcell hgx))))
  have HG2 := Lib.hid (World.grownBy.trans hg1 hg2)
  clear hg1 hg2 hp hq hpq hcell hgx
  go_wp2_with fail
  go_ret
  have hb := one_cells w2 (.pointer (some ⟨q, 0, none⟩)) (.int .i64 n) 83
  have hga := World.grownBy_alloc w2 (.cells #[.pointer (some ⟨q, 0, none⟩), .int .i64 n] 83) none
  have hql : q < w2.heap.size := lies_lt HP.out.2.2.2.1
  have hpl : p < w2.heap.size := by obtain ⟨o, va, vc, mb, vis, g1, _, _⟩ := HP.out.2.2.2.2; exact lies_lt g1.core.c0
  have h1 := HG1.out.size
  exact ⟨w2.heap.size, q, p, rfl, Nat.le_trans h1 HP.out.1, Nat.le_trans h1 HP.out.2.1, HG2.out.size, HP.out.2.2.1, by omega, by omega, hb.2.1, hb.2.2.1, hga.cell HP.out.2.2.2.1 (by simp), HP.out.2.2.2.2.grown hga, World.grownBy.trans HG2.out hga⟩
end Go.Proofs.YthdhmflodiincaaGreat

namespace Go.Proofs.YthdhmflodiincaaGreat
set_option maxRecDepth 100000
open Go.RowKit Go.Maps

theorem cells_news {w : World} {ad : Addr} {c : Nat} {news : List Cl} (hi : CellsW w (some ad) c news) : ∀ j u, (clCells news)[j]? = some u → w.cell? (ad.add j) = some u := by
  intro j u hj
  have hlt : j < news.length * 2 := by rw [← clCells_len]; exact (List.getElem?_eq_some_iff.1 hj).1
  obtain ⟨g, hg⟩ : ∃ g, news[j / 2]? = some g := ⟨_, List.getElem?_eq_getElem (by omega)⟩
  obtain ⟨b, o, e, h0, h1⟩ := hi.at hg
  cases e
  have hadd : (⟨b, o, none⟩ : Addr).add j = ⟨b, o + j, none⟩ := by unfold Addr.add; split <;> simp_all
  obtain ⟨e0, e1⟩ := clCells_at hg
  rw [hadd]
  rcases (show j % 2 = 0 ∨ j % 2 = 1 by omega) with h | h
  · rw [show j / 2 * 2 = j by omega] at e0 h0
    rw [e0] at hj; cases hj; exact h0
  · rw [show j / 2 * 2 + 1 = j by omega] at e1
    rw [e1] at hj; cases hj
    rw [show o + j = o + j / 2 * 2 + 1 by omega]; exact h1
theorem cells_oneCell {news : List Cl} : ∀ u ∈ clCells news, u.oneCell' = true := by
  intro u hu
  obtain ⟨g, _, hg⟩ := List.mem_flatMap.1 hu
  simp at hg
  rcases hg with rfl | rfl <;> rfl
theorem run_append_nilC {w : World} {base n : Nat} {v : Value} {xs : List Value} (hown : w.ownsRow base 70 2 v n xs) (ty : TypeId) (c : Nat) : (Builtin.append_ #[33, 33] ty #[v, .slice none 0 c]).run Tryz.prog w = .ok v w := by
  obtain ⟨i0, hi, hz0, hz1, hz2⟩ := info_parts infoCl
  rcases hown.2 with ⟨rfl, rfl⟩ | ⟨g, cap, cur, rfl, _, _, hnc, _⟩
  · simp [Builtin.append_, run_underlying Tryz.underlying33, sizeOf, typeInfo, hi, Builtin.lenOf, Builtin.firstCells]
  · simp [Builtin.append_, run_underlying Tryz.underlying33, sizeOf, typeInfo, hi, Builtin.lenOf, Builtin.firstCells, hnc, storeCells]
theorem run_append_cells (base : Nat) (ty : TypeId) {v : Value} {n : Nat} {l : List Cl} {w : World} (hown : w.ownsRow base 70 2 v n (clCells l)) {xa : Option Addr} {m c : Nat} {news : List Cl} (hm : news.length = m) (hi : CellsW w xa c news)
    (h63 : n + m ≤ 100000) (hbase : base ≤ w.heap.size) :
    ∃ v' w', (Builtin.append_ #[33, 33] ty #[v, .slice xa m c]).run Tryz.prog w = .ok v' w' ∧ w'.ownsRow base 70 2 v' (n + m) (clCells (l ++ news)) ∧ w.grownBy w' v.ownBlock := by
  obtain ⟨i0, hi0, hz0, hz1, hz2⟩ := info_parts infoCl
  cases xa with
  | none =>
    obtain rfl : news = [] := by
      rcases hi.2 with h0 | ⟨_, _, e, _⟩
      · exact h0
      · cases e
    obtain rfl : 0 = m := hm
    exact ⟨v, w, run_append_nilC hown ty c, by rw [List.append_nil]; exact hown, grown_refl _ _⟩
  | some ad =>
    obtain ⟨v', w', hr, h2, h3, _, h5⟩ := run_append_own_at (P := Tryz.prog) w base 33 ty 70 i0 (.agg #[.int .i64 0, .int .i64 0]) 2 16 Tryz.underlying33 hi0 hz0 hz1 hz2 rfl (by decide) v n (clCells l) hown ad m c (clCells news) (by rw [clCells_len, hm]) (cells_news hi) cells_oneCell (by unfold maxLen; omega) (by omega) hbase
    exact ⟨v', w', hr, by rw [clCells_app]; exact h2, h3⟩
theorem append_cells {ops : Array Oper} {rest : List Oper} {o : Oper} {a : Act} {Q : Exit → Act → World → Prop} {w : World} (hgd : o.guard = none) (s x : Operand)
    (ho : o.op = .call { callee := .builtin .append, args := #[s, x], argTypes := #[33, 33] })
    (base : Nat) (v : Value) (n : Nat) (l : List Cl) (hs : a.eval s = v) (hown : w.ownsRow base 70 2 v n (clCells l))
    (xa : Option Addr) (m c : Nat) (news : List Cl) (hx : a.eval x = .slice xa m c) (hm : news.length = m) (hi : CellsW w xa c news)
    (h63 : n + m ≤ 100000) (hbase : base ≤ w.heap.size)
    (h : ∀ v' w', w'.ownsRow base 70 2 v' (n + m) (clCells (l ++ news)) → w.grownBy w' v.ownBlock → wpList Tryz.prog ops Q rest (a.put o.dst v') w') : wpList Tryz.prog ops Q (o :: rest) a w := by
  refine wpList_plain hgd fun K' hK' => ?_
  obtain ⟨v', w', hr, h2, h3⟩ := run_append_cells base o.type hown hm hi h63 hbase
  unfold Oper.wp execOp
  simp only [ho, resolve, invoke, builtin, Sem.run_bind, Sem.run_pure, Result.andThen_ok, List.map_toArray, List.map_cons, List.map_nil, hs, hx, hr]
  exact hK' _ _ (h v' w' h2 h3)
theorem cells_span {w : World} {B : Nat} {v : Value} {l : List Cl} (h : w.ownsRow B 70 2 v l.length (clCells l)) : ∃ a c, v = .slice a l.length c ∧ Span B w.heap.size w (fun W => CellsW W a c l) := by
  have hc := @World.ownsRow.cells w B 70 2 v l.length _ h
  rcases h.2 with ⟨hv, h0⟩ | ⟨g, cap, cur, rfl, hb, hg, hnc, hcm, _⟩
  · have hl : l = [] := List.eq_nil_of_length_eq_zero h0
    subst hl
    exact ⟨none, 0, hv, Nat.le_refl _, fun W _ => ⟨Nat.le_refl _, .inl rfl⟩⟩
  · have hlt := (Array.getElem?_eq_some_iff.1 hg).1
    refine ⟨_, _, rfl, Nat.le_refl _, fun W hW => ⟨hnc, .inr ⟨g, 0, rfl, fun j x hj => ?_⟩⟩⟩
    have h1 := hc (g := g) rfl (j * 2) (.int .i64 x.1) (clCells_at hj).1
    have h2 := hc (g := g) rfl (j * 2 + 1) (.int .i64 x.2) (clCells_at hj).2
    rw [add_at] at h1 h2
    refine ⟨?_, ?_⟩
    · rw [Nat.zero_add, World.cell?_of_block (hW g hb hlt)]; exact h1
    · rw [Nat.zero_add, World.cell?_of_block (hW g hb hlt)]; exact h2
end Go.Proofs.YthdhmflodiincaaGreat

namespace Go.Proofs.YthdhmflodiincaaGreat
set_option maxRecDepth 100000
open Go.RowKit Go.Maps

theorem pow_le {n k : Nat} (hn : n ≤ 1000) (hk : k ≤ 6) : n ^ k ≤ 1000000000000000000 :=
  Nat.le_trans (Nat.pow_le_pow_left hn k) (Nat.le_trans (Nat.pow_le_pow_right (by omega) hk) (by decide))
theorem power_calls (s n k : Nat) (w : World) (hs : w.cell? ⟨s, 1, none⟩ = some (.int .i64 (n : Int))) (hn : n ≤ 1000) (hk : k ≤ 6) :
    Calls Tryz.prog 50 #[.pointer (some ⟨s, 0, none⟩), .int .i64 (k : Int)] w fun e w' => e = .returned (.int .i64 ((n ^ k : Nat) : Int)) ∧ w' = w := by
  go_enter Tryz.func50, Tryz.ntmps50
  go_wp2_with fail
  go_loopg [5, 7] k (fun gk s5 s7 wr => ∃ (j p : Nat), s5 = .int .i64 (p : Int) ∧ s7 = .int .i64 (j : Int) ∧ gk = k - j ∧ j ≤ k ∧ p = n ^ j ∧ wr = w)
  case atStart => exact ⟨0, 1, rfl, rfl, rfl, Nat.zero_le _, rfl, rfl⟩
  case round =>
    obtain ⟨j, p, rfl, rfl, hgk, hj, hp, rfl⟩ := hrel
    have HI := Lib.hid hgk; clear hgk
    have HP := Lib.hid hp
    by_cases hjk : j < k
    · have f1 : decide (j < k) = true := decide_eq_true hjk
      have f2 : decide ((j : Int) < (k : Int)) = true := decide_eq_true (by omega)
      have hk1 : IntKind.i64.wrap ((j : Int) + 1) = ((j + 1 : Nat) : Int) := by rw [IntWalk.i64_in _ (by omega)]; omega
      obtain ⟨q, hq⟩ : ∃ q, p * n = q := ⟨_, rfl⟩
      have hq2 : q = n ^ (j + 1) := by rw [← hq, hp, Nat.pow_succ]
      have hb := pow_le hn (show j + 1 ≤ 6 by omega)
      rw [← hq2] at hb
      have hm : IntKind.i64.wrap ((p : Int) * (n : Int)) = (q : Int) := by rw [← Int.natCast_mul, hq]; exact IntWalk.i64_in _ (by omega)
      have HQ := Lib.hid hq2
      clear hq hq2 hb hp
      go_wp2_with fail
      go_roundg (k - (j + 1))
      case measure => rw [HI.out]; omega
      case rel => exact ⟨j + 1, q, rfl, rfl, rfl, by omega, HQ.out, rfl⟩
    · have f1 : decide (j < k) = false := decide_eq_false hjk
      have f2 : decide ((j : Int) < (k : Int)) = false := decide_eq_false (by omega)
      have e : j = k := by omega
      have HF := Lib.hid (show n ^ k = p by rw [hp, e])
      clear hjk hp e
      go_wp2_with fail
      go_ret
      exact ⟨by rw [HF.out]; rfl, rfl⟩
end Go.Proofs.YthdhmflodiincaaGreat

namespace Go.Proofs.YthdhmflodiincaaGreat
open Go.RowKit Go.Shelf

def loopy : Obj → Bool
  | .loop _ => true
  | .deferred _ => true
  | _ => false
theorem loopy_cells {o : Obj} (h : loopy o = true) : o.isCells = false := by cases o <;> simp [loopy] at h <;> rfl
def Quiet (B : Nat) (A A' : World) : Prop := ∃ row, A.grownBy A' row ∧ ∀ r, row = some r → B ≤ r ∧ ∃ o : Obj, A.heap[r]? = some o ∧ loopy o = true
theorem Quiet.less {B B' : Nat} {A A' : World} (h : Quiet B A A') (hB : B' ≤ B) : Quiet B' A A' := by
  obtain ⟨row, hg, hr⟩ := h
  exact ⟨row, hg, fun r e => ⟨Nat.le_trans hB (hr r e).1, (hr r e).2⟩⟩
theorem Quiet.of_none {B : Nat} {A A' : World} (h : A.grownBy A' none) : Quiet B A A' := ⟨none, h, fun _ e => by cases e⟩
theorem Quiet.put {B : Nat} {A : World} {r : Nat} {o : Obj} (o' : Obj) (hB : B ≤ r) (h : A.heap[r]? = some o) (ho : loopy o = true) : Quiet B A (A.putObj r o') :=
  ⟨some r, grownBy_putObj' A r o', fun k e => by cases e; exact ⟨hB, o, h, ho⟩⟩
def Saved (Safe : World → Nat → Prop) (W W' : World) : Prop := ∀ b, Safe W b → W'.heap[b]? = W.heap[b]? ∧ Safe W' b

theorem Quiet.cell {B : Nat} {W W' : World} (h : Quiet B W W') {a : Addr} {v : Value} (hc : W.cell? a = some v) : W'.cell? a = some v := by
  obtain ⟨row, hg, hr⟩ := h
  exact cell_kept hc hg (fun r e => by obtain ⟨_, o, h1, h2⟩ := hr r e; exact ⟨o, h1, loopy_cells h2⟩)
theorem Quiet.size {B : Nat} {W W' : World} (h : Quiet B W W') : W.heap.size ≤ W'.heap.size := by
  obtain ⟨row, hg, _⟩ := h
  exact hg.size

structure AbideG {α : Type} (B : Nat) (J : List α → World → Prop) (Safe : World → Nat → Prop) : Prop where
  keep : ∀ s A A', J s A → Quiet B A A' → J s A'
  safe : ∀ s A A' b, J s A → Quiet B A A' → Safe A b → Safe A' b
  fresh : ∀ s A A' b, J s A → Quiet B A A' → A.heap.size ≤ b → b < A'.heap.size → Safe A' b
theorem AbideG.less {α : Type} {B B' : Nat} {J : List α → World → Prop} {Safe : World → Nat → Prop} (h : AbideG B J Safe) (hB : B ≤ B') : AbideG B' J Safe :=
  ⟨fun s A A' hs hq => h.keep s A A' hs (hq.less hB), fun s A A' b hs hq => h.safe s A A' b hs (hq.less hB), fun s A A' b hs hq => h.fresh s A A' b hs (hq.less hB)⟩
def YesG {α : Type} (vals : α → Array Value) (F : Fence) (m : Nat) (P : Program) (l : Nat) (xs : List α) (J : List α → World → Prop) (Safe : World → Nat → Prop) : Prop :=
  ∀ pre x W, J pre W → pre ++ [x] <+: xs → YieldAt F m P l (vals x) W fun e W' => e = .returned (.bool true) ∧ J (pre ++ [x]) W' ∧ Saved Safe W W'
def GivesG {α : Type} (vals : α → Array Value) (F : Fence) (P : Program) (gf : Nat) (lb : Array Value) (caps : Nat → Prop) (xs : List α) (w : World) : Prop :=
  ∀ (n l : Nat) (J : List α → World → Prop) (Safe : World → Nat → Prop), (∀ b, caps b → Safe w b) → AbideG w.heap.size J Safe → YesG vals F (n - 1) P l xs J Safe → J [] w →
    CallsIn F n P gf (#[.func (.yield l) #[] #[]] ++ lb) w fun e W' => (∃ v, e = .returned v) ∧ J xs W'
def yesPostG {α : Type} (J : List α → World → Prop) (Safe : World → Nat → Prop) (s : List α) (W : World) : Exit → Act → World → Prop
  | .normal, _, W' => J s W' ∧ Saved Safe W W'
  | _, _, _ => False
variable {F : Fence} {n : Nat} {P : Program}
theorem rangeYesG {α : Type} {vals : α → Array Value} {g : Operand} {ps : Array Tmp} {assign body : Code} {Q : Exit → Act → World → Prop} {a : Act} {w : World} (hro : F.round = none) (hd : F.depth = none)
    {gf : Nat} {lb : Array Value} (hg : a.eval g = .func (.func gf) #[] lb) (hFg : F.fn gf) (eg : ∀ args w, (callFunc gf args).run P w = .ok (.enter gf args) w)
    (hps : ∀ x, (vals x).size = ps.size) {caps : Nat → Prop} {xs : List α} (hseq : ∀ W, w.grownBy W none → GivesG vals F P gf lb caps xs W)
    (I : List α → World → Prop) (Safe : World → Nat → Prop) (hI : AbideG w.heap.size I Safe) (hcap : ∀ b, caps b → Safe w b) (h0 : I [] w)
    (hround : ∀ (l : Nat) (pre : List α) (x : α) (W : World), I pre W → pre ++ [x] <+: xs → assign.wpIn (F.inRound l) (n - 1 - 1) P
      (Exit.then (fun a' W' => W' = W ∧ ∀ W2, I pre W2 → body.wpIn (F.inRound l) (n - 1 - 1) P (yesPostG I Safe (pre ++ [x]) W2) a' W2) (fun _ _ _ => False)) { tmps := (ps.zip (vals x)).foldl (fun t (p, v) => t.setIfInBounds p v) a.tmps, defers := [] } W)
    (hdone : ∀ (D : Nat) (W : World), w.heap.size ≤ D → I xs W → Safe W D → W.heap[D]? = some (.deferred (some [])) → Q .normal { a with defers := { target := .collected D, args := #[] } :: a.defers } W) :
    (Code.rangeFunc g ps assign body).wpIn F n P Q a w := by
  refine wpIn_rangeFunc fun fn hfn => ?_
  rw [hro]
  let R : LoopState → Loop := fun st => { state := st, pending := none, fn, tmps := a.tmps, params := ps, assign, body, defers := w.heap.size }
  obtain ⟨W1, hW1⟩ : ∃ W1, (w.alloc (.deferred (some []))).alloc (.loop (R .ready)) = W1 := ⟨_, rfl⟩
  have hz1 : W1.heap.size = w.heap.size + 2 := by rw [← hW1]; simp
  have hg1 : w.grownBy W1 none := by rw [← hW1]; exact (World.grownBy_alloc w _ none).trans (World.grownBy_alloc _ _ none)
  have hl1 : W1.heap[w.heap.size + 1]? = some (.loop (R .ready)) := by
    rw [← hW1]; have := World.alloc_heap_new (w.alloc (.deferred (some []))) (.loop (R .ready)); rwa [World.size_alloc] at this
  have hd1 : W1.heap[w.heap.size]? = some (.deferred (some [])) := by
    rw [← hW1]; exact (Below.heap_alloc _ _ _ (by simp)).trans (World.alloc_heap_new w _)
  refine ⟨w.heap.size + 1, [{ target := .collected w.heap.size, args := #[] }], W1, { target := .fn (.func gf) lb, args := #[.func (.yield (w.heap.size + 1)) #[] #[]] }, W1, gf,
    #[.func (.yield (w.heap.size + 1)) #[] #[]] ++ lb, W1, ?_, ?_, ?_, ?_, (fun h => by rw [hd] at h; cases h), ?_⟩
  · rw [← hW1]; exact run_enterLoop_outer _ _ _ _ _
  · simp only [resolve, hg]
    simp [go_sem]
  · intro f' hf'; simp [Target.leads] at hf'; subst hf'; exact hFg
  · simp [invoke, go_sem, eg]
  have hq1 : Quiet w.heap.size w W1 := .of_none hg1
  refine (hseq W1 hg1 (n - 1) (w.heap.size + 1) (fun pre W => I pre W ∧ W.heap[w.heap.size + 1]? = some (.loop (R .ready)) ∧ W.heap[w.heap.size]? = some (.deferred (some [])) ∧ Safe W (w.heap.size + 1) ∧ Safe W w.heap.size) Safe
    (fun b hb => hI.safe _ _ _ b h0 hq1 (hcap b hb)) ⟨?_, ?_, ?_⟩ ?_
    ⟨hI.keep _ _ _ h0 hq1, hl1, hd1, hI.fresh _ _ _ _ h0 hq1 (by omega) (by omega), hI.fresh _ _ _ _ h0 hq1 (by omega) (by omega)⟩).mono ?_
  · rintro s A A' ⟨hi, hl, hk, hsl, hsk⟩ hq
    have hq' := hq.less (B' := w.heap.size) (by omega)
    obtain ⟨row, hgr, hr⟩ := hq
    exact ⟨hI.keep _ _ _ hi hq', (hgr.block _ (Array.getElem?_eq_some_iff.1 hl).1 (fun e => by have := (hr _ e.symm).1; omega)).trans hl,
      (hgr.block _ (Array.getElem?_eq_some_iff.1 hk).1 (fun e => by have := (hr _ e.symm).1; omega)).trans hk, hI.safe _ _ _ _ hi hq' hsl, hI.safe _ _ _ _ hi hq' hsk⟩
  · rintro s A A' b ⟨hi, _⟩ hq hs
    exact hI.safe _ _ _ b hi (hq.less (by omega)) hs
  · rintro s A A' b ⟨hi, _⟩ hq h1 h2
    exact hI.fresh _ _ _ b hi (hq.less (by omega)) h1 h2
  · rintro pre x W ⟨hi, hl, hk, hsl, hsk⟩ hpre
    have hlt : w.heap.size + 1 < W.heap.size := (Array.getElem?_eq_some_iff.1 hl).1
    refine ⟨fn, _, assign, body, run_yield hl (hps x), roundIn_of_wpIn hfn ?_⟩
    refine wpIn_mono (hround _ pre x W hi hpre) ?_
    rintro e a1 W1' h1
    cases e with
    | normal => ?_
    | _ => exact h1.elim
    obtain ⟨rfl, hb⟩ := h1
    refine ⟨_, run_beginRound hl rfl, ?_⟩
    have hqb : Quiet w.heap.size W1' (W1'.putObj (w.heap.size + 1) (.loop (R .busy))) := .put _ (by omega) hl rfl
    refine wpIn_mono (hb _ (hI.keep _ _ _ hi hqb)) ?_
    rintro e a3 W3 hp
    cases e with
    | normal =>
      obtain ⟨hi3, hs3⟩ := hp
      have h3 := hs3 (w.heap.size + 1) (hI.safe _ _ _ _ hi hqb hsl)
      have k3 := hs3 w.heap.size (hI.safe _ _ _ _ hi hqb hsk)
      have hl3 : W3.heap[w.heap.size + 1]? = some (.loop (R .busy)) := h3.1.trans (World.putObj_heap_same hlt)
      have hk3 : W3.heap[w.heap.size]? = some (.deferred (some [])) := (k3.1.trans (World.putObj_heap_other (by omega))).trans hk
      have hq4 : Quiet w.heap.size W3 (W3.putObj (w.heap.size + 1) (.loop (R .ready))) := .put _ (by omega) hl3 rfl
      have hlt3 : w.heap.size + 1 < W3.heap.size := (Array.getElem?_eq_some_iff.1 hl3).1
      refine ⟨_, _, run_endRound (P := P) none hl3, rfl, ⟨hI.keep _ _ _ hi3 hq4, World.putObj_heap_same hlt3, (World.putObj_heap_other (by omega)).trans hk3, hI.safe _ _ _ _ hi3 hq4 h3.2, hI.safe _ _ _ _ hi3 hq4 k3.2⟩, ?_⟩
      intro b hb
      have hb2 := hI.safe _ _ _ b hi hqb hb
      have hb3 := hs3 b hb2
      refine ⟨?_, hI.safe _ _ _ b hi3 hq4 hb3.2⟩
      by_cases hbl : b = w.heap.size + 1
      · subst hbl
        exact (World.putObj_heap_same hlt3).trans hl.symm
      · exact ((World.putObj_heap_other hbl).trans hb3.1).trans (World.putObj_heap_other hbl)
    | _ => exact hp.elim
  · rintro e W2 ⟨⟨v, rfl⟩, hi, hl, hk, _, hsk⟩
    exact ⟨none, _, run_endLoop hl (by simp [R]), hdone _ _ (Nat.le_refl _) (hI.keep _ _ _ hi (.put _ (by omega) hl rfl)) (hI.safe _ _ _ _ hi (.put _ (by omega) hl rfl) hsk) ((World.putObj_heap_other (by omega)).trans hk)⟩

def Low (B0 : Nat) (Safe : World → Nat → Prop) (w W : World) : Prop := ∀ b, b < B0 → W.heap[b]? = w.heap[b]? ∧ Safe W b
theorem Low.saved {B0 : Nat} {Safe : World → Nat → Prop} {w W W' : World} (h : Low B0 Safe w W) (hs : Saved Safe W W') : Low B0 Safe w W' := fun b hb => by
  obtain ⟨h1, h2⟩ := h b hb
  obtain ⟨h3, h4⟩ := hs b h2
  exact ⟨h3.trans h1, h4⟩
theorem Low.grown {α : Type} {B0 Bq : Nat} {J : List α → World → Prop} {Safe : World → Nat → Prop} {w W W' : World} {s : List α} (h : Low B0 Safe w W) (hJ : AbideG Bq J Safe) (hj : J s W) (hg : W.grownBy W' none) (hB : B0 ≤ W.heap.size) : Low B0 Safe w W' := fun b hb => by
  obtain ⟨h1, h2⟩ := h b hb
  exact ⟨(hg.block b (Nat.lt_of_lt_of_le hb hB) (by simp)).trans h1, hJ.safe s W W' b hj (.of_none hg) h2⟩
theorem Low.size {B0 : Nat} {Safe : World → Nat → Prop} {w W : World} (h : Low B0 Safe w W) (hB : B0 ≤ w.heap.size) : B0 ≤ W.heap.size := by
  rcases Nat.eq_zero_or_pos B0 with h0 | h0
  · omega
  · have h1 := (h (B0 - 1) (by omega)).1
    rw [Array.getElem?_eq_getElem (show B0 - 1 < w.heap.size by omega)] at h1
    have := (Array.getElem?_eq_some_iff.1 h1).1
    omega

end Go.Proofs.YthdhmflodiincaaGreat

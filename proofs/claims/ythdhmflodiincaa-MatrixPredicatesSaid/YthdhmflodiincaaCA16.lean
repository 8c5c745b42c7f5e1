/- Texts of the proof: RZ RK RD KJ RF RB RC RG RT. -/
import Derived.Test.YthdhmflodiincaaCA12
import Derived.Test.YthdhmflodiincaaCA13
import Derived.Test.YthdhmflodiincaaCA05
import Derived.Test.YthdhmflodiincaaCA09
import Derived.Test.YthdhmflodiincaaCA14
import Derived.Test.YthdhmflodiincaaCA15
import Derived.Test.YthdhmflodiincaaCA11
import Derived.Test.YthdhmflodiincaaCA08
import Derived.Maps.RangeWalk
import Derived.Shelf.SlSortCmp.WholeK
import Derived.Ground.SlsfProg
import Derived.Shelf.SlSortCmp.NoneTotal
import Derived.Maps.OwnSet
namespace Go.Proofs.Ythdhmflodiincaa

theorem valE_valL {g : List Gt} {v : List Bool} {m : List Cl} (h : ∀ c ∈ m, Ok g c.2) : valE g v m = valL g v m := by
  unfold valE valL
  rw [List.filter_congr (fun c hc => eval_val (h c hc))]
theorem madeC_next (refs : List Int) (raw : List Nat) (k : Nat) : madeC refs raw (k + 1) = madeC refs raw k ++ (if (raw.getD k 0) % 2 = 1 ∧ pickL refs (raw.getD k 0 / 2) ≠ 1 then [((k : Int), pickL refs (raw.getD k 0 / 2))] else []) := by
  unfold madeC
  rw [List.range_succ, List.filterMap_append, List.filterMap_cons, List.filterMap_nil]
  by_cases hc : (raw.getD k 0) % 2 = 1 ∧ pickL refs (raw.getD k 0 / 2) ≠ 1
  · rw [if_pos hc, if_pos hc]
  · rw [if_neg hc, if_neg hc]
theorem madeC_all (refs : List Int) (raw : List Nat) : ∀ k, UpM (madeC refs raw k) ∧ ∀ c ∈ madeC refs raw k, 0 ≤ c.1 ∧ c.1 < (k : Int) ∧ c.2 ≠ 1 ∧ ∃ n, c.2 = pickL refs n
  | 0 => ⟨by unfold UpM madeC; simp, fun c hc => by simp [madeC] at hc⟩
  | k + 1 => by
    obtain ⟨h1, h2⟩ := madeC_all refs raw k
    rw [madeC_next]
    by_cases hc : (raw.getD k 0) % 2 = 1 ∧ pickL refs (raw.getD k 0 / 2) ≠ 1
    · rw [if_pos hc]
      refine ⟨?_, fun c hm => ?_⟩
      · unfold UpM at h1 ⊢
        rw [List.map_append, List.pairwise_append]
        refine ⟨h1, by simp, fun x hx y hy => ?_⟩
        obtain ⟨c, hc', rfl⟩ := List.mem_map.1 hx
        simp at hy
        subst hy
        exact (h2 c hc').2.1
      · rcases List.mem_append.1 hm with hm | hm
        · have := h2 c hm
          exact ⟨this.1, by have := this.2.1; omega, this.2.2⟩
        · rw [List.mem_singleton.1 hm]
          exact ⟨by show (0 : Int) ≤ (k : Int); omega, by show (k : Int) < ((k + 1 : Nat) : Int); omega, hc.2, _, rfl⟩
    · rw [if_neg hc, List.append_nil]
      exact ⟨h1, fun c hm => by have := h2 c hm; exact ⟨this.1, by have := this.2.1; omega, this.2.2⟩⟩
theorem madeC_len (refs : List Int) (raw : List Nat) (k : Nat) : (madeC refs raw k).length ≤ k := by
  unfold madeC
  exact Nat.le_trans (List.length_filterMap_le _ _) (by simp)
theorem made_mat {g : List Gt} {refs : List Int} (hp : 1 ≤ g.length) (h : ∀ r ∈ refs, Ok g r) (raw : List Nat) (k : Nat) : Mat g (madeC refs raw k) :=
  ⟨(madeC_all refs raw k).1, fun c hc => by
    obtain ⟨_, _, h3, n, h4⟩ := (madeC_all refs raw k).2 c hc
    exact ⟨by rw [h4]; exact pick_ok hp h n, h3⟩⟩
/-- In, as the relation's In. -/
theorem in_tie {gs : List Gt} (hG : Good gs) {a b : List Cl} (ha : Mat gs a) (hb : Mat gs b) (v : List Bool) : ((rk a b).all fun k => !(hasV gs v a k && !hasV gs v b k)) = inB (valL gs v a) (valL gs v b) := by
  rw [Bool.eq_iff_iff, inB_iff (val_up ha.1 v) (val_up hb.1 v), List.all_eq_true]
  have hrk := (rk_spec _ a b (Nat.le_refl _) ha.1 hb.1).2
  constructor
  · intro h z hz
    have hz' := (mem_valL hG ha.1 v z).1 hz
    have hin : z ∈ rk a b := (hrk z).2 (.inl (by
      by_cases hi : inM a z = true
      · obtain ⟨c, hc, e⟩ := List.mem_map.1 (inM_iff.1 hi)
        exact ⟨c, hc, e⟩
      · rw [has_not hG (by simpa using hi) v] at hz'
        cases hz'))
    have h1 := h z hin
    rw [hz'] at h1
    exact (mem_valL hG hb.1 v z).2 (by simpa using h1)
  · intro h k _
    cases ha' : hasV gs v a k with
    | false => rfl
    | true =>
      have h1 := (mem_valL hG hb.1 v k).1 (h k ((mem_valL hG ha.1 v k).2 ha'))
      rw [h1]; rfl
theorem some_tie {gs : List Gt} (v : List Bool) (a : List Cl) : ((a.map (·.2)).any (valC gs v)) = decide (0 < (valL gs v a).length) := by
  unfold valL
  rw [List.length_map, Bool.eq_iff_iff, decide_eq_true_eq, List.any_eq_true]
  constructor
  · rintro ⟨x, hx, hv⟩
    obtain ⟨c, hc, rfl⟩ := List.mem_map.1 hx
    exact List.length_pos_of_mem (List.mem_filter.2 ⟨hc, hv⟩)
  · intro h
    obtain ⟨c, hc⟩ := List.exists_mem_of_length_pos h
    obtain ⟨h1, h2⟩ := List.mem_filter.1 hc
    exact ⟨c.2, List.mem_map.2 ⟨c, h1, rfl⟩, h2⟩
theorem lone_tie {gs : List Gt} (v : List Bool) (a : List Cl) : ((a.map (·.2)).map (valC gs v)).count true = (valL gs v a).length := by
  unfold valL
  rw [List.length_map, List.map_map, List.count_eq_countP, List.countP_map, List.countP_eq_length_filter]
  congr 1
  refine List.filter_congr fun c _ => ?_
  simp
theorem valL_grow {g h : List Gt} (hp : g <+: h) {m : List Cl} (hok : ∀ c ∈ m, Ok g c.2) (v : List Bool) : valL h v m = valL g v m := by
  unfold valL
  rw [List.filter_congr (fun c hc => val_grow hp (hok c hc))]
open Go.RowKit in
theorem reval_at {g : List Gt} {vs : List Bool} {r : Int} {q : Bool} {a va : Option Addr} {c vc : Nat} {w : World} (hv8 : vs.length = 8) (hG : Good g) (hl : g.length ≤ 1000) (ho : Ok g r) (e : valC g vs r = q) (h : GatesW w a c g) (hv : BoolsW w va vc vs) :
    Calls Try.prog 50 #[.agg #[.slice a g.length c], .slice va 8 vc, .int .i64 r] w fun e w' => e = .returned (.bool q) ∧ w.grownBy w' none := by
  have h1 := reval_calls g vs r a c va vc w h hG hv hl (by omega) (by unfold Ok at ho; omega)
  rw [hv8, eval_val ho, e] at h1
  exact h1
open Go.RowKit in
theorem value_at {g : List Gt} {vs : List Bool} {m : List Cl} {na : Nat} {xa ma va : Option Addr} {xc mc vc : Nat} {w : World} (ar : Int) (hna : m.length = na) (hv8 : vs.length = 8) (hG : Good g) (hl : g.length ≤ 1000) (hok : ∀ c ∈ m, Ok g c.2) (hn : na ≤ 1000) (h : GatesW w xa xc g) (hm : CellsW w ma mc m) (hv : BoolsW w va vc vs) :
    Calls Try.prog 34 #[.agg #[.slice xa g.length xc], .agg #[.int .i64 ar, .slice ma na mc], .slice va 8 vc] w fun e w' => ∃ b nv d, e = .returned (.agg #[.int .i64 ar, .slice b nv d]) ∧ (valL g vs m).length = nv ∧ IntsW w' b d (valL g vs m) ∧ w.grownBy w' none := by
  subst hna
  have h1 := mvalue_calls g m vs ar xa xc ma mc va vc w h hm hv hl hn (by omega) (good_bounds hG (by omega)) (fun x hx => by have := hok x hx; unfold Ok at this; omega)
  rw [hv8, valE_valL hok] at h1
  refine h1.mono fun e w' he => ?_
  obtain ⟨b, d, rfl, hi, hg⟩ := he
  exact ⟨b, _, d, rfl, rfl, hi.weak, hg⟩
end Go.Proofs.Ythdhmflodiincaa

namespace Go.Proofs.Ythdhmflodiincaa
open Go.RowKit Go.Maps

def okC (ng : Nat) (before : Int) (x : Cl) : Bool := !(decide (x.1 ≤ before)) && (!(decide (x.2 < 0)) && (!(x.2 == 1) && !(decide (2 * (ng : Int) ≤ x.2))))
def validGo (ng : Nat) : Int → List Cl → Bool
  | _, [] => true
  | b, x :: m => okC ng b x && validGo ng x.1 m
def validM (ng : Nat) (ar : Int) (m : List Cl) : Bool := validGo ng (-1) m && (decide (1 ≤ ar) && decide (ar ≤ 3))
theorem validGo_step {ng : Nat} {b : Int} {m : List Cl} {k : Nat} {x : Cl} (h : m[k]? = some x) : validGo ng b (m.drop k) = (okC ng b x && validGo ng x.1 (m.drop (k + 1))) := by
  obtain ⟨hj, hv⟩ := List.getElem?_eq_some_iff.1 h
  rw [List.drop_eq_getElem_cons hj, hv]
  rfl
set_option maxRecDepth 100000 in
set_option maxHeartbeats 4000000 in
theorem mvalid_calls (gs : List Gt) (m : List Cl) (ar : Int) (xa : Option Addr) (xc : Nat) (ma : Option Addr) (mc : Nat) (w : World) (hm : CellsW w ma mc m) (hl : gs.length ≤ 1000) (hl2 : m.length ≤ 1000) :
    Calls Try.prog 16 #[.agg #[.slice xa gs.length xc], .agg #[.int .i64 ar, .slice ma m.length mc]] w fun e w' => e = .returned (.bool (validM gs.length ar m)) ∧ w.grownBy w' none := by
  obtain ⟨ng, hng⟩ : ∃ n, gs.length = n := ⟨_, rfl⟩
  obtain ⟨n, hn⟩ : ∃ n, m.length = n := ⟨_, rfl⟩
  have HN := Lib.hid hn
  have HM := Lib.hid hm
  rw [hng] at hl ⊢
  rw [hn] at hl2 ⊢
  clear hn hm hng
  have g1 := World.grownBy_alloc w (.cells #[.slice xa ng xc] 30) none
  have c1 := one_cell w (.slice xa ng xc) 30
  obtain ⟨W1, hW1⟩ : ∃ z, w.alloc (.cells #[.slice xa ng xc] 30) = z := ⟨_, rfl⟩
  have s1 : W1.heap.size = w.heap.size + 1 := by rw [← hW1]; simp
  rw [hW1] at g1 c1
  have g2 := World.grownBy_alloc W1 (.cells #[.int .i64 ar, .slice ma n mc] 26) none
  have c2 := one_cells W1 (.int .i64 ar) (.slice ma n mc) 26
  obtain ⟨W2, hW2⟩ : ∃ z, W1.alloc (.cells #[.int .i64 ar, .slice ma n mc] 26) = z := ⟨_, rfl⟩
  rw [hW2] at g2 c2
  have HG := Lib.hid (World.grownBy.trans g1 g2)
  have HC := Lib.hid (show W2.cell? ⟨w.heap.size, 0, none⟩ = some (.slice xa ng xc) ∧ W2.cell? ⟨W1.heap.size, 0, none⟩ = some (.int .i64 ar) from ⟨g2.cell c1.2.1 (by simp), c2.2.1⟩)
  have y0 := c2.2.2.1
  obtain ⟨V, hV⟩ : ∃ z, validM ng ar m = z := ⟨_, rfl⟩
  have HV := Lib.hid hV
  rw [hV]
  clear g1 g2 c1 c2 s1 hV
  go_enter Try.func16, Try.ntmps16
  go_wp2_with fail
  clear hW1 hW2 y0
  go_loopg [5, 11] n (fun gk s5 s11 wr => ∃ (k : Nat) (bf : Int), s5 = .int .i64 bf ∧ s11 = .int .i64 (k : Int) ∧ gk = n - k ∧ k ≤ n ∧ W2.grownBy wr none ∧ (validGo ng bf (m.drop k) && (decide (1 ≤ ar) && decide (ar ≤ 3))) = V)
  case atStart => exact ⟨0, -1, rfl, rfl, rfl, Nat.zero_le _, grown_refl _ _, HV.out⟩
  case round =>
    obtain ⟨k, bf, rfl, rfl, hgk, hk, hgr, hval⟩ := hrel
    have HI := Lib.hid (And.intro hgk (And.intro hgr hval)); clear hgk hgr hval
    by_cases hkn : k < n
    · have f1 : decide (k < n) = true := decide_eq_true hkn
      have f2 : decide ((k : Int) < (n : Int)) = true := decide_eq_true (by omega)
      have hk1 : IntKind.i64.wrap ((k : Int) + 1) = ((k + 1 : Nat) : Int) := by rw [IntWalk.i64_in _ (by omega)]; omega
      have hj0 : (0 : Int) ≤ (k : Int) := by omega
      have hj1 : (k : Int) < (n : Int) := by omega
      obtain ⟨x, hx⟩ : ∃ r, m[k]? = some r := ⟨_, List.getElem?_eq_getElem (by rw [HN.out]; exact hkn)⟩
      obtain ⟨ba, oa, rfl, x0, x1⟩ := (HM.out.grown (World.grownBy.trans HG.out HI.out.2.1)).at hx
      have hval := HI.out.2.2
      rw [validGo_step hx] at hval
      have HVL := Lib.hid hval
      clear hx hval
      go_upto_region 5 with fail
      have g5 := World.grownBy_alloc wr (.cells #[.int .i64 x.1, .int .i64 x.2] 71) none
      have hc5 := one_cells wr (.int .i64 x.1) (.int .i64 x.2) 71
      obtain ⟨U, hU⟩ : ∃ z, wr.alloc (.cells #[.int .i64 x.1, .int .i64 x.2] 71) = z := ⟨_, rfl⟩
      rw [hU] at g5 hc5 ⊢
      obtain ⟨bx, hbx⟩ : ∃ z, wr.heap.size = z := ⟨_, rfl⟩
      rw [hbx] at hc5 ⊢
      have z0 := hc5.2.1
      have z1 := hc5.2.2.1
      have z2 := (World.grownBy.trans HI.out.2.1 g5).cell HC.out.1 (by simp)
      have HGU := Lib.hid (World.grownBy.trans HI.out.2.1 g5)
      have hw2 : IntKind.i64.wrap (2 * (ng : Int)) = 2 * (ng : Int) := IntWalk.i64_in _ (by omega)
      clear hU hbx g5 hc5 x0 x1
      by_cases k1 : x.1 ≤ bf
      · have e1 : decide (x.1 ≤ bf) = true := decide_eq_true k1
        have hV : V = false := by rw [← HVL.out]; unfold okC; rw [e1]; rfl
        subst hV
        go_wp2_with fail
        go_ret
        exact ⟨rfl, World.grownBy.trans HG.out HGU.out⟩
      · have e1 : decide (x.1 ≤ bf) = false := decide_eq_false k1
        by_cases k2 : x.2 < 0
        · have e2 : decide (x.2 < 0) = true := decide_eq_true k2
          have hV : V = false := by rw [← HVL.out]; unfold okC; rw [e1, e2]; rfl
          subst hV
          go_wp2_with fail
          go_ret
          exact ⟨rfl, World.grownBy.trans HG.out HGU.out⟩
        · have e2 : decide (x.2 < 0) = false := decide_eq_false k2
          by_cases k3 : x.2 = 1
          · have e3 : (x.2 == 1) = true := by rw [k3]; rfl
            have hV : V = false := by rw [← HVL.out]; unfold okC; rw [e1, e2, e3]; rfl
            subst hV
            go_wp2_with fail
            go_ret
            exact ⟨rfl, World.grownBy.trans HG.out HGU.out⟩
          · have e3 : (x.2 == 1) = false := by simpa using k3
            by_cases k4 : 2 * (ng : Int) ≤ x.2
            · have e4 : decide (2 * (ng : Int) ≤ x.2) = true := decide_eq_true k4
              have hV : V = false := by rw [← HVL.out]; unfold okC; rw [e1, e2, e3, e4]; rfl
              subst hV
              go_wp2_with fail
              go_ret
              exact ⟨rfl, World.grownBy.trans HG.out HGU.out⟩
            · have e4 : decide (2 * (ng : Int) ≤ x.2) = false := decide_eq_false k4
              have HNX := Lib.hid (show (validGo ng x.1 (m.drop (k + 1)) && (decide (1 ≤ ar) && decide (ar ≤ 3))) = V from by rw [← HVL.out]; unfold okC; rw [e1, e2, e3, e4]; rfl)
              go_wp2_with fail
              go_roundg (n - (k + 1))
              case measure => rw [HI.out.1]; omega
              case rel => exact ⟨k + 1, x.1, rfl, rfl, rfl, by omega, HGU.out, HNX.out⟩
    · have f1 : decide (k < n) = false := decide_eq_false hkn
      have f2 : decide ((k : Int) < (n : Int)) = false := decide_eq_false (by omega)
      have hval := HI.out.2.2
      rw [List.drop_of_length_le (by rw [HN.out]; omega)] at hval
      have hV : (decide (1 ≤ ar) && decide (ar ≤ 3)) = V := by rw [← hval]; rfl
      have y0 := HI.out.2.1.cell HC.out.2 (by simp)
      by_cases k1 : 1 ≤ ar
      · have e1 : decide (1 ≤ ar) = true := decide_eq_true k1
        rw [e1] at hV
        go_wp2_with fail
        go_ret
        exact ⟨(by first | rfl | (rw [← hV]; rfl)), World.grownBy.trans HG.out HI.out.2.1⟩
      · have e1 : decide (1 ≤ ar) = false := decide_eq_false k1
        rw [e1] at hV
        go_wp2_with fail
        go_ret
        exact ⟨(by first | rfl | (rw [← hV]; rfl)), World.grownBy.trans HG.out HI.out.2.1⟩
end Go.Proofs.Ythdhmflodiincaa

namespace Go.Proofs.Ythdhmflodiincaa
set_option maxRecDepth 100000
open Go.RowKit Go.Maps

def wfK (k : Int) : Prop := (Lit.int .i64 k).wf = true
theorem keyed3 : Keyed Try.prog 3 := int_keyed Try.underlying3
/-- Block b is a map of at most n entries: T says which keys are there, t what they hold. -/
def MapT (w : World) (b n : Nat) (T : Int → Bool) (t : Int → Int) : Prop :=
  ∃ D : DataW Unit, w.ownsMap Try.prog 3 (plainElem Try.prog 3) b n D ∧ ∀ k : Int, wfK k → Maps.has D (.int .i64 k) = T k ∧ (T k = true → ∀ z, D.atKey (.int .i64 k) z = .lit (.int .i64 (t k)))
theorem MapT.made (w : World) (t : Int → Int) : MapT (w.alloc (.map #[] 0)) w.heap.size 0 (fun _ => false) t :=
  ⟨.map [], World.ownsMap_made w _ _ _, fun k _ => ⟨by simp [Maps.has], fun h => by cases h⟩⟩
theorem MapT.kept {w w' : World} {b n : Nat} {T : Int → Bool} {t : Int → Int} {r : Option Nat} (h : MapT w b n T t) (hg : w.grownBy w' r) (hr : some b ≠ r) : MapT w' b n T t := by
  obtain ⟨D, hD, hk⟩ := h
  exact ⟨D, hD.kept hg hr, hk⟩
theorem MapT.lt {w : World} {b n : Nat} {T : Int → Bool} {t : Int → Int} (h : MapT w b n T t) : b < w.heap.size := by
  obtain ⟨D, ⟨es, clock, hb, _⟩, _⟩ := h
  exact (Array.getElem?_eq_some_iff.1 hb).1
theorem MapT.not_cells {w : World} {b n : Nat} {T : Int → Bool} {t : Int → Int} (h : MapT w b n T t) {o : Nat} {v : Value} : w.cell? ⟨b, o, none⟩ ≠ some v := fun hv => by
  obtain ⟨D, ⟨es, clock, hb, _⟩, _⟩ := h
  unfold World.cell? at hv
  rw [hb] at hv
  cases hv
theorem MapT.look {w : World} {b n : Nat} {T : Int → Bool} {t : Int → Int} (h : MapT w b n T t) {k : Int} (hk : wfK k) : ∃ c : Int, (Instr.lookup 102 (.map (some b)) (.int .i64 k) true).run Try.prog w = .ok (.tuple #[.int .i64 c, .bool (T k)]) w ∧ (T k = true → c = t k) := by
  obtain ⟨D, hD, ha⟩ := h
  obtain ⟨v, ps, hr, hv⟩ := hD.look_ok keyed3 Try.underlying102 (zero3 w) (plainElem_int Try.underlying3 (by decide)) (keyOf_int_mk Try.underlying3 hk)
  obtain ⟨c, rfl, hc, _⟩ := plainElem_int_inv Try.underlying3 hv
  refine ⟨c, by rw [hr, (ha k hk).1], fun hT => ?_⟩
  have h1 := (ha k hk).2 hT (.lit (.int .i64 0))
  have h2 := congrArg Prod.fst hc
  simp only at h2
  rw [h1] at h2
  injection h2 with h2
  injection h2 with _ h2
  exact h2.symm
theorem MapT.store {w : World} {b n : Nat} {T : Int → Bool} {t : Int → Int} (h : MapT w b n T t) (hl : n ≤ 1000000) {k v : Int} (hk : wfK k) (hv : wfK v) :
    ∃ w', (Instr.mapUpdate 102 (.map (some b)) (.int .i64 k) (.int .i64 v)).run Try.prog w = .ok () w' ∧ MapT w' b (n + 1) (fun j => j == k || T j) (fun j => if j = k then v else t j) ∧ w.grownBy w' (some b) := by
  obtain ⟨D, hD, ha⟩ := h
  have hkl := keyOf_int_mk Try.underlying3 hk
  obtain ⟨w', hr, ho, ht⟩ := hD.store keyed3 Try.underlying102 (by unfold maxLen; omega) hkl (plainElem_int Try.underlying3 hv)
  refine ⟨w', hr, ⟨_, ho, fun j hj => ?_⟩, ht.grown⟩
  by_cases e : j = k
  · subst e
    refine ⟨by rw [Maps.has_put_same hD.isMap (keyed3.key hkl)]; simp, fun _ z => ?_⟩
    rw [Maps.atKey_put_same hD.isMap (keyed3.key hkl)]
    show _ = DataW.lit (.int .i64 (if j = j then v else t j))
    rw [if_pos rfl]
  · have hne : (Lit.int .i64 j) ≠ (Lit.int .i64 k) := fun hh => e (by injection hh)
    have h1 := ha j hj
    refine ⟨by rw [Maps.has_put_other hne, h1.1]; simp [e], fun hT z => ?_⟩
    have hT' : T j = true := by simpa [e] using hT
    rw [Maps.atKey_put_other hne]
    show _ = DataW.lit (.int .i64 (if j = k then v else t j))
    rw [if_neg e]
    exact h1.2 hT' z
/-- An algebra in the box s over the builder q over p, and a table in the map b, that have come since W0. -/
structure JSt (W0 : World) (p q s b : Nat) (g : List Gt) (n : Nat) (T : Int → Bool) (t : Int → Int) (W : World) : Prop where
  gx : ∃ hi, GX p (OwnC p W) W g hi
  s0 : W.cell? ⟨s, 0, none⟩ = some (.pointer (some ⟨q, 0, none⟩))
  q0 : W.cell? ⟨q, 0, none⟩ = some (.pointer (some ⟨p, 0, none⟩))
  mp : MapT W b n T t
  grown : W0.grownBy W none
  low : W0.heap.size ≤ p ∧ p < b
  nb : ¬ OwnC p W b
  nq : ¬ OwnC p W q ∧ ¬ OwnC p W s
def SafeJ (p b : Nat) (W : World) (k : Nat) : Prop := k < W.heap.size ∧ ¬ OwnC p W k ∧ k ≠ b
theorem Saved.cellJ {p b : Nat} {A B : World} (h : Saved (SafeJ p b) A B) {a : Addr} {v : Value} (hs : SafeJ p b A a.block) (hc : A.cell? a = some v) : B.cell? a = some v := (World.cell?_of_block (h _ hs).1).trans hc
theorem JSt.safe_s {W0 W : World} {p q s b : Nat} {g : List Gt} {n : Nat} {T : Int → Bool} {t : Int → Int} (h : JSt W0 p q s b g n T t W) : SafeJ p b W s := ⟨lies_lt h.s0, h.nq.2, fun e => by subst e; exact h.mp.not_cells h.s0⟩
theorem JSt.safe_q {W0 W : World} {p q s b : Nat} {g : List Gt} {n : Nat} {T : Int → Bool} {t : Int → Int} (h : JSt W0 p q s b g n T t W) : SafeJ p b W q := ⟨lies_lt h.q0, h.nq.1, fun e => by subst e; exact h.mp.not_cells h.q0⟩
theorem JSt.step {W0 W W' : World} {p q s b : Nat} {g g' : List Gt} {n : Nat} {T : Int → Bool} {t : Int → Int} (h : JSt W0 p q s b g n T t W) {hi : Int} (hx : GX p (fun k => OwnC p W k ∨ W.heap.size ≤ k) W' g' hi) (ho : Off (OwnC p W) W W') : JSt W0 p q s b g' n T t W' ∧ Saved (SafeJ p b) W W' := by
  have hoc : ∀ k, OwnC p W' k → OwnC p W k ∨ W.heap.size ≤ k := fun k hk => hx.own_in hk
  have hq : q < W.heap.size := lies_lt h.q0
  have hs : s < W.heap.size := lies_lt h.s0
  have hb := h.mp.lt
  obtain ⟨hi0, hg0⟩ := h.gx
  have hmp : MapT W' b n T t := by
    obtain ⟨D, hD, hk⟩ := h.mp
    obtain ⟨es, clock, hbb, hrest⟩ := hD
    exact ⟨D, ⟨es, clock, (ho.block b hb h.nb).trans hbb, hrest⟩, hk⟩
  refine ⟨⟨⟨hi, hx.own⟩, ho.cell h.s0 h.nq.2, ho.cell h.q0 h.nq.1, hmp, ?_, h.low, fun e => ?_, fun e => ?_, fun e => ?_⟩, fun k hk => ⟨ho.at_ hk.1 hk.2.1, Nat.lt_of_lt_of_le hk.1 ho.size, fun e => ?_, hk.2.2⟩⟩
  · exact ho.grown h.grown (fun k hk => Nat.le_trans h.low.1 (hg0.own_lt hk).1)
  · rcases hoc b e with h1 | h1
    · exact h.nb h1
    · omega
  · rcases hoc q e with h1 | h1
    · exact h.nq.1 h1
    · omega
  · rcases hoc s e with h1 | h1
    · exact h.nq.2 h1
    · omega
  · rcases hoc k e with h1 | h1
    · exact hk.2.1 h1
    · have := hk.1; omega
/-- The table is written. -/
theorem JSt.put {W0 W W' : World} {p q s b : Nat} {g : List Gt} {n n' : Nat} {T T' : Int → Bool} {t t' : Int → Int} (h : JSt W0 p q s b g n T t W) (hm : MapT W' b n' T' t') (hg : W.grownBy W' (some b)) : JSt W0 p q s b g n' T' t' W' ∧ Saved (SafeJ p b) W W' := by
  obtain ⟨hi, hx⟩ := h.gx
  have ho : Off (fun k => k = b) W W' := Off.of hg (fun k e => by cases e; rfl)
  have hgx : GX p (OwnC p W) W' g hi := hx.far hg (fun k e => by cases e; exact ⟨Nat.le_of_lt h.low.2, h.nb⟩)
  have hoc : ∀ k, OwnC p W' k → OwnC p W k := fun k hk => hgx.own_in hk
  have hs := h.safe_s
  have hq := h.safe_q
  exact ⟨⟨⟨hi, hgx.own⟩, ho.cell h.s0 hs.2.2, ho.cell h.q0 hq.2.2, hm, ho.grown h.grown (fun k e => by have e' : k = b := e; have := h.low; omega), h.low, fun e => h.nb (hoc b e), fun e => h.nq.1 (hoc q e), fun e => h.nq.2 (hoc s e)⟩, fun k hk => ⟨ho.at_ hk.1 hk.2.2, Nat.lt_of_lt_of_le hk.1 ho.size, fun e => hk.2.1 (hoc k e), hk.2.2⟩⟩
/-- New blocks are laid. -/
theorem JSt.laid {W0 W W' : World} {p q s b : Nat} {g : List Gt} {n : Nat} {T : Int → Bool} {t : Int → Int} (h : JSt W0 p q s b g n T t W) (hg : W.grownBy W' none) : JSt W0 p q s b g n T t W' ∧ Saved (SafeJ p b) W W' ∧ ∀ k, W.heap.size ≤ k → k < W'.heap.size → SafeJ p b W' k := by
  obtain ⟨hi, hx⟩ := h.gx
  have hgx := hx.grown hg
  have hoc : ∀ k, OwnC p W' k → OwnC p W k := fun k hk => hgx.own_in hk
  have hb := h.mp.lt
  refine ⟨⟨⟨hi, hgx.own⟩, hg.cell h.s0 (by simp), hg.cell h.q0 (by simp), h.mp.kept hg (by simp), World.grownBy.trans h.grown hg, h.low, fun e => h.nb (hoc b e), fun e => h.nq.1 (hoc q e), fun e => h.nq.2 (hoc s e)⟩, fun k hk => ⟨hg.block k hk.1 (by simp), Nat.lt_of_lt_of_le hk.1 hg.size, fun e => hk.2.1 (hoc k e), hk.2.2⟩, fun k h1 h2 => ⟨h2, fun e => ?_, fun e => by omega⟩⟩
  have := (hx.own_lt (hoc k e)).2
  omega
end Go.Proofs.Ythdhmflodiincaa

namespace Go.Proofs.Ythdhmflodiincaa

def ofTabL (t : Int → Int) (L : List Int) : List Cl := (L.filter fun k => t k != 1).map fun k => (k, t k)
theorem run_ofTab_from (t : Int → Int) (g : List Gt) : ∀ (L : List Int) (s : List Cl), (foldP (fun m k => (Pr.ret (t k)).bind fun r => .ret (keptM m k r)) L s).run g = (g, s ++ ofTabL t L)
  | [], s => by simp [ofTabL, run_foldP_nil]
  | k :: L, s => by
    rw [run_foldP_cons]
    show (foldP _ L (keptM s k (t k))).run g = _
    rw [run_ofTab_from t g L]
    unfold keptM ofTabL
    by_cases h : t k = 1
    · rw [if_pos h, List.filter_cons_of_neg (by simp [h])]
    · rw [if_neg h, List.filter_cons_of_pos (by simp [h]), List.map_cons, List.append_assoc]
      rfl
theorem run_ofTab (t : Int → Int) (L : List Int) (g : List Gt) : (ofTab t L).run g = (g, ofTabL t L) := by
  have h := run_ofTab_from t g L []
  rw [List.nil_append] at h
  exact h
/-- Cells in order that are those of the table. -/
theorem tab_ext {m : List Cl} {t : Int → Int} {L : List Int} (hm : UpM m) (hL : L.Pairwise (· < ·)) (h : ∀ k r, (k, r) ∈ m ↔ r = t k ∧ r ≠ 1) (hr : ∀ k, t k ≠ 1 → k ∈ L) : m = ofTabL t L := by
  have h1 : m.map (·.1) = L.filter fun k => t k != 1 := by
    refine sorted_ext hm (hL.sublist List.filter_sublist) (fun k => ?_)
    rw [List.mem_map, List.mem_filter]
    constructor
    · rintro ⟨⟨k', r⟩, hc, rfl⟩
      obtain ⟨e1, e2⟩ := (h k' r).1 hc
      have e3 : t k' ≠ 1 := by rw [← e1]; exact e2
      exact ⟨hr _ e3, by simpa using e3⟩
    · rintro ⟨_, h2⟩
      have h3 : t k ≠ 1 := by simpa using h2
      exact ⟨(k, t k), (h k (t k)).2 ⟨rfl, h3⟩, rfl⟩
  unfold ofTabL
  rw [← h1, List.map_map]
  conv => lhs; rw [← List.map_id m]
  refine List.map_congr_left fun c hc => ?_
  obtain ⟨k, r⟩ := c
  have h2 := ((h k r).1 hc).1
  show (k, r) = (k, t k)
  rw [h2]
def jRow (n rest : Int) (x : Cl) (b : List Cl) : List (Cl × Cl) := (b.map fun y => (x, y)).filter fun p => p.1.1 % n == p.2.1 / rest
theorem jPairs_cons (n rest : Int) (x : Cl) (a b : List Cl) : jPairs n rest (x :: a) b = jRow n rest x b ++ jPairs n rest a b := by
  unfold jPairs allPairs jRow
  rw [List.flatMap_cons, List.filter_append]
theorem jRow_yes {n rest : Int} {x y : Cl} {b : List Cl} (h : x.1 % n = y.1 / rest) : jRow n rest x (y :: b) = (x, y) :: jRow n rest x b := by
  unfold jRow
  rw [List.map_cons, List.filter_cons_of_pos (by simp [h])]
theorem jRow_no {n rest : Int} {x y : Cl} {b : List Cl} (h : ¬ x.1 % n = y.1 / rest) : jRow n rest x (y :: b) = jRow n rest x b := by
  unfold jRow
  rw [List.map_cons, List.filter_cons_of_neg (by simp [h])]
theorem jPairs_nil (n rest : Int) (b : List Cl) : jPairs n rest [] b = [] := rfl
theorem jRow_nil (n rest : Int) (x : Cl) : jRow n rest x [] = [] := rfl
/-- One pair is put into the table. -/
theorem run_jF (n rest : Int) (s : Int → Int) (p : Cl × Cl) (g : List Gt) : (jF n rest s p).run g = ((orC (andC g p.1.2 p.2.2).1 (s (jr n rest p)) (andC g p.1.2 p.2.2).2).1, fun k => if k = jr n rest p then (orC (andC g p.1.2 p.2.2).1 (s (jr n rest p)) (andC g p.1.2 p.2.2).2).2 else s k) := by
  unfold jF
  rw [Pr.run_bind, run_andP, Pr.run_bind, run_orP]
  rfl
theorem jF_only {n rest : Int} : ∀ (l : List (Cl × Cl)) (s : Int → Int) (g : List Gt) (k : Int), ((foldP (jF n rest) l s).run g).2 k ≠ s k → ∃ p ∈ l, jr n rest p = k
  | [], s, g, k, h => absurd rfl h
  | p :: l, s, g, k, h => by
    rw [run_foldP_cons, run_jF] at h
    by_cases hk : k = jr n rest p
    · exact ⟨p, by simp, hk.symm⟩
    · have h2 := jF_only l _ _ k (by
        intro e
        apply h
        rw [e]
        show (if k = jr n rest p then _ else s k) = s k
        rw [if_neg hk])
      obtain ⟨q, hq, e⟩ := h2
      exact ⟨q, List.mem_cons_of_mem _ hq, e⟩
/-- Join's run, and what its table may hold. -/
theorem run_mjoin {n rest : Int} {total : Nat} {a b : List Cl} {gs g : List Gt} {t : Int → Int} (h : (foldP (jF n rest) (jPairs n rest a b) fun _ => 1).run gs = (g, t)) : (mjoinP n rest total a b).run gs = (g, ofTabL t (ranksTo total)) := by
  unfold mjoinP
  rw [Pr.run_bind, h, run_ofTab]
theorem table_in {n rest : Int} {total : Nat} {a b : List Cl} {gs g : List Gt} {t : Int → Int} (h : (foldP (jF n rest) (jPairs n rest a b) fun _ => 1).run gs = (g, t)) (hj : ∀ p ∈ jPairs n rest a b, 0 ≤ jr n rest p ∧ jr n rest p < (total : Int)) (k : Int) (hk : t k ≠ 1) : k ∈ ranksTo total := by
  obtain ⟨p, hp, rfl⟩ := jF_only (jPairs n rest a b) (fun _ => 1) gs k (by rw [h]; exact hk)
  exact mem_ranksTo.2 (hj p hp)
end Go.Proofs.Ythdhmflodiincaa

namespace Go.Proofs.Ythdhmflodiincaa
set_option maxRecDepth 100000
open Go.RowKit Go.Maps

theorem wfK_small {z : Int} (h : 0 ≤ z) (h2 : z ≤ 9223372036854775807) : wfK z := by
  have e1 : IntKind.i64.min = -9223372036854775808 := by decide
  have e2 : IntKind.i64.max = 9223372036854775807 := by decide
  show (decide (IntKind.i64.min ≤ z) && decide (z ≤ IntKind.i64.max)) = true
  rw [e1, e2, Bool.and_eq_true, decide_eq_true_eq, decide_eq_true_eq]
  omega
theorem jp_lt {i j na nb : Nat} (hi : i < na) (hj : j < nb) : i * nb + j + 1 ≤ na * nb := by
  have h := Nat.mul_le_mul_right nb (show i + 1 ≤ na from hi)
  rw [Nat.add_mul] at h
  omega
/-- Between two pairs: what is left leads to the end. -/
structure JL (W0 : World) (p q s bm : Nat) (gs gE : List Gt) (tE : Int → Int) (n rest : Int) (total : Nat) (left : List (Cl × Cl)) (N : Nat) (W : World) : Prop where
  ex : ∃ g T t m, JSt W0 p q s bm g m T t W ∧ (foldP (jF n rest) left t).run g = (gE, tE) ∧ (Good g ∧ gs <+: g ∧ g.length ≤ gs.length + 2 * N ∧ m ≤ N) ∧ (∀ k, T k = false → t k = 1) ∧ (∀ k, Ok g (t k)) ∧ (∀ k, T k = true → 0 ≤ k ∧ k < (total : Int))
theorem JL.laid {W0 W W' : World} {p q s bm : Nat} {gs gE : List Gt} {tE : Int → Int} {n rest : Int} {total : Nat} {left : List (Cl × Cl)} {N : Nat} (h : JL W0 p q s bm gs gE tE n rest total left N W) (hg : W.grownBy W' none) :
    JL W0 p q s bm gs gE tE n rest total left N W' ∧ Saved (SafeJ p bm) W W' ∧ ∀ k, W.heap.size ≤ k → k < W'.heap.size → SafeJ p bm W' k := by
  obtain ⟨g, T, t, m, h1, h2⟩ := h.ex
  have h3 := h1.laid hg
  exact ⟨⟨g, T, t, m, h3.1, h2⟩, h3.2⟩
theorem JL.more {W0 W : World} {p q s bm : Nat} {gs gE : List Gt} {tE : Int → Int} {n rest : Int} {total : Nat} {left : List (Cl × Cl)} {N N' : Nat} (h : JL W0 p q s bm gs gE tE n rest total left N W) (hN : N ≤ N') : JL W0 p q s bm gs gE tE n rest total left N' W := by
  obtain ⟨g, T, t, m, h1, h2, ⟨h3, h4, h5, h6⟩, h7⟩ := h.ex
  exact ⟨g, T, t, m, h1, h2, ⟨h3, h4, by omega, by omega⟩, h7⟩
theorem JL.grown {W0 W : World} {p q s bm : Nat} {gs gE : List Gt} {tE : Int → Int} {n rest : Int} {total : Nat} {left : List (Cl × Cl)} {N : Nat} (h : JL W0 p q s bm gs gE tE n rest total left N W) : W0.grownBy W none := by
  obtain ⟨g, T, t, m, h1, _⟩ := h.ex
  exact h1.grown
theorem JL.cells {W0 W : World} {p q s bm : Nat} {gs gE : List Gt} {tE : Int → Int} {n rest : Int} {total : Nat} {left : List (Cl × Cl)} {N : Nat} (h : JL W0 p q s bm gs gE tE n rest total left N W) : W.cell? ⟨s, 0, none⟩ = some (.pointer (some ⟨q, 0, none⟩)) ∧ W.cell? ⟨q, 0, none⟩ = some (.pointer (some ⟨p, 0, none⟩)) ∧ SafeJ p bm W s ∧ SafeJ p bm W q := by
  obtain ⟨g, T, t, m, h1, _⟩ := h.ex
  exact ⟨h1.s0, h1.q0, h1.safe_s, h1.safe_q⟩
/-- One pair is in the table. -/
theorem JL.put {W0 W2 W3 : World} {p q s bm : Nat} {gs gE g g1 g2 : List Gt} {tE t : Int → Int} {n rest : Int} {total : Nat} {left : List (Cl × Cl)} {N m : Nat} {T : Int → Bool} {c : Cl × Cl} {rk : Int} {u t2 : Int}
    (h1 : JSt W0 p q s bm g2 m T t W2) (hm : MapT W3 bm (m + 1) (fun j => j == rk || T j) (fun j => if j = rk then t2 else t j)) (hg : W2.grownBy W3 (some bm))
    (hr : (foldP (jF n rest) (c :: left) t).run g = (gE, tE)) (hk : jr n rest c = rk) (ha : andC g c.1.2 c.2.2 = (g1, u)) (ho : orC g1 (t rk) u = (g2, t2)) (_hG : Good g) (hG2 : Good g2) (hp : gs <+: g) (hp2 : g <+: g2) (hl : g.length ≤ gs.length + 2 * N) (hl2 : g2.length ≤ g.length + 2) (hmN : m ≤ N)
    (hT : ∀ k, T k = false → t k = 1) (hok : ∀ k, Ok g (t k)) (hok2 : Ok g2 t2) (htot : ∀ k, T k = true → 0 ≤ k ∧ k < (total : Int)) (hrk : 0 ≤ rk ∧ rk < (total : Int)) :
    JL W0 p q s bm gs gE tE n rest total left (N + 1) W3 ∧ Saved (SafeJ p bm) W2 W3 := by
  have hs := h1.put hm hg
  refine ⟨⟨g2, _, _, m + 1, hs.1, ?_, ⟨hG2, hp.trans hp2, by omega, by omega⟩, fun k hk => ?_, fun k => ?_, fun k hk => ?_⟩, hs.2⟩
  · rw [run_foldP_cons, run_jF, hk, ha] at hr
    simp only at hr
    rw [ho] at hr
    exact hr
  · have hk' : (k == rk || T k) = false := hk
    rw [Bool.or_eq_false_iff] at hk'
    have hne : k ≠ rk := by simpa using hk'.1
    show (if k = rk then t2 else t k) = 1
    rw [if_neg hne]
    exact hT k hk'.2
  · show Ok g2 (if k = rk then t2 else t k)
    by_cases e : k = rk
    · rw [if_pos e]; exact hok2
    · rw [if_neg e]
      have h9 := hok k
      have h8 := hp2.length_le
      unfold Ok at h9 ⊢
      omega
  · have hk' : (k == rk || T k) = true := hk
    rw [Bool.or_eq_true] at hk'
    rcases hk' with e | e
    · have e' : k = rk := by simpa using e
      rw [e']; exact hrk
    · exact htot k e
theorem JL.skip {W0 W : World} {p q s bm : Nat} {gs gE : List Gt} {tE : Int → Int} {n rest : Int} {total : Nat} {x y : Cl} {b : List Cl} {j : Nat} {L : List (Cl × Cl)} {N : Nat} (h : JL W0 p q s bm gs gE tE n rest total (jRow n rest x (b.drop j) ++ L) N W) (hy : b[j]? = some y) (hne : ¬ x.1 % n = y.1 / rest) :
    JL W0 p q s bm gs gE tE n rest total (jRow n rest x (b.drop (j + 1)) ++ L) (N + 1) W := by
  have e : b.drop j = y :: b.drop (j + 1) := by
    obtain ⟨hj, hv⟩ := List.getElem?_eq_some_iff.1 hy
    rw [List.drop_eq_getElem_cons hj, hv]
  rw [e, jRow_no hne] at h
  exact h.more (Nat.le_succ N)
theorem jdrop_yes {n rest : Int} {x y : Cl} {b : List Cl} {j : Nat} (L : List (Cl × Cl)) (hy : b[j]? = some y) (h : x.1 % n = y.1 / rest) : jRow n rest x (b.drop j) ++ L = (x, y) :: (jRow n rest x (b.drop (j + 1)) ++ L) := by
  obtain ⟨hj, hv⟩ := List.getElem?_eq_some_iff.1 hy
  rw [List.drop_eq_getElem_cons hj, hv, jRow_yes h]
  rfl
theorem jpairs_drop {n rest : Int} {x : Cl} {a b : List Cl} {i : Nat} (hx : a[i]? = some x) : jPairs n rest (a.drop i) b = jRow n rest x b ++ jPairs n rest (a.drop (i + 1)) b := by
  obtain ⟨hj, hv⟩ := List.getElem?_eq_some_iff.1 hx
  rw [List.drop_eq_getElem_cons hj, hv, jPairs_cons]
/-- The numbers of a pair. -/
theorem jr_nat {n rest : Nat} {x y : Cl} {xr yr : Nat} (hx : x.1 = (xr : Int)) (hy : y.1 = (yr : Int)) : jr (n : Int) (rest : Int) (x, y) = ((xr / n * rest + yr % rest : Nat) : Int) := by
  unfold jr
  show x.1 / (n : Int) * (rest : Int) + y.1 % (rest : Int) = _
  rw [hx, hy]
  push_cast
  rfl
theorem jpow_le {n j : Nat} (hn1 : 1 ≤ n) (hn : n ≤ 4) (hj : j ≤ 3) : 1 ≤ n ^ (j - 1) ∧ n ^ (j - 1) ≤ 16 := by
  refine ⟨Nat.one_le_pow _ _ hn1, ?_⟩
  have h1 : n ^ (j - 1) ≤ 4 ^ (j - 1) := Nat.pow_le_pow_left hn _
  have h2 : 4 ^ (j - 1) ≤ 4 ^ 2 := Nat.pow_le_pow_right (by omega) (by omega)
  omega
end Go.Proofs.Ythdhmflodiincaa

namespace Go.Proofs.Ythdhmflodiincaa
set_option maxRecDepth 100000
open Go.RowKit Go.Shelf Go.Lib Go.Sort

def Try.sortC_ren : Go.Shelf.Ren := ⟨fun | 6 => 120 | 15 => 130 | 14 => 129 | 28 => 143 | 29 => 144 | 20 => 135 | 21 => 136 | 22 => 137 | 23 => 138 | 24 => 139 | 25 => 140 | 26 => 141 | 27 => 142 | 46 => 147 | 47 => 148 | 48 => 149 | 49 => 150 | 50 => 151 | 57 => 161 | n => n, fun | 22 => 24 | 24 => 71 | 25 => 126 | 3 => 3 | 39 => 135 | 0 => 0 | 53 => 145 | 55 => 147 | 4 => 4 | 46 => 139 | 45 => 138 | 50 => 103 | 5 => 5 | 9 => 9 | 66 => 150 | 70 => 154 | 76 => 162 | 77 => 163 | n => n, fun | n => n⟩
theorem Try.sortC : Go.Proofs.SlLaysF0.n6 Try.prog Try.sortC_ren where
  mixed := by kernel_rfl
  f6 := ⟨Try.f120.name, of_decide_eq_true (by kernel_rfl), Try.func120.trans (congrArg some (by kernel_rfl))⟩
  f14 := ⟨Try.f129.name, of_decide_eq_true (by kernel_rfl), Try.func129.trans (congrArg some (by kernel_rfl))⟩
  f15 := Try.func130.trans (congrArg some (by kernel_rfl))
  f20 := ⟨Try.f135.name, of_decide_eq_true (by kernel_rfl), Try.func135.trans (congrArg some (by kernel_rfl))⟩
  f21 := ⟨Try.f136.name, of_decide_eq_true (by kernel_rfl), Try.func136.trans (congrArg some (by kernel_rfl))⟩
  f22 := ⟨Try.f137.name, of_decide_eq_true (by kernel_rfl), Try.func137.trans (congrArg some (by kernel_rfl))⟩
  f23 := ⟨Try.f138.name, of_decide_eq_true (by kernel_rfl), Try.func138.trans (congrArg some (by kernel_rfl))⟩
  f24 := ⟨Try.f139.name, of_decide_eq_true (by kernel_rfl), Try.func139.trans (congrArg some (by kernel_rfl))⟩
  f25 := ⟨Try.f140.name, of_decide_eq_true (by kernel_rfl), Try.func140.trans (congrArg some (by kernel_rfl))⟩
  f26 := ⟨Try.f141.name, of_decide_eq_true (by kernel_rfl), Try.func141.trans (congrArg some (by kernel_rfl))⟩
  f27 := ⟨Try.f142.name, of_decide_eq_true (by kernel_rfl), Try.func142.trans (congrArg some (by kernel_rfl))⟩
  f28 := Try.func143.trans (congrArg some (by kernel_rfl))
  f29 := Try.func144.trans (congrArg some (by kernel_rfl))
  f46 := ⟨Try.f147.name, of_decide_eq_true (by kernel_rfl), Try.func147.trans (congrArg some (by kernel_rfl))⟩
  f47 := Try.func148.trans (congrArg some (by kernel_rfl))
  f48 := Try.func149.trans (congrArg some (by kernel_rfl))
  f49 := ⟨Try.f150.name, of_decide_eq_true (by kernel_rfl), Try.func150.trans (congrArg some (by kernel_rfl))⟩
  f50 := ⟨Try.f151.name, of_decide_eq_true (by kernel_rfl), Try.func151.trans (congrArg some (by kernel_rfl))⟩
  f57 := ⟨Try.f161.name, of_decide_eq_true (by kernel_rfl), Try.func161.trans (congrArg some (by kernel_rfl))⟩
  t0 := Try.underlying0
  a0 := Try.isAgg0
  z0 := Try.sizeOf0
  v0 := Try.zeroValue0
  t3 := Try.underlying3
  a3 := Try.isAgg3
  z3 := Try.sizeOf3
  v3 := Try.zeroValue3
  t4 := Try.underlying4
  a4 := Try.isAgg4
  z4 := Try.sizeOf4
  v4 := Try.zeroValue4
  t5 := Try.underlying5
  a5 := Try.isAgg5
  z5 := Try.sizeOf5
  v5 := Try.zeroValue5
  t9 := Try.underlying9
  a9 := Try.isAgg9
  z9 := Try.sizeOf9
  v9 := Try.zeroValue9
  t22 := Try.underlying24
  a22 := Try.isAgg24
  z22 := Try.sizeOf24
  v22 := Try.zeroValue24
  t25 := Try.underlying126
  a25 := Try.isAgg126
  z25 := Try.sizeOf126
  v25 := Try.zeroValue126
  t39 := Try.underlying135
  a39 := Try.isAgg135
  z39 := Try.sizeOf135
  v39 := Try.zeroValue135
  t45 := Try.underlying138
  a45 := Try.isAgg138
  z45 := Try.sizeOf138
  v45 := Try.zeroValue138
  t46 := Try.underlying139
  a46 := Try.isAgg139
  z46 := Try.sizeOf139
  v46 := Try.zeroValue139
  t50 := Try.underlying103
  a50 := Try.isAgg103
  z50 := Try.sizeOf103
  v50 := Try.zeroValue103
  t53 := Try.underlying145
  a53 := Try.isAgg145
  z53 := Try.sizeOf145
  v53 := Try.zeroValue145
  t55 := Try.underlying147
  a55 := Try.isAgg147
  z55 := Try.sizeOf147
  v55 := Try.zeroValue147
  t66 := Try.underlying150
  a66 := Try.isAgg150
  z66 := Try.sizeOf150
  v66 := Try.zeroValue150
  t70 := Try.underlying154
  a70 := Try.isAgg154
  z70 := Try.sizeOf154
  v70 := Try.zeroValue154
  t76 := Try.underlying162
  a76 := Try.isAgg162
  z76 := Try.sizeOf162
  v76 := Try.zeroValue162
  t77 := Try.underlying163
  a77 := Try.isAgg163
  z77 := Try.sizeOf163
  v77 := Try.zeroValue163
def encC (x : Cl) : List Value := [.int .i64 x.1, .int .i64 x.2]
def cmpC (x y : Cl) : Int := Lib.compareInt x.1 y.1
theorem isnan_calls (x : Int) (w : World) : Calls Try.prog 131 #[.int .i64 x] w fun e w' => e = .returned (.bool false) ∧ w' = w := by
  have h : (x != x) = false := by simp
  go_enter Try.func131, Try.ntmps131
  go_wp2
  go_ret
  exact ⟨rfl, rfl⟩
theorem compare_calls (x y : Int) (w : World) : Calls Try.prog 122 #[.int .i64 x, .int .i64 y] w fun e w' => e = .returned (.int .i64 (Lib.compareInt x y)) ∧ w' = w := by
  by_cases h1 : x < y
  · have HE := Lib.hid (show Lib.compareInt x y = -1 by unfold Lib.compareInt; rw [if_pos h1])
    have f1 : decide (x < y) = true := decide_eq_true h1
    clear h1
    go_enter Try.func122, Try.ntmps122
    go_wp2_with (go_at_call 131; refine (isnan_calls _ _).mono ?_; rintro e w2 ⟨rfl, hw2⟩; rw [hw2]; clear hw2 w2)
    go_ret
    exact ⟨by rw [HE.out]; rfl, rfl⟩
  · by_cases h2 : y < x
    · have HE := Lib.hid (show Lib.compareInt x y = 1 by unfold Lib.compareInt; rw [if_neg h1, if_pos h2])
      have f1 : decide (x < y) = false := decide_eq_false h1
      have f2 : decide (y < x) = true := decide_eq_true h2
      clear h1 h2
      go_enter Try.func122, Try.ntmps122
      go_wp2_with (go_at_call 131; refine (isnan_calls _ _).mono ?_; rintro e w2 ⟨rfl, hw2⟩; rw [hw2]; clear hw2 w2)
      go_ret
      exact ⟨by rw [HE.out]; rfl, rfl⟩
    · have HE := Lib.hid (show Lib.compareInt x y = 0 by unfold Lib.compareInt; rw [if_neg h1, if_neg h2])
      have f1 : decide (x < y) = false := decide_eq_false h1
      have f2 : decide (y < x) = false := decide_eq_false h2
      clear h1 h2
      go_enter Try.func122, Try.ntmps122
      go_wp2_with (go_at_call 131; refine (isnan_calls _ _).mono ?_; rintro e w2 ⟨rfl, hw2⟩; rw [hw2]; clear hw2 w2)
      go_ret
      exact ⟨by rw [HE.out]; rfl, rfl⟩
set_option maxHeartbeats 1000000 in
theorem closure_calls (x y : Cl) (W : World) : Calls Try.prog 121 #[.agg #[.int .i64 x.1, .int .i64 x.2], .agg #[.int .i64 y.1, .int .i64 y.2]] W fun e w' => e = .returned (.int .i64 (cmpC x y)) ∧ ∃ q os', w' = grow (W.drewN q) os' := by
  have hcon := fun W' => compare_calls x.1 y.1 W'
  have HC := Lib.hid hcon
  unfold cmpC
  obtain ⟨r, hr⟩ : ∃ r, Lib.compareInt x.1 y.1 = r := ⟨_, rfl⟩
  rw [hr] at HC ⊢
  clear hr hcon
  go_enter Try.func121, Try.ntmps121
  go_wp2_with (go_at_call 122; refine (HC.out _).mono ?_; rintro e w' ⟨rfl, hw'⟩; rw [hw']; clear hw' w')
  go_ret
  exact ⟨rfl, 0, _, by rw [alloc_eq_grow, alloc_eq_grow, grow_grow]; rfl⟩
theorem ltC (x y : Cl) : ltOf cmpC x y = decide (x.1 < y.1) := by
  unfold ltOf cmpC Lib.compareInt
  by_cases h1 : x.1 < y.1
  · simp [h1]
  · by_cases h2 : y.1 < x.1 <;> simp [h1, h2]
theorem swoC : SWO (ltOf cmpC) where
  irrefl x := by rw [ltC]; simp
  trans x y z h1 h2 := by rw [ltC] at *; simp at *; omega
  ntrans x y z h1 h2 := by rw [ltC] at *; simp at *; omega
theorem clCells_enc {l : List Cl} {t : Nat} (ht : t < l.length * 2) : (clCells l)[t]? = some ((encC l.toArray[t / 2]!)[t % 2]!) := by
  have hi : t / 2 < l.length := by omega
  have hx : l[t / 2]? = some l[t / 2] := List.getElem?_eq_getElem hi
  have he : l.toArray[t / 2]! = l[t / 2] := by rw [getElem!_pos l.toArray (t / 2) (by simpa using hi)]; simp
  obtain ⟨e0, e1⟩ := clCells_at hx
  rw [he]
  rcases (show t % 2 = 0 ∨ t % 2 = 1 by omega) with h | h
  · rw [show t / 2 * 2 = t by omega] at e0
    rw [e0, h]; rfl
  · rw [show t / 2 * 2 + 1 = t by omega] at e1
    rw [e1, h]; rfl
/-- A row of one's own, as the library's sort wants it. -/
theorem row_holds {w : World} {B g n cap : Nat} {l : List Cl} (h : w.ownsRow B 71 2 (.slice (some ⟨g, 0, none⟩) n cap) n (clCells l)) (_hn : l.length = n) : HoldsK encC 2 w g 0 l.toArray ∧ g < w.heap.size := by
  have hc := @World.ownsRow.cells w B 71 2 (.slice (some ⟨g, 0, none⟩) n cap) n _ h
  rcases h.2 with ⟨hv, _⟩ | ⟨g', cap', cur, e1, hb, hg, hnc, hcm, hcs, htk⟩
  · cases hv
  · injection e1 with e1 _ _
    injection e1 with e1
    injection e1 with e1 _ _
    subst e1
    refine ⟨fun j hj => ?_, (Array.getElem?_eq_some_iff.1 hg).1⟩
    have hj' : j < l.length * 2 := by rw [size_flatK] at hj; simpa using hj
    rw [get_flatK encC 2 l.toArray j (by simpa using hj')]
    have h1 := hc (g := g) rfl j _ (clCells_enc hj')
    rw [add_at] at h1
    rw [Nat.zero_add]
    refine ⟨h1, ?_⟩
    unfold World.frozen?
    simp [hg]
theorem grow_block {w : World} {os : Array Obj} {k : Nat} (h : k < w.heap.size) : (grow w os).heap[k]? = w.heap[k]? := by
  unfold grow
  rw [Array.getElem?_append_left h]
/-- What the sort leaves. -/
theorem row_sorted {w : World} {B g n cap m : Nat} {l : List Cl} {d' : Array Cl} {os : Array Obj} (h : w.ownsRow B 71 2 (.slice (some ⟨g, 0, none⟩) n cap) n (clCells l)) (_hn : l.length = n) (hd : d'.size = n) :
    (sortWorldK encC 2 w g 0 m d' os).ownsRow B 71 2 (.slice (some ⟨g, 0, none⟩) n cap) n (clCells d'.toList) ∧ w.grownBy (sortWorldK encC 2 w g 0 m d' os) (some g) := by
  rcases h.2 with ⟨hv, _⟩ | ⟨g', cap', cur, e1, hb, hg, hnc, hcm, hcs, htk⟩
  · cases hv
  · injection e1 with e1 _ e3
    injection e1 with e1
    injection e1 with e1 _ _
    subst e1 e3
    have hlt := (Array.getElem?_eq_some_iff.1 hg).1
    have hs : (putRowK encC 2 (Sort.ahead w m) g 0 d').heap.size = w.heap.size := by unfold putRowK; rw [size_putRow]; rfl
    have hblk : (sortWorldK encC 2 w g 0 m d' os).heap[g]? = some (.cells (putCells id 0 (flatK encC 2 d') cur) 71 (0, 0)) := by
      unfold sortWorldK
      rw [grow_block (by rw [hs]; exact hlt)]
      unfold putRowK putRow mapBlock
      show ((Sort.ahead w m).heap.modify g _)[g]? = _
      rw [Array.getElem?_modify, if_pos rfl, heap_ahead, hg]
      rfl
    refine ⟨⟨by rw [clCells_len, Array.length_toList, hd], .inr ⟨g, cap, putCells id 0 (flatK encC 2 d') cur, rfl, hb, hblk, hnc, hcm, by unfold putCells; rw [Array.size_mapIdx]; exact hcs, ?_⟩⟩, ⟨rfl, rfl, rfl, ?_, fun k hk hne => ?_⟩⟩
    · refine List.ext_getElem? fun t => ?_
      by_cases ht : t < n * 2
      · have htc : t < cur.size := by rw [hcs]; have := Nat.mul_le_mul_right 2 hnc; omega
        have hft : t < (flatK encC 2 d').size := by rw [size_flatK, hd]; exact ht
        rw [List.getElem?_take_of_lt ht, clCells_enc (by rw [Array.length_toList, hd]; exact ht), Array.getElem?_toList]
        unfold putCells
        rw [Array.getElem?_mapIdx, Array.getElem?_eq_getElem htc]
        simp only [Option.map_some, Nat.zero_le, Nat.zero_add, hft, and_self, if_true, Nat.sub_zero, id]
        rw [get_flatK encC 2 d' t (by rw [hd]; exact ht)]
      · rw [List.getElem?_eq_none (by rw [List.length_take]; omega), List.getElem?_eq_none (by rw [clCells_len, Array.length_toList, hd]; omega)]
    · unfold sortWorldK grow
      rw [Array.size_append, hs]
      omega
    · unfold sortWorldK
      rw [grow_block (by rw [hs]; exact hk)]
      unfold putRowK putRow mapBlock
      show ((Sort.ahead w m).heap.modify g _)[k]? = _
      rw [Array.getElem?_modify, if_neg (fun e => hne (by rw [e]))]
      rfl
end Go.Proofs.Ythdhmflodiincaa

namespace Go.Proofs.Ythdhmflodiincaa
set_option maxRecDepth 100000
open Go.RowKit Go.Shelf Go.Lib Go.Sort

theorem sortf_none (w : World) : Calls Try.prog 120 #[.slice none 0 0, .func (.func 121) #[] #[]] w fun e w' => e = .returned (.tuple #[]) ∧ w' = w :=
  AnyF.slices_SortFunc_none Try.sortC none 0 (.func (.func 121) #[] #[]) w
theorem sortf_some (g cap : Nat) (l : List Cl) (w : World) (h : HoldsK encC 2 w g 0 l.toArray) (hg : g < w.heap.size) (hl : l.length < 4611686018427387904) :
    Calls Try.prog 120 #[.slice (some ⟨g, 0, none⟩) l.length cap, .func (.func 121) #[] #[]] w fun e w' => e = .returned (.tuple #[]) ∧ ∃ d' n os, PermIn 0 l.length l.toArray d' ∧ SortedIn (ltOf cmpC) 0 l.length d' ∧ w' = sortWorldK encC 2 w g 0 n d' os := by
  have eg : ∀ args w, (callFunc 121 args).run Try.prog w = .ok (.enter 121 args) w := enters_of Try.func121 (by kernel_rfl) rfl
  have h1 := AnyQ.slices_SortFunc Try.sortC 2 Try.isAgg71 Try.sizeOf71 encC (fun _ => rfl) (fun x v hv => by simp [encC] at hv; rcases hv with rfl | rfl <;> rfl) cmpC swoC 121 #[] g 0 cap l.toArray w eg (fun _ _ _ _ x y => closure_calls x y _) h hg (by simpa using hl)
  have e : l.toArray.size = l.length := by simp
  rw [e] at h1
  exact h1
def SortedCl (l : List Cl) : Prop := l.Pairwise (fun x y => x.1 ≤ y.1)
set_option maxHeartbeats 1000000 in
theorem msort_calls (B : Nat) (l : List Cl) (a : Option Addr) (n c : Nat) (w : World) (hown : w.ownsRow B 71 2 (.slice a n c) n (clCells l)) (hn : l.length = n) (hl : n ≤ 1000) :
    Calls Try.prog 93 #[.slice a n c] w fun e w' => e = .returned (.tuple #[]) ∧ ∃ l' : List Cl, l'.Perm l ∧ SortedCl l' ∧ w'.ownsRow B 71 2 (.slice a n c) n (clCells l') ∧ w.grownBy w' (Value.slice a n c).ownBlock := by
  have hs := hown.2
  rcases hs with ⟨hv, h0⟩ | ⟨g, cap, cur, e1, _⟩
  · injection hv with e1 e2 e3
    subst e1 e2 e3
    have hl0 : l = [] := List.eq_nil_of_length_eq_zero hn
    subst hl0
    have HO := Lib.hid hown
    clear hown
    go_enter Try.func93, Try.ntmps93
    go_wp2_with (go_at_call 120; refine (sortf_none _).mono ?_; rintro e w' ⟨rfl, hw'⟩; rw [hw']; clear hw' w')
    go_end0
    exact ⟨rfl, [], List.Perm.refl _, List.Pairwise.nil, HO.out, grown_refl _ _⟩
  · injection e1 with e1 _ e3
    subst e1 e3
    obtain ⟨hh, hg⟩ := row_holds hown hn
    have HC := Lib.hid (sortf_some g c l w hh hg (by omega))
    rw [hn] at HC
    have HO := Lib.hid hown
    have HN := Lib.hid hn
    clear hown hh hg hn
    go_enter Try.func93, Try.ntmps93
    go_wp2_with fail
    refine HC.out.mono ?_
    rintro e w' ⟨rfl, d', m, os, hp, hsrt, rfl⟩
    have hd : d'.size = n := by rw [hp.1, ← HN.out]; simp
    obtain ⟨h1, h2⟩ := row_sorted (m := m) (os := os) HO.out HN.out hd
    have HR := Lib.hid (And.intro h1 h2)
    have HP := Lib.hid (show d'.toList.Perm l from by
      have h3 := hp.2.2
      have e1 : d'.extract 0 n = d' := by rw [← hd]; exact Array.extract_size
      have e2 : (l.toArray).extract 0 n = l.toArray := by have : l.toArray.size = n := by rw [← HN.out]; simp
                                                          rw [← this]; exact Array.extract_size
      rw [e1, e2] at h3
      exact h3)
    have HS := Lib.hid (show SortedCl d'.toList from by
      unfold SortedCl
      rw [List.pairwise_iff_getElem]
      intro i j hi hj hij
      have hj' : j < n := by rw [← hd]; simpa using hj
      have h3 := hsrt i j (Nat.zero_le _) hij hj'
      rw [ltC] at h3
      have h4 := of_decide_eq_false h3
      rw [getElem!_pos d' i (by omega), getElem!_pos d' j (by omega)] at h4
      simp only [Array.getElem_toList]
      omega)
    clear hp hsrt h1 h2
    go_wp2_with fail
    go_end0
    exact ⟨rfl, d'.toList, HP.out, HS.out, HR.out.1, HR.out.2⟩
/-- Sorted cells of different ranks. -/
theorem sorted_up {l : List Cl} (h : SortedCl l) (hd : (l.map (·.1)).Nodup) : UpM l := by
  unfold UpM
  rw [List.pairwise_map]
  have h2 : l.Pairwise (fun x y => x.1 ≠ y.1) := by
    have := hd
    unfold List.Nodup at this
    rw [List.pairwise_map] at this
    exact this
  exact (h.and h2).imp fun hh => by omega
end Go.Proofs.Ythdhmflodiincaa

namespace Go.Proofs.Ythdhmflodiincaa
set_option maxRecDepth 100000
open Go.RowKit Go.Maps

structure JFix (W1 : World) (p bm r tb : Nat) (M : Nat → Prop) : Prop where
  pr : p ≤ r
  rB : r < W1.heap.size
  nr : ¬ M r
  nt : ¬ M tb
  tr : tb ≠ r
  tbm : tb ≠ bm
  bB : bm < W1.heap.size
  tB : tb < W1.heap.size
  mB : ∀ k, M k → k < W1.heap.size
  pB : p < W1.heap.size
/-- Between two rounds of the range over the table: the cells are those of the keys that have come. -/
structure JR (W1 : World) (p bm r m tb : Nat) (M : Nat → Prop) (g : List Gt) (T : Int → Bool) (t : Int → Int) (D : DataW Unit) (ar : Int) (left : Lit → Bool) (cnt : Nat) (l : List Cl) (a : Option Addr) (n c : Nat) (W : World) : Prop where
  fix : JFix W1 p bm r tb M
  rg : W.ranges Try.prog 3 (plainElem Try.prog 3) bm r m D left cnt
  gx : ∃ hi, GX p M W g hi
  off : Off (fun k => k = tb ∨ k = r) W1 W
  ty : Ty26 W tb
  c0 : Rc W tb 0 (.int .i64 ar)
  c1 : Rc W tb 1 (.slice a n c)
  row : W.ownsRow W1.heap.size 71 2 (.slice a n c) n (clCells l)
  len : l.length = n
  mem : ∀ k x, (k, x) ∈ l ↔ T k = true ∧ left (.int .i64 k) = false ∧ x = t k ∧ x ≠ 1
  nd : (l.map (·.1)).Nodup
  cnt : l.length + cnt ≤ m
  ask : ∀ k, wfK k → left (.int .i64 k) = true → T k = true
theorem left_strike (left : Lit → Bool) (x k : Int) : ((left (.int .i64 k) && !(Lit.int .i64 k).sameKey (.int .i64 x)) = false) ↔ (left (.int .i64 k) = false ∨ k = x) := by
  have e : (Lit.int .i64 k).sameKey (.int .i64 x) = (k == x) := by rw [Bool.eq_iff_iff]; simp [Lit.sameKey]
  rw [e]
  by_cases hk : k = x
  · subst hk; simp
  · have : (k == x) = false := by simpa using hk
    rw [this]
    simp [hk]
/-- One entry has come, and its cell is kept. -/
theorem JR.next {W1 W w1 w2 : World} {p bm r m tb : Nat} {M : Nat → Prop} {g : List Gt} {T : Int → Bool} {t : Int → Int} {D : DataW Unit} {ar : Int} {left : Lit → Bool} {cnt cnt1 : Nat} {l : List Cl} {a a' : Option Addr} {n n' c c' : Nat} {x : Int}
    (h : JR W1 p bm r m tb M g T t D ar left cnt l a n c W) (hx : left (.int .i64 x) = true) (hT : T x = true) (hrg : w1.ranges Try.prog 3 (plainElem Try.prog 3) bm r m D (fun z => left z && !z.sameKey (.int .i64 x)) cnt1) (hlt : cnt1 < cnt) (hg1 : W.grownBy w1 (some r))
    (hown : w2.ownsRow W1.heap.size 71 2 (.slice a' n' c') n' (clCells (keptM l x (t x)))) (hn : (keptM l x (t x)).length = n') (hg2 : w1.grownBy w2 (Value.slice a n c).ownBlock) :
    JR W1 p bm r m tb M g T t D ar (fun z => left z && !z.sameKey (.int .i64 x)) cnt1 (keptM l x (t x)) a' n' c' (w2.setCell ⟨tb, 1, none⟩ (.slice a' n' c')) := by
  obtain ⟨f1, f2, f3, f4, f5, f6, f7, f8, f9, f10⟩ := h.fix
  obtain ⟨hi, hgx⟩ := h.gx
  have hrow : ∀ b, (Value.slice a n c).ownBlock = some b → W1.heap.size ≤ b := fun b e => (h.row.lt b e).1
  have hgs := grown_set w2 tb 1 (.slice a' n' c')
  have o1 : Off (fun k => k = tb ∨ k = r) W w1 := Off.of hg1 (fun k e => by cases e; exact .inr rfl)
  have k1 : some tb ≠ some r := fun e => by injection e with e; exact f5 e
  have hn2 : ∀ b, b < W1.heap.size → some b ≠ (Value.slice a n c).ownBlock := fun b hb e => by have := hrow b e.symm; omega
  have g1 := hgx.far hg1 (fun k e => by cases e; exact ⟨f1, f3⟩)
  have g2 := g1.far hg2 (fun k e => ⟨by have := hrow k e; omega, fun hm => by have h1 := f9 k hm; have h2 := hrow k e; omega⟩)
  have t1 := h.ty.grown hg1 k1
  have t2 := t1.grown hg2 (hn2 tb f8)
  have r0 : Rc w2 tb 0 (.int .i64 ar) := by
    have h1 : tb < W.heap.size := lies_lt h.c0.1
    have h2 : tb < w1.heap.size := Nat.lt_of_lt_of_le h1 hg1.size
    exact ⟨hg2.cell (hg1.cell h.c0.1 k1) (hn2 tb f8), ((World.frozen?_of_block (a := ⟨tb, 0, none⟩) (hg2.block tb h2 (hn2 tb f8))).trans (World.frozen?_of_block (a := ⟨tb, 0, none⟩) (hg1.block tb h1 k1))).trans h.c0.2⟩
  have r1 : Rc w2 tb 1 (.slice a n c) := by
    have h1 : tb < W.heap.size := lies_lt h.c0.1
    have h2 : tb < w1.heap.size := Nat.lt_of_lt_of_le h1 hg1.size
    exact ⟨hg2.cell (hg1.cell h.c1.1 k1) (hn2 tb f8), ((World.frozen?_of_block (a := ⟨tb, 1, none⟩) (hg2.block tb h2 (hn2 tb f8))).trans (World.frozen?_of_block (a := ⟨tb, 1, none⟩) (hg1.block tb h1 k1))).trans h.c1.2⟩
  have hr2 := hrg.kept hg2 (hn2 bm f7) (hn2 r f2)
  have hr3 := hr2.kept hgs (fun e => by injection e with e; exact f6 e.symm) (fun e => by injection e with e; exact f5 e.symm)
  have hro : (w2.setCell ⟨tb, 1, none⟩ (.slice a' n' c')).ownsRow W1.heap.size 71 2 (.slice a' n' c') n' (clCells (keptM l x (t x))) := hown.kept hgs (by
    cases hob : (Value.slice a' n' c').ownBlock with
    | none => exact .inl rfl
    | some b => exact .inr (fun e => by injection e with e; subst e; have := (hown.lt b hob).1; omega))
  have hxl : ∀ y, (x, y) ∉ l := fun y hy => by
    have := ((h.mem x y).1 hy).2.1
    rw [hx] at this
    cases this
  refine ⟨h.fix, hr3, ⟨hi, g2.setTy f4 t2⟩, ?_, t2.set 1 _, r0.other (by decide) _, r1.set _, hro, hn, fun k y => ?_, ?_, ?_, fun k hw hk => ?_⟩
  · refine (h.off.trans o1 (fun _ _ e => e)).trans (Off.of hg2 (M := fun k => W1.heap.size ≤ k) hrow) ?_ |>.trans (off_set w2 tb 1 _) ?_
    · exact fun k hk e => by omega
    · exact fun k hk e => .inl e
  · rw [left_strike]
    unfold keptM
    by_cases h1 : t x = 1
    · rw [if_pos h1, h.mem]
      constructor
      · rintro ⟨e1, e2, e3⟩
        exact ⟨e1, .inl e2, e3⟩
      · rintro ⟨e1, e2 | e2, e3, e4⟩
        · exact ⟨e1, e2, e3, e4⟩
        · subst e2; rw [h1] at e3; exact absurd e3 e4
    · rw [if_neg h1, List.mem_append, h.mem, List.mem_singleton]
      constructor
      · rintro (⟨e1, e2, e3⟩ | e)
        · exact ⟨e1, .inl e2, e3⟩
        · injection e with e1 e2
          subst e1 e2
          exact ⟨hT, .inr rfl, rfl, h1⟩
      · rintro ⟨e1, e2 | e2, e3, e4⟩
        · exact .inl ⟨e1, e2, e3, e4⟩
        · subst e2; exact .inr (by rw [e3])
  · unfold keptM
    by_cases h1 : t x = 1
    · rw [if_pos h1]; exact h.nd
    · rw [if_neg h1, List.map_append, List.nodup_append]
      refine ⟨h.nd, by simp, fun k hk y hy => ?_⟩
      rintro rfl
      simp at hy
      subst hy
      obtain ⟨⟨k', y'⟩, hm, e⟩ := List.mem_map.1 hk
      have e' : k' = k := e
      subst e'
      exact hxl y' hm
  · have h1 : (keptM l x (t x)).length ≤ l.length + 1 := by
      unfold keptM
      split
      · omega
      · simp
    have h2 := h.cnt
    omega
  · rw [Bool.and_eq_true] at hk
    exact h.ask k hw hk.1
theorem JR.row1 {W1 W w1 : World} {p bm r m tb : Nat} {M : Nat → Prop} {g : List Gt} {T : Int → Bool} {t : Int → Int} {D : DataW Unit} {ar : Int} {left : Lit → Bool} {cnt : Nat} {l : List Cl} {a : Option Addr} {n c : Nat}
    (h : JR W1 p bm r m tb M g T t D ar left cnt l a n c W) (hg1 : W.grownBy w1 (some r)) : w1.ownsRow W1.heap.size 71 2 (.slice a n c) n (clCells l) ∧ w1.cell? ⟨tb, 1, none⟩ = some (.slice a n c) ∧ n ≤ m ∧ W1.heap.size ≤ w1.heap.size := by
  refine ⟨h.row.kept hg1 ?_, hg1.cell h.c1.1 (fun e => by injection e with e; exact h.fix.tr e), by have := h.cnt; have := h.len; omega, Nat.le_trans h.off.size hg1.size⟩
  cases hob : (Value.slice a n c).ownBlock with
  | none => exact .inl rfl
  | some b => exact .inr (fun e => by injection e with e; subst e; have h1 := (h.row.lt b hob).1; have h2 := h.fix.rB; omega)
theorem JR.row2 {W1 W w1 w2 : World} {p bm r m tb : Nat} {M : Nat → Prop} {g : List Gt} {T : Int → Bool} {t : Int → Int} {D : DataW Unit} {ar : Int} {left : Lit → Bool} {cnt : Nat} {l : List Cl} {a : Option Addr} {n c : Nat}
    (h : JR W1 p bm r m tb M g T t D ar left cnt l a n c W) (hg1 : W.grownBy w1 (some r)) (hg2 : w1.grownBy w2 (Value.slice a n c).ownBlock) : Rc w2 tb 1 (.slice a n c) := by
  have k1 : some tb ≠ some r := fun e => by injection e with e; exact h.fix.tr e
  have k2 : some tb ≠ (Value.slice a n c).ownBlock := fun e => by have h1 := (h.row.lt tb e.symm).1; have h2 := h.fix.tB; omega
  have h1 : tb < W.heap.size := lies_lt h.c0.1
  have h2 : tb < w1.heap.size := Nat.lt_of_lt_of_le h1 hg1.size
  exact ⟨hg2.cell (hg1.cell h.c1.1 k1) k2, ((World.frozen?_of_block (a := ⟨tb, 1, none⟩) (hg2.block tb h2 k2)).trans (World.frozen?_of_block (a := ⟨tb, 1, none⟩) (hg1.block tb h1 k1))).trans h.c1.2⟩
end Go.Proofs.Ythdhmflodiincaa

namespace Go.Proofs.Ythdhmflodiincaa
set_option maxRecDepth 100000

def hC : List Gt := [(0, 0, 0), (1, 1, 0)]
def hA : List Cl := [(0, 0), (2, 0)]
def hB : List Cl := [(0, 2), (1, 3)]
theorem h_union : (munionP hA hB).run hC = (hC, [(0, 0), (1, 3), (2, 0)]) := by decide +kernel
theorem h_inter : (minterP hA hB).run hC = (hC, [(0, 2)]) := by decide +kernel
theorem h_loneB : (loneP (hB.map (·.2))).run hC = (hC, 0) := by decide +kernel
theorem h_loneA : (loneP (hA.map (·.2))).run hC = (hC, 1) := by decide +kernel
theorem h_join : (mjoinP 2 2 4 [(1, 0)] [(2, 0)]).run hC = (hC, [(0, 0)]) := by decide +kernel
theorem h_in : (inP [(0, 2)] hA).run hC = (hC, 0) := by decide +kernel
theorem h_some : (foldP orF (hB.map (·.2)) 1).run hC = (hC, 0) := by decide +kernel
theorem h_value : valE hC [false] [(0, 0), (1, 3), (2, 0)] = [0, 1, 2] := by decide +kernel
theorem h_valid : validM 2 1 hB = true := by decide +kernel
theorem h_valid0 : validM 1 1 hB = false := by decide +kernel
theorem h_input : inputC [(0, 0, 0)] 1 = (hC, 2) := by decide +kernel
theorem h_matA : Mat hC hA := by
  refine ⟨by unfold UpM hA; decide, fun c hc => ?_⟩
  simp [hA] at hc
  rcases hc with rfl | rfl <;> exact ⟨by unfold Ok hC; decide, by decide⟩
theorem h_matB : Mat hC hB := by
  refine ⟨by unfold UpM hB; decide, fun c hc => ?_⟩
  simp [hB] at hc
  rcases hc with rfl | rfl <;> exact ⟨by unfold Ok hC; decide, by decide⟩
theorem h_matI : Mat hC [(0, 2)] := by
  refine ⟨by unfold UpM; decide, fun c hc => ?_⟩
  simp at hc
  subst hc
  exact ⟨by unfold Ok hC; decide, by decide⟩
theorem h_matJ (k : Int) : Mat hC [(k, 0)] := by
  refine ⟨by unfold UpM; simp, fun c hc => ?_⟩
  simp at hc
  subst hc
  exact ⟨(show 0 ≤ (0 : Int) ∧ (0 : Int) < 2 * ((hC.length : Nat) : Int) from by unfold hC; decide), (show (0 : Int) ≠ 1 from by decide)⟩
theorem h_good : Good hC := by
  have h := (step_input good_new 1).good
  rw [h_input] at h
  exact h
end Go.Proofs.Ythdhmflodiincaa

/- Texts of the proof: SF IX. -/
import Derived.Test.YtihaheinkpmnnaaGreatCA17
import Derived.Test.YtihaheinkpmnnaaGreatCA19
import Derived.Shelf.SlSortCmp.NoneTotal
import Derived.Shelf.SlCmpFuncs.BinarySearchFunc
import Derived.Test.YtihaheinkpmnnaaGreatCA11
import Derived.Test.YtihaheinkpmnnaaGreatCA01
namespace Go.Proofs.YtihaheinkpmnnaaGreat
set_option maxRecDepth 200000
open Go.RowKit Go.Shelf Go.Sort
/-- A clause that lies in a row of its own: where, how much room, what. -/
abbrev Nr := Option Addr × Nat × List Int
def encP (p : Nr) : Value := .slice p.1 p.2.2.length p.2.1
def OwnP (w : World) (p : Nr) : Prop := w.ownsRow 0 3 1 (encP p) p.2.2.length (intCells p.2.2) ∧ p.2.2.length ≤ 100000
theorem OwnP.ints {w : World} {p : Nr} (h : OwnP w p) : IntsW w p.1 p.2.1 p.2.2 := (own_ints h.1).2
theorem OwnP.grown {w w' : World} {p : Nr} (h : OwnP w p) (hg : w.grownBy w' none) : OwnP w' p := ⟨h.1.kept hg (by cases h : (encP p).ownBlock <;> simp), h.2⟩
theorem OwnP.ne {w : World} {p : Nr} (h : OwnP w p) {g : Nat} {cur : Array Value} {fr : Nat × Nat} (hb : w.heap[g]? = some (.cells cur 34 fr)) : (encP p).ownBlock = none ∨ (encP p).ownBlock ≠ some g := by
  rcases h.1.2 with ⟨e, _⟩ | ⟨g', cap, cu, e, _, hg, _⟩
  · rw [e]; exact .inl rfl
  · rw [e]; refine .inr (fun h => ?_)
    cases h
    rw [hg] at hb; cases hb
theorem OwnP.put {w w' : World} {p : Nr} (h : OwnP w p) {g : Nat} {cur : Array Value} {fr : Nat × Nat} (hb : w.heap[g]? = some (.cells cur 34 fr)) (hg : w.grownBy w' (some g)) : OwnP w' p := ⟨h.1.kept hg (h.ne hb), h.2⟩
def AllP (w : World) : Type := {p : Nr // OwnP w p}
instance (w : World) : Inhabited (AllP w) := ⟨⟨(none, 0, []), World.ownsRow_nil w 0 3 1, by decide⟩⟩
def encA {w : World} (x : AllP w) : Value := encP x.1
def cmpA {w : World} (x y : AllP w) : Int := cmpL x.1.2.2 y.1.2.2
theorem swoA (w : World) : SWO (ltOf (cmpA (w := w))) := by
  refine ⟨fun x => ?_, fun x y z h h' => ?_, fun x y z h h' => ?_⟩
  · unfold ltOf cmpA; rw [(cmpL_zero _ _).2 rfl]; rfl
  · unfold ltOf cmpA at *
    exact decide_eq_true (cmpL_trans _ _ _ (of_decide_eq_true h) (of_decide_eq_true h'))
  · unfold ltOf cmpA at *
    have h := of_decide_eq_false h
    have h' := of_decide_eq_false h'
    refine decide_eq_false fun h3 => ?_
    rcases Int.lt_trichotomy (cmpL x.1.2.2 y.1.2.2) 0 with h4 | h4 | h4
    · exact h h4
    · rw [(cmpL_zero _ _).1 h4] at h3; exact h' h3
    · have h5 : cmpL y.1.2.2 x.1.2.2 < 0 := by rw [cmpL_swap]; omega
      exact h' (cmpL_trans _ _ _ h5 h3)
theorem grown_sw {α : Type} [Inhabited α] {enc : α → Value} {w : World} {g m : Nat} {os : Array Obj} (d : Array α) : w.grownBy (sortWorld enc w g 0 m d os) (some g) := grown_put d
theorem cmpLaysA {w : World} {g : Nat} {cur : Array Value} {fr : Nat × Nat} (hb : w.heap[g]? = some (.cells cur 34 fr)) (k : Nat) : CmpLays1 Tryz.prog 38 #[] (encA (w := w)) cmpA g 0 k w := by
  intro m os dk _ x y
  have hx := (x.2.put hb (grown_sw (enc := encA (w := w)) (m := m) (os := os) dk))
  have hy := (y.2.put hb (grown_sw (enc := encA (w := w)) (m := m) (os := os) dk))
  refine (cmpI_calls _ _ _ _ _ _ _ hx.ints hy.ints x.2.2 y.2.2).mono ?_
  rintro e w' ⟨rfl, hw⟩
  exact ⟨rfl, 0, #[], by rw [hw, grow_nil]; rfl⟩
/-- A row of clauses in rows of their own. -/
def RowP (w : World) (B g cap n : Nat) (ps : List Nr) : Prop := w.ownsRow B 34 1 (.slice (some ⟨g, 0, none⟩) n cap) n (ps.map encP) ∧ ∀ p ∈ ps, OwnP w p
def toA {w : World} (ps : List Nr) (h : ∀ p ∈ ps, OwnP w p) : List (AllP w) := ps.pmap (fun p hp => ⟨p, hp⟩) h
theorem toA_val {w : World} : ∀ (ps : List Nr) (h : ∀ p ∈ ps, OwnP w p), (toA ps h).map (·.1) = ps
  | [], _ => rfl
  | p :: ps, h => by
    show p :: (toA ps _).map (·.1) = _
    rw [toA_val ps]
theorem toA_enc {w : World} (ps : List Nr) (h : ∀ p ∈ ps, OwnP w p) : (toA ps h).map encA = ps.map encP := by
  conv => rhs; rw [← toA_val ps h]
  rw [List.map_map]; rfl
theorem row_block {w : World} {B g cap n : Nat} {xs : List Value} (h : w.ownsRow B 34 1 (.slice (some ⟨g, 0, none⟩) n cap) n xs) : ∃ cur, w.heap[g]? = some (.cells cur 34 (0, 0)) := by
  rcases h.2 with ⟨h0, _⟩ | ⟨g', c', cur, e, _, hg, _⟩
  · cases h0
  · cases e; exact ⟨cur, hg⟩
/-- Sorted: none is less than one before it. -/
def SrtP (ps : List Nr) : Prop := ps.Pairwise fun p q => ¬ cmpL q.2.2 p.2.2 < 0
set_option maxHeartbeats 1000000 in
theorem sort37_calls (w : World) (B g cap n : Nat) (ps : List Nr) (h : RowP w B g cap n ps) (hn : n ≤ 100000) :
    Calls Tryz.prog 37 #[.slice (some ⟨g, 0, none⟩) n cap, .func (.func 38) #[] #[]] w fun e w' => e = .returned (.tuple #[]) ∧ ∃ ps' : List Nr, ps'.Perm ps ∧ SrtP ps' ∧ RowP w' B g cap n ps' ∧ w.grownBy w' (some g) := by
  obtain ⟨cur, hb⟩ := row_block h.1
  have hrow := h.1
  rw [← toA_enc ps h.2] at hrow
  obtain ⟨k1, k2, k3, k4, k5⟩ := own_holds hrow
  obtain ⟨d, hd⟩ : ∃ d, toA ps h.2 = d := ⟨_, rfl⟩
  rw [hd] at hrow k1 k3
  have eg : ∀ args w, (callFunc 38 args).run Tryz.prog w = .ok (.enter 38 args) w := enters_of Tryz.func38 (by kernel_rfl) rfl
  have hsz : d.toArray.size = n := by simp [k3]
  have := Any.slices_SortFunc Tryz.sortFA (encA (w := w)) (fun x => rfl) cmpA (swoA w) 38 #[] g 0 cap d.toArray w eg (cmpLaysA hb _) k1 k2 (by omega)
  rw [hsz] at this
  refine this.mono ?_
  rintro e w' ⟨rfl, d', m, os, hp, hs, rfl⟩
  have hd' : d'.size = n := by rw [hp.1, hsz]
  have hgr := grown_sw (enc := encA (w := w)) (w := w) (g := g) (m := m) (os := os) d'
  refine ⟨rfl, d'.toList.map (·.1), ?_, ?_, ⟨?_, ?_⟩, hgr⟩
  · have h3 := hp.2.2
    have e1 : d'.extract 0 n = d' := by rw [← hd']; exact Array.extract_size
    have e2 : d.toArray.extract 0 n = d.toArray := by rw [← hsz]; exact Array.extract_size
    rw [e1, e2] at h3
    have h4 := h3.map (·.1)
    have h5 := toA_val ps h.2
    rw [hd] at h5
    simpa [h5] using h4
  · unfold SrtP
    rw [List.pairwise_map, List.pairwise_iff_getElem]
    intro i j hi hj hij
    have hj' : j < n := by rw [← hd']; simpa using hj
    have h3 := hs i j (Nat.zero_le _) hij hj'
    have h4 := of_decide_eq_false h3
    rw [getElem!_pos d' i (by omega), getElem!_pos d' j (by omega)] at h4
    simpa [cmpA] using h4
  · have := own_put (q := m) (os := os) (m := n) (ts := d'.toList) hrow (by simp [hd']) (by simp [hd'])
    rw [List.take_of_length_le (by simp [hd'])] at this
    rw [List.map_map]
    exact this
  · intro p hp2
    obtain ⟨x, _, rfl⟩ := List.mem_map.1 hp2
    exact x.2.put hb hgr
theorem sort37_none (w : World) : Calls Tryz.prog 37 #[.slice none 0 0, .func (.func 38) #[] #[]] w fun e w' => e = .returned (.tuple #[]) ∧ w' = w :=
  AnyF.slices_SortFunc_none { Tryz.sortFA with } none 0 (.func (.func 38) #[] #[]) w
theorem cmp_le_trans {l m k : List Int} (h : ¬ cmpL m l < 0) (h' : ¬ cmpL k m < 0) : ¬ cmpL k l < 0 := by
  intro h3
  rcases Int.lt_trichotomy (cmpL k m) 0 with h4 | h4 | h4
  · exact h' h4
  · rw [(cmpL_zero _ _).1 h4] at h3; exact h h3
  · have h5 : cmpL m k < 0 := by rw [cmpL_swap]; omega
    exact h (cmpL_trans _ _ _ h5 h3)
/-- What BinarySearchFunc answers over a sorted row: whether the target is there. -/
theorem found_iff {ps : List Nr} (hs : SrtP ps) (T : List Int) {cnt : Nat} (hc : ps.countP (fun p => decide (cmpL p.2.2 T < 0)) = cnt) :
    (∃ p, ps[cnt]? = some p ∧ cmpL p.2.2 T = 0) ↔ ∃ p ∈ ps, p.2.2 = T := by
  constructor
  · rintro ⟨p, hp, h⟩
    exact ⟨p, List.mem_of_getElem? hp, (cmpL_zero _ _).1 h⟩
  · induction ps generalizing cnt with
    | nil => rintro ⟨p, hp, _⟩; cases hp
    | cons q ps ih =>
      rintro ⟨p, hp, h⟩
      obtain ⟨h1, h2⟩ := List.pairwise_cons.1 hs
      rw [List.countP_cons] at hc
      by_cases hq : cmpL q.2.2 T < 0
      · rw [if_pos (decide_eq_true hq)] at hc
        have hpm : p ∈ ps := by
          rcases List.mem_cons.1 hp with rfl | hp
          · rw [(cmpL_zero _ _).2 h] at hq; omega
          · exact hp
        obtain ⟨r, hr, hr0⟩ := ih h2 rfl ⟨p, hpm, h⟩
        exact ⟨r, by rw [← hc]; exact hr, hr0⟩
      · rw [if_neg (by rw [decide_eq_true_eq]; exact hq), Nat.add_zero] at hc
        have h0 : cnt = 0 := by
          rw [← hc, List.countP_eq_zero]
          intro r hr hlt
          have hlt := of_decide_eq_true hlt
          exact cmp_le_trans (l := T) (m := q.2.2) (k := r.2.2) hq (h1 r hr) hlt
        subst h0
        refine ⟨q, rfl, ?_⟩
        rcases List.mem_cons.1 hp with rfl | hpm
        · exact (cmpL_zero _ _).2 h
        · have h3 := h1 p hpm
          rw [h] at h3
          rw [cmpL_swap] at h3
          omega
set_option maxHeartbeats 1000000 in
theorem search40_calls (w : World) (B g cap n : Nat) (ps : List Nr) (h : RowP w B g cap n ps) (hn : n ≤ 100000) (hs : SrtP ps) (t : Nr) (ht : OwnP w t) :
    Calls Tryz.prog 40 #[.slice (some ⟨g, 0, none⟩) n cap, encP t, .func (.func 38) #[] #[]] w fun e w' => (∃ i : Int, e = .returned (.tuple #[.int .i64 i, .bool (decide (∃ p ∈ ps, p.2.2 = t.2.2))])) ∧ w.grownBy w' none := by
  obtain ⟨cur, hb⟩ := row_block h.1
  have hrow := h.1
  rw [← toA_enc ps h.2] at hrow
  obtain ⟨k1, k2, k3, k4, k5⟩ := own_holds hrow
  obtain ⟨d, hd⟩ : ∃ d, toA ps h.2 = d := ⟨_, rfl⟩
  rw [hd] at hrow k1 k3
  have hval : d.map (·.1) = ps := by rw [← hd]; exact toA_val ps h.2
  have eg : ∀ args w, (callFunc 38 args).run Tryz.prog w = .ok (.enter 38 args) w := enters_of Tryz.func38 (by kernel_rfl) rfl
  have hsz : d.toArray.size = n := by simp [k3]
  have hcmp : CmpLaysT Tryz.prog 38 #[] (encA (w := w)) (encP t) (fun x => cmpL x.1.2.2 t.2.2) g 0 d.toArray.size w := by
    intro m os dk _ x
    have hx := (x.2.put hb (grown_sw (enc := encA (w := w)) (m := m) (os := os) dk))
    have hy := (ht.put hb (grown_sw (enc := encA (w := w)) (m := m) (os := os) dk))
    refine (cmpI_calls _ _ _ _ _ _ _ hx.ints hy.ints x.2.2 ht.2).mono ?_
    rintro e w' ⟨rfl, hw⟩
    exact ⟨rfl, 0, #[], by rw [hw, grow_nil]; rfl⟩
  have hget : ∀ j (hj : j < d.length), ps[j]? = some (d.toArray[j]!).1 := fun j hj => by
    rw [← hval, List.getElem?_map, List.getElem?_eq_getElem hj, getElem!_pos d.toArray j (by simpa using hj)]
    simp
  have hmono : ∀ a b, a ≤ b → b < d.toArray.size → cmpL (d.toArray[b]!).1.2.2 t.2.2 < 0 → cmpL (d.toArray[a]!).1.2.2 t.2.2 < 0 := fun a b hab hb hlt => by
    rcases Nat.lt_or_ge a b with h1 | h1
    · have hbl : b < d.length := by simpa using hb
      have ga := hget a (by omega)
      have gb := hget b hbl
      obtain ⟨la, ea⟩ := List.getElem?_eq_some_iff.1 ga
      obtain ⟨lb, eb⟩ := List.getElem?_eq_some_iff.1 gb
      have := List.pairwise_iff_getElem.1 hs a b la lb h1
      rw [ea, eb] at this
      rcases Int.lt_trichotomy (cmpL (d.toArray[a]!).1.2.2 t.2.2) 0 with h4 | h4 | h4
      · exact h4
      · rw [(cmpL_zero _ _).1 h4] at this; exact absurd hlt this
      · have h5 : cmpL t.2.2 (d.toArray[a]!).1.2.2 < 0 := by rw [cmpL_swap]; omega
        exact absurd (cmpL_trans _ _ _ hlt h5) this
    · have : a = b := by omega
      subst this; exact hlt
  have := Any.slices_BinarySearchFunc Tryz.searchA (encA (w := w)) (fun x => rfl) (encP t) (fun x => cmpL x.1.2.2 t.2.2) 38 #[] g 0 cap d.toArray w eg hcmp k1 k2 (by omega) hmono
  rw [hsz] at this
  obtain ⟨cnt, hcnt⟩ : ∃ z, d.toArray.toList.countP (fun x => decide (cmpL x.1.2.2 t.2.2 < 0)) = z := ⟨_, rfl⟩
  rw [hcnt] at this
  have hc2 : ps.countP (fun p => decide (cmpL p.2.2 t.2.2 < 0)) = cnt := by
    rw [← hval, List.countP_map]; exact hcnt
  have hbool : (decide (cnt < n) && decide (cmpL (d.toArray[cnt]!).1.2.2 t.2.2 = 0)) = decide (∃ p ∈ ps, p.2.2 = t.2.2) := by
    rw [Bool.eq_iff_iff, Bool.and_eq_true, decide_eq_true_eq, decide_eq_true_eq, decide_eq_true_eq, ← found_iff hs t.2.2 hc2]
    constructor
    · rintro ⟨h1, h2⟩
      exact ⟨_, hget cnt (by omega), h2⟩
    · rintro ⟨p, h1, h2⟩
      have hl : cnt < d.length := by
        have := (List.getElem?_eq_some_iff.1 h1).1
        rw [← hval] at this; simpa using this
      rw [hget cnt hl] at h1
      cases h1
      exact ⟨by omega, h2⟩
  rw [hbool] at this
  refine this.mono ?_
  rintro e w' ⟨rfl, m, os, rfl⟩
  refine ⟨⟨_, rfl⟩, ?_⟩
  · have := putRow_self (encA (w := w)) (Sort.ahead w m) g 0 d.toArray (holds_ahead _ w m g 0 _ k1)
    unfold sortWorld
    rw [this]
    refine ⟨rfl, rfl, rfl, by simp [Sort.ahead], fun k hk _ => ?_⟩
    rw [heap_grow_old _ _ (by simpa [Sort.ahead] using hk)]; rfl
end Go.Proofs.YtihaheinkpmnnaaGreat

namespace Go.Proofs.YtihaheinkpmnnaaGreat
set_option maxRecDepth 200000
open Go.RowKit
set_option maxHeartbeats 1000000 in
theorem index54_calls {F : Int → Bool} {p : Value} {w : World} {a : Option Addr} {c : Nat} {L : List Int} (hL : IntsW w a c L) (hn : L.length ≤ 100000)
    (hcl : ∀ x ∈ L, Calls Tryz.prog 54 #[.int .i64 x, p] w fun e w' => e = .returned (.bool (F x)) ∧ w' = w) :
    Calls Tryz.prog 72 #[.slice a L.length c, .func (.func 54) #[] #[p]] w fun e w' => e = .returned (.int .i64 (ixOf (L.findIdx? F))) ∧ w' = w := by
  obtain ⟨n, hnn⟩ : ∃ n, L.length = n := ⟨_, rfl⟩
  have HH := Lib.hid (And.intro hL hnn)
  have HOC := Lib.hid hcl
  rw [hnn] at hn ⊢
  clear hL hnn hcl
  go_enter Tryz.func72, Tryz.ntmps72
  go_wp2_with fail
  go_loopg [8] n (fun gk s8 w' => ∃ k : Nat, s8 = .int .i64 (k : Int) ∧ gk = n - k ∧ k ≤ n ∧ w' = w ∧ ∀ j, j < k → ∃ z, L[j]? = some z ∧ F z = false)
  case atStart => exact ⟨0, rfl, rfl, by omega, rfl, fun j hj => by omega⟩
  case round =>
    obtain ⟨k, rfl, hgk, hk, rfl, hbef⟩ := hrel
    have HI := Lib.hid (And.intro hgk hbef)
    clear hgk hbef
    by_cases hkn : k < n
    · have f1 : decide ((k : Int) < (n : Int)) = true := decide_eq_true (by omega)
      have f1' : decide (k < n) = true := decide_eq_true hkn
      have i0 : (0 : Int) ≤ (k : Int) := by omega
      have i1 : (k : Int) < (n : Int) := by omega
      have k1 : IntKind.i64.wrap ((k : Int) + 1) = (k : Int) + 1 := IntWalk.i64_in _ (by omega)
      obtain ⟨z, hz⟩ : ∃ z, L[k]? = some z := ⟨_, List.getElem?_eq_getElem (by rw [HH.out.2]; exact hkn)⟩
      have hzm : z ∈ L := List.mem_of_getElem? hz
      obtain ⟨b, o, rfl, hcell⟩ := HH.out.1.at hz
      have HC := Lib.hid (HOC.out z hzm)
      have HZ := Lib.hid hz
      clear hz hzm
      obtain ⟨d, hd⟩ : ∃ d, F z = d := ⟨_, rfl⟩
      rw [hd] at HC
      have HD := Lib.hid hd
      clear hd
      go_wp2_with fail
      refine HC.out.mono ?_
      rintro e w1 ⟨rfl, rfl⟩
      cases d with
      | true =>
        have HR : Hid (L.findIdx? F = some k) := Lib.hid (by
          rw [List.findIdx?_eq_some_iff_getElem]
          obtain ⟨hlt, e⟩ := List.getElem?_eq_some_iff.1 HZ.out
          refine ⟨hlt, by rw [e]; exact HD.out, fun j hj => ?_⟩
          obtain ⟨y, hy, hf⟩ := HI.out.2 j hj
          rw [(List.getElem?_eq_some_iff.1 hy).2, hf]; simp)
        go_wp2_with fail
        go_ret
        exact ⟨by rw [HR.out]; rfl, rfl⟩
      | false =>
        go_wp2_with fail
        go_roundg (n - (k + 1))
        case measure => rw [HI.out.1]; omega
        case rel => exact ⟨k + 1, rfl, rfl, by omega, rfl, fun j hj => by
          by_cases e : j = k
          · subst e; exact ⟨z, HZ.out, HD.out⟩
          · exact HI.out.2 j (by omega)⟩
    · have hke : k = n := by omega
      subst hke
      have f1 : decide (k < k) = false := by simp
      have HR : Hid (L.findIdx? F = none) := Lib.hid (by
        rw [List.findIdx?_eq_none_iff]
        intro x hx
        obtain ⟨j, hj, e⟩ := List.mem_iff_getElem.1 hx
        obtain ⟨y, hy, hf⟩ := HI.out.2 j (by rw [← HH.out.2]; exact hj)
        rw [← e, (List.getElem?_eq_some_iff.1 hy).2]; exact hf)
      go_wp2_with fail
      go_ret
      exact ⟨by rw [HR.out]; rfl, rfl⟩
theorem ixOf_ge (L : List Int) (F : Int → Bool) : decide (ixOf (L.findIdx? F) ≥ 0) = L.any F := by
  cases h : L.findIdx? F with
  | none =>
    rw [List.findIdx?_eq_none_iff] at h
    have : L.any F = false := by rw [List.any_eq_false]; intro x hx; simp [h x hx]
    rw [this]; rfl
  | some i =>
    rw [List.findIdx?_eq_some_iff_getElem] at h
    obtain ⟨hi, hf, _⟩ := h
    have : L.any F = true := List.any_eq_true.2 ⟨_, List.getElem_mem hi, hf⟩
    rw [this]; exact decide_eq_true (by show (0 : Int) ≤ (i : Int); omega)
set_option maxHeartbeats 1000000 in
theorem contains54_calls {F : Int → Bool} {p : Value} {w : World} {a : Option Addr} {c : Nat} {L : List Int} (hL : IntsW w a c L) (hn : L.length ≤ 100000)
    (hcl : ∀ x ∈ L, Calls Tryz.prog 54 #[.int .i64 x, p] w fun e w' => e = .returned (.bool (F x)) ∧ w' = w) :
    Calls Tryz.prog 53 #[.slice a L.length c, .func (.func 54) #[] #[p]] w fun e w' => e = .returned (.bool (L.any F)) ∧ w' = w := by
  have HC := Lib.hid (index54_calls hL hn hcl)
  have HR := Lib.hid (ixOf_ge L F)
  obtain ⟨z, hz⟩ : ∃ z, ixOf (L.findIdx? F) = z := ⟨_, rfl⟩
  rw [hz] at HC HR
  obtain ⟨b, hb⟩ : ∃ b, L.any F = b := ⟨_, rfl⟩
  rw [hb] at HR ⊢
  have f0 : decide (z ≥ 0) = b := HR.out
  have f1 : decide ((0 : Int) ≤ z) = b := HR.out
  clear hcl hL hz hb
  go_enter Tryz.func53, Tryz.ntmps53
  go_wp2_with fail
  refine HC.out.mono ?_
  rintro e w1 ⟨rfl, rfl⟩
  go_wp2_with fail
  go_ret
  exact ⟨rfl, rfl⟩
set_option maxHeartbeats 1000000 in
theorem inside1_calls (V x : Int) (b : Nat) (w : World) (hb : w.cell? ⟨b, 0, none⟩ = some (.int .i64 V)) (hV : -1000000 ≤ V ∧ V ≤ 9000000000000000000) :
    Calls Tryz.prog 54 #[.int .i64 x, .pointer (some ⟨b, 0, none⟩)] w fun e w' => e = .returned (.bool (!inRb V x)) ∧ w' = w := by
  obtain ⟨b0, h0⟩ : ∃ d, (x == 0) = d := ⟨_, rfl⟩
  obtain ⟨b1, h1⟩ : ∃ d, decide (V < x) = d := ⟨_, rfl⟩
  obtain ⟨b2, h2⟩ : ∃ d, decide (x < -V) = d := ⟨_, rfl⟩
  have kv : IntKind.i64.wrap (-V) = -V := IntWalk.i64_in _ (by omega)
  have HR : Hid ((!inRb V x) = (b0 || b1 || b2)) := Lib.hid (by
    unfold inRb
    rw [h0, show decide (x ≤ V) = !b1 from by rw [← h1, ← decide_not]; exact decide_eq_decide.2 (by omega), show decide (-V ≤ x) = !b2 from by rw [← h2, ← decide_not]; exact decide_eq_decide.2 (by omega)]
    cases b0 <;> cases b1 <;> cases b2 <;> rfl)
  have f1 : decide (x > V) = b1 := h1
  rw [HR.out]
  go_enter Tryz.func54, Tryz.ntmps54
  cases b0 <;> cases b1 <;> cases b2 <;> (go_wp2_with fail; go_ret; exact ⟨rfl, rfl⟩)
end Go.Proofs.YtihaheinkpmnnaaGreat

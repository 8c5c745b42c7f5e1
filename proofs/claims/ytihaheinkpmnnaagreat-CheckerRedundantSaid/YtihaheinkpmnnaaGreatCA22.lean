/- Texts of the proof: OG KY. -/
import Derived.Test.YtihaheinkpmnnaaGreatCA08
import Derived.Recover
import Derived.OrdersHeld
import Derived.Test.YtihaheinkpmnnaaGreatCA16
import Derived.Test.YtihaheinkpmnnaaGreatCA18
namespace Go.Proofs.YtihaheinkpmnnaaGreat
open Go.RowKit

section
variable {P : Program} {ops : Array Oper} {Q : Exit → Act → World → Prop} {md : Region.Mode} {S T : World → Prop} {m : Nat}

/-- S holds behind every operation, T until m has come up. -/
def wpAnyG (P : Program) (md : Region.Mode) (ops : Array Oper) (Q : Exit → Act → World → Prop) (S T : World → Prop) (m : Nat) : Nat → Array Bool → Act → World → Prop
  | 0, listed, a, w => Region.ready md ops listed = [] ∧ Q .normal a w
  | fuel + 1, listed, a, w =>
    (Region.ready md ops listed = [] → Q .normal a w) ∧
    ∀ i ∈ Region.ready md ops listed, wpOp P ops Q i (fun a' w' => (S w' ∧ ((listed.setIfInBounds i true).getD m false = true ∨ T w')) ∧ wpAnyG P md ops Q S T m fuel (listed.setIfInBounds i true) a' w') a w
theorem wpAnyG_any : ∀ (fuel : Nat) (listed : Array Bool) (a : Act) (w : World), wpAnyG P md ops Q S T m fuel listed a w → wpAny P md ops Q fuel listed a w
  | 0, _, _, _, h => h
  | fuel + 1, _, _, _, h => ⟨h.1, fun i hi => wpOp_mono (fun a' w' h' => wpAnyG_any fuel _ a' w' h'.2) (h.2 i hi)⟩
/-- In state listed: T is still owed. -/
theorem setD_ne {listed : Array Bool} {i j : Nat} (d : Bool) (h : i ≠ j) : (listed.setIfInBounds i true).getD j d = listed.getD j d := getD_set_ne d h
/-- An operation that yields in every world that meets S and T may be taken first, if m waits for it. -/
theorem wpAnyG_firstT {i : Nat} {oi : Oper} {v : Value} (hi : ops[i]? = some oi) (hsel : ∀ (j : Nat) (o : Oper) cs b, ops[j]? = some o → o.op ≠ .select cs b)
    (hQ : ∀ c a w, Q (.panic c) (a.put oi.dst v) w → Q (.panic c) a w) {om : Oper} (hm : ops[m]? = some om) (hw : ∃ e ∈ om.after, Region.binds md e = true ∧ e.on = i) (hmi : m ≠ i) :
    ∀ (fuel : Nat) (listed : Array Bool) (a : Act) (w : World), listed.getD m true = false →
      (∀ j oj, ops[j]? = some oj → j ≠ i → listed.getD j true = false → (∀ e ∈ oj.after, Region.binds md e = true → e.on ≠ i) → oi.apart ops oj = true) →
      i ∈ Region.ready md ops listed → YieldsIf P ops (fun W => S W ∧ T W) oi v a → S w → T w →
      wpAnyG P md ops Q S T m fuel (listed.setIfInBounds i true) (a.put oi.dst v) w → wpAnyG P md ops Q S T m (fuel + 1) listed a w := by
  intro fuel
  induction fuel with
  | zero =>
    intro listed a w _ _ hr hy hS hT H
    refine ⟨fun h => (by rw [h] at hr; cases hr), fun j hj => ?_⟩
    rcases Classical.em (j = i) with e | e
    · rw [e]; exact hy.wpOp hi ⟨hS, hT⟩ ⟨⟨hS, .inr hT⟩, H⟩
    · exact absurd (ready_mono hj e) (by rw [H.1]; simp)
  | succ n ih =>
    intro listed a w hml hfree hr hy hS hT H
    refine ⟨fun h => (by rw [h] at hr; cases hr), fun j hj => ?_⟩
    rcases Classical.em (j = i) with e | hji
    · rw [e]; exact hy.wpOp hi ⟨hS, hT⟩ ⟨⟨hS, .inr hT⟩, H⟩
    · have hip := (mem_ready.1 hr).1
      have pend : listed.getD i false ≠ true := fun h1 => by
        rcases Nat.lt_or_ge i listed.size with h' | h'
        · simp [h'] at hip h1; rw [hip] at h1; cases h1
        · simp [Array.getElem?_eq_none h'] at h1
      obtain ⟨hjl, oj, hoj, hall⟩ := mem_ready.1 hj
      have hno : ∀ e ∈ oj.after, Region.binds md e = true → e.on ≠ i := fun e he hb hq => pend (by rw [← hq]; exact hall e he hb)
      have hjm : j ≠ m := fun hq => by
        subst hq
        rw [hm] at hoj
        cases hoj
        obtain ⟨e, he, hb, hq⟩ := hw
        exact hno e he hb hq
      have hml' : (listed.setIfInBounds j true).getD m true = false := by rw [setD_ne true hjm]; exact hml
      have step := wpOp_putIf hoj (hfree j oj hoj hji hjl hno) (fun cs b => hsel i oi cs b hi) (fun cs b => hsel j oj cs b hoj) hQ hy (H.2 j (ready_mono hj hji))
      refine wpOp_mono (fun a' w' h3 => ?_) step
      obtain ⟨hy', ⟨hS', hT'⟩, hK⟩ := h3
      have hT2 : T w' := hT'.resolve_left (fun h => by
        rw [setD_ne false hjm, setD_ne false (Ne.symm hmi)] at h
        have hms : m < listed.size := by
          rcases Nat.lt_or_ge m listed.size with h' | h'
          · exact h'
          · simp [Array.getElem?_eq_none h'] at hml
        simp [hms] at h hml
        rw [h] at hml
        cases hml)
      refine ⟨⟨hS', .inr hT2⟩, ih _ a' w' hml' (fun k ok hk hki hun hn => hfree k ok hk hki ?_ hn) (ready_mono hr (Ne.symm hji)) hy' hS' hT2 (by rw [Array.setIfInBounds_comm _ _ hji]; exact hK)⟩
      rcases Classical.em (j = k) with e | e
      · rw [← e]; exact hjl
      · rw [setD_ne true e] at hun; exact hun
/-- An operation that yields in every world that meets S may be taken first. -/
theorem wpAnyG_firstS {i : Nat} {oi : Oper} {v : Value} (hi : ops[i]? = some oi) (hsel : ∀ (j : Nat) (o : Oper) cs b, ops[j]? = some o → o.op ≠ .select cs b)
    (hQ : ∀ c a w, Q (.panic c) (a.put oi.dst v) w → Q (.panic c) a w) (him : i ≠ m) :
    ∀ (fuel : Nat) (listed : Array Bool) (a : Act) (w : World),
      (∀ j oj, ops[j]? = some oj → j ≠ i → listed.getD j true = false → (∀ e ∈ oj.after, Region.binds md e = true → e.on ≠ i) → oi.apart ops oj = true) →
      i ∈ Region.ready md ops listed → YieldsIf P ops S oi v a → S w → (listed.getD m false = true ∨ T w) →
      wpAnyG P md ops Q S T m fuel (listed.setIfInBounds i true) (a.put oi.dst v) w → wpAnyG P md ops Q S T m (fuel + 1) listed a w := by
  intro fuel
  induction fuel with
  | zero =>
    intro listed a w _ hr hy hS hT H
    refine ⟨fun h => (by rw [h] at hr; cases hr), fun j hj => ?_⟩
    rcases Classical.em (j = i) with e | e
    · rw [e]; exact hy.wpOp hi hS ⟨⟨hS, by rw [setD_ne false him]; exact hT⟩, H⟩
    · exact absurd (ready_mono hj e) (by rw [H.1]; simp)
  | succ n ih =>
    intro listed a w hfree hr hy hS hT H
    refine ⟨fun h => (by rw [h] at hr; cases hr), fun j hj => ?_⟩
    rcases Classical.em (j = i) with e | hji
    · rw [e]; exact hy.wpOp hi hS ⟨⟨hS, by rw [setD_ne false him]; exact hT⟩, H⟩
    · have hip := (mem_ready.1 hr).1
      have pend : listed.getD i false ≠ true := fun h1 => by
        rcases Nat.lt_or_ge i listed.size with h' | h'
        · simp [h'] at hip h1; rw [hip] at h1; cases h1
        · simp [Array.getElem?_eq_none h'] at h1
      obtain ⟨hjl, oj, hoj, hall⟩ := mem_ready.1 hj
      have hno : ∀ e ∈ oj.after, Region.binds md e = true → e.on ≠ i := fun e he hb hq => pend (by rw [← hq]; exact hall e he hb)
      have step := wpOp_putIf hoj (hfree j oj hoj hji hjl hno) (fun cs b => hsel i oi cs b hi) (fun cs b => hsel j oj cs b hoj) hQ hy (H.2 j (ready_mono hj hji))
      refine wpOp_mono (fun a' w' h3 => ?_) step
      obtain ⟨hy', ⟨hS', hT'⟩, hK⟩ := h3
      rw [Array.setIfInBounds_comm _ _ (Ne.symm hji), setD_ne false him] at hT'
      refine ⟨⟨hS', hT'⟩, ih _ a' w' (fun k ok hk hki hun hn => hfree k ok hk hki ?_ hn) (ready_mono hr (Ne.symm hji)) hy' hS' hT' (by rw [Array.setIfInBounds_comm _ _ hji]; exact hK)⟩
      rcases Classical.em (j = k) with e | e
      · rw [← e]; exact hjl
      · rw [setD_ne true e] at hun; exact hun
theorem wpAnyG_take {i : Nat} {oi : Oper} {v : Value} {fuel : Nat} {listed : Array Bool} {a : Act} {w : World} (hi : ops[i]? = some oi) (him : i ≠ m)
    (hs : Region.noSelect ops = true) (hf : Region.free md ops listed i = true) (hr : (Region.ready md ops listed).contains i = true)
    (hQ : ∀ c a w, Q (.panic c) (a.put oi.dst v) w → Q (.panic c) a w) (hy : YieldsIf P ops S oi v a) (hS : S w ∧ (listed.getD m false = true ∨ T w))
    (h : wpAnyG P md ops Q S T m fuel (listed.setIfInBounds i true) (a.put oi.dst v) w) : wpAnyG P md ops Q S T m (fuel + 1) listed a w :=
  wpAnyG_firstS hi (Region.noSelect_spec hs) hQ him fuel listed a w (Region.free_spec hi hf) (by simpa using hr) hy hS.1 hS.2 h
theorem wpAnyG_takeT {i : Nat} {oi : Oper} {v : Value} {fuel : Nat} {listed : Array Bool} {a : Act} {w : World} (hi : ops[i]? = some oi) {om : Oper} (hm : ops[m]? = some om) (hw : (om.after.any fun e => Region.binds md e && e.on == i) = true) (hmi : m ≠ i) (hml : listed.getD m true = false)
    (hs : Region.noSelect ops = true) (hf : Region.free md ops listed i = true) (hr : (Region.ready md ops listed).contains i = true)
    (hQ : ∀ c a w, Q (.panic c) (a.put oi.dst v) w → Q (.panic c) a w) (hy : YieldsIf P ops (fun W => S W ∧ T W) oi v a) (hS : S w ∧ (listed.getD m false = true ∨ T w))
    (h : wpAnyG P md ops Q S T m fuel (listed.setIfInBounds i true) (a.put oi.dst v) w) : wpAnyG P md ops Q S T m (fuel + 1) listed a w := by
  refine wpAnyG_firstT hi (Region.noSelect_spec hs) hQ hm ?_ hmi fuel listed a w hml (Region.free_spec hi hf) (by simpa using hr) hy hS.1 (hS.2.resolve_left fun h => ?_) h
  · obtain ⟨e, he, hb⟩ := Array.any_eq_true'.1 hw
    simp only [Bool.and_eq_true, beq_iff_eq] at hb
    exact ⟨e, he, hb.1, hb.2⟩
  · have hms : m < listed.size := by
      rcases Nat.lt_or_ge m listed.size with h' | h'
      · exact h'
      · simp [Array.getElem?_eq_none h'] at hml
    simp [hms] at h hml
    rw [h] at hml
    cases hml
def AllReadyG (P : Program) (md : Region.Mode) (ops : Array Oper) (Q : Exit → Act → World → Prop) (S T : World → Prop) (m : Nat) (fuel : Nat) (listed : Array Bool) (a : Act) (w : World) (rs : List Nat) : Prop :=
  ∀ i ∈ rs, wpOp P ops Q i (fun a' w' => (S w' ∧ ((listed.setIfInBounds i true).getD m false = true ∨ T w')) ∧ wpAnyG P md ops Q S T m fuel (listed.setIfInBounds i true) a' w') a w
theorem AllReadyG.nil {fuel : Nat} {listed : Array Bool} {a : Act} {w : World} : AllReadyG P md ops Q S T m fuel listed a w [] := fun _ h => by cases h
/-- What is owed behind an operation. -/
theorem AllReadyG.cons {fuel : Nat} {listed : Array Bool} {a : Act} {w : World} {i : Nat} {o : Oper} {rs : List Nat} (ho : ops[i]? = some o)
    (h : ∀ K' : Act → World → Prop, _root_.Go.Shut (∀ a w, (S w ∧ ((listed.setIfInBounds i true).getD m false = true ∨ T w)) → ((S w ∧ ((listed.setIfInBounds i true).getD m false = true ∨ T w)) → wpAnyG P md ops Q S T m fuel (listed.setIfInBounds i true) a w) → K' a w) → if Region.wanted o (yielded ops a.tmps) = true then Oper.wp P o a w K' Q else K' (a.put o.dst undef) w)
    (hs : AllReadyG P md ops Q S T m fuel listed a w rs) : AllReadyG P md ops Q S T m fuel listed a w (i :: rs) := fun j hj => by
  cases List.mem_cons.1 hj with
  | inl e => subst e; exact wpOp_step ho (fun K' hK => h K' (fun a w hS hW => hK a w ⟨hS, hW hS⟩))
  | inr e => exact hs j e
theorem wpAnyG_ready {rs : List Nat} {fuel : Nat} {listed : Array Bool} {a : Act} {w : World} (hr : Region.ready md ops listed = rs) (hne : rs ≠ [])
    (h : AllReadyG P md ops Q S T m fuel listed a w rs) : wpAnyG P md ops Q S T m (fuel + 1) listed a w := ⟨fun h0 => absurd (hr ▸ h0) hne, hr ▸ h⟩
theorem wpAnyG_done {listed : Array Bool} {a : Act} {w : World} (hr : Region.ready md ops listed = []) (h : Q .normal a w) : ∀ fuel, wpAnyG P md ops Q S T m fuel listed a w
  | 0 => ⟨hr, h⟩
  | _ + 1 => ⟨fun _ => h, by rw [hr]; simp⟩
theorem wp_region_gone_drew {id : Nat} {a : Act} {w : World} (hmo : P.follows .mixedOrders = true) (hS : S w.drew ∧ T w.drew)
    (h : (S w.drew ∧ ((Array.replicate ops.size false).getD m false = true ∨ T w.drew)) → wpAnyG P .any ops Q S T m ops.size (Array.replicate ops.size false) a w.drew) : (Code.region id ops true).wp P Q a w :=
  wp_region_any hmo (wpAnyG_any _ _ _ _ (h ⟨hS.1, .inr hS.2⟩))
end
end Go.Proofs.YtihaheinkpmnnaaGreat

namespace Go.Proofs.YtihaheinkpmnnaaGreat
set_option maxRecDepth 200000
theorem sub_len {α : Type} [DecidableEq α] : ∀ {l m : List α}, l.Nodup → (∀ x ∈ l, x ∈ m) → l.length ≤ m.length
  | [], _, _, _ => Nat.zero_le _
  | x :: l, m, hn, h => by
    obtain ⟨h1, h2⟩ := List.nodup_cons.1 hn
    have hx := h x (List.mem_cons_self ..)
    have := sub_len (l := l) (m := m.erase x) h2 fun y hy => (List.mem_erase_of_ne (fun e => h1 (by rw [← e]; exact hy))).2 (h y (List.mem_cons_of_mem _ hy))
    rw [List.length_erase_of_mem hx] at this
    have : 0 < m.length := List.length_pos_of_mem hx
    rw [List.length_cons]; omega
end Go.Proofs.YtihaheinkpmnnaaGreat

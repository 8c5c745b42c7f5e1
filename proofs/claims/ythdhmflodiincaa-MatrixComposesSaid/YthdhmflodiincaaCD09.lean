/- Texts of the proof: QA QB QC QD QE QI QJ QK QM. -/
import Derived.Test.YthdhmflodiincaaCD08
import Derived.RangeFuncNested
import Derived.RangeFuncLeaves
import Derived.RangeFuncBound
import Derived.Shelf.Abstract
import Derived.Shelf.RegionOpen
import Derived.Sort.LoopGhostIn
import Derived.TacticsInMore
import Derived.LoopNIn
import Derived.LoopIn
import Derived.OwnWalkIn
import Derived.RegionIn
import Derived.RangeFuncCalls
import Derived.OrdersHeld
import Derived.Deep.RegionHeld
set_option maxRecDepth 100000
set_option maxHeartbeats 8000000
namespace Go.Proofs.Ythdhmflodiincaa
open Lib (hid)
open Go.RowKit Go.Maps
set_option maxRecDepth 100000

theorem newb_calls (gs : List Gt) (a : Option Addr) (c : Nat) (w : World) (h : GatesW w a c gs) :
  Calls Try.prog 72 #[.agg #[.slice a gs.length c]] w fun e w' => ∃ q p, e = .returned (.pointer (some ⟨q, 0, none⟩)) ∧ w.heap.size ≤ p ∧ w.heap.size ≤ q ∧ p ≠ q ∧ w'.cell? ⟨q, 0, none⟩ = some (.pointer (some ⟨p, 0, none⟩)) ∧ GX p (fun k => k = p) w' gs 0 ∧ w.grownBy w' none := by
 have HF := hid (fun (U : World) (hU : GatesW U a c gs) => from_calls gs a c U hU)
 have HH := hid h
 clear h
 go_enter Try.func72, Try.ntmps72
 go_wp2_with fail
 have hg1 := gAl w (.cells #[.slice a gs.length c] 30) none
 obtain ⟨W, hW⟩ : ∃ z, w.alloc (.cells #[.slice a gs.length c] 30) = z := ⟨_, rfl⟩
 rw [hW] at hg1 ⊢
 clear hW
 have HG1 := hid hg1
 refine (HF.out W (HH.out.grown hg1)).mono ?_
 rintro e w2 ⟨p, rfl, hp, hgr, hg2⟩
 have HP := hid hp
 have HGR := hid hgr
 have HG2 := hid (gT hg1 hg2)
 clear hg1 hg2 hgr hp
 go_wp2_with fail
 go_ret
 have hb := one_cell w2 (.pointer (some ⟨p, 0, none⟩)) 88
 have hga := gAl w2 (.cells #[.pointer (some ⟨p, 0, none⟩)] 88) none
 have hpl : p < w2.heap.size := lies_lt HGR.out.c0
 exact ⟨w2.heap.size, p, rfl, Nat.le_trans HG1.out.size HP.out, HG2.out.size, by omega, hb.2.1, (GX.of HGR.out).grown hga, gT HG2.out hga⟩
def IntsN (N : Nat → Prop) (w : World) (a : Option Addr) (c : Nat) (zs : List Int) : Prop :=
 zs.length ≤ c ∧ (zs = [] ∨ ∃ b o, a = some ⟨b, o, none⟩ ∧ ¬ N b ∧ b < w.heap.size ∧ ∀ (j : Nat) (z : Int), zs[j]? = some z → w.cell? ⟨b, o + j, none⟩ = some (.int .i64 z))
theorem IntsN.off {N N' : Nat → Prop} {w w' : World} {a : Option Addr} {c : Nat} {zs : List Int} (h : IntsN N w a c zs) (ho : Off N w w') (hn : ∀ k, N' k → N k ∨ w.heap.size ≤ k) : IntsN N' w' a c zs := by
 obtain ⟨hc, h | ⟨b, o, ha, hb, hl, hz⟩⟩ := h
 · exact ⟨hc, .inl h⟩
 · exact ⟨hc, .inr ⟨b, o, ha, fun h => by rcases hn b h with h1 | h1; exact hb h1; omega, Nat.lt_of_lt_of_le hl ho.size, fun j z hj => ho.cell (hz j z hj) hb⟩⟩
theorem IntsN.weak {N : Nat → Prop} {w : World} {a : Option Addr} {c : Nat} {zs : List Int} (h : IntsN N w a c zs) : IntsW w a c zs := by
 obtain ⟨hc, h | ⟨b, o, ha, hb, hl, hz⟩⟩ := h
 · exact ⟨hc, .inl h⟩
 · exact ⟨hc, .inr ⟨b, o, ha, hz⟩⟩
theorem IntsW.far {N : Nat → Prop} {w0 w : World} {a : Option Addr} {c : Nat} {zs : List Int} (h : IntsW w0 a c zs) (hg : w0.grownBy w none) (hn : ∀ k, N k → w0.heap.size ≤ k) : IntsN N w a c zs := by
 obtain ⟨hc, h | ⟨b, o, ha, hz⟩⟩ := h
 · exact ⟨hc, .inl h⟩
 ·
  cases zs with
  | nil => exact ⟨hc, .inl rfl⟩
  | cons x l =>
   have h0 := hz 0 x rfl
   have hl : b < w0.heap.size := lies_lt h0
   exact ⟨hc, .inr ⟨b, o, ha, fun h => by have := hn b h; omega, Nat.lt_of_lt_of_le hl hg.size, fun j z hj => hg.cell (hz j z hj) (by simp)⟩⟩
structure GS (p q : Nat) (N : Nat → Prop) (w : World) (gs : List Gt) (hi : Int) : Prop where
 gx : GX p N w gs hi
 q0 : w.cell? ⟨q, 0, none⟩ = some (.pointer (some ⟨p, 0, none⟩))
 nq : ¬ N q
 low : ∀ k, N k → k < w.heap.size
def Goes (N : Nat → Prop) (w : World) (N' : Nat → Prop) (w' : World) : Prop := Off N w w' ∧ ∀ k, N' k → N k ∨ w.heap.size ≤ k
theorem Goes.refl (N : Nat → Prop) (w : World) : Goes N w N w := ⟨Off.refl N w, fun _ h => .inl h⟩
theorem Goes.trans {N N1 N2 : Nat → Prop} {w w1 w2 : World} (h : Goes N w N1 w1) (h2 : Goes N1 w1 N2 w2) : Goes N w N2 w2 :=
 ⟨h.1.trans h2.1 (fun k hk h1 => (h.2 k h1).resolve_right (by omega)), fun k hk => by
  rcases h2.2 k hk with h1 | h1
  · exact h.2 k h1
  · have := h.1.size; exact .inr (by omega)⟩
theorem Goes.grown {N : Nat → Prop} {w w' : World} (hg : w.grownBy w' none) : Goes N w N w' := ⟨Off.of hg (fun k e => by cases e), fun _ h => .inl h⟩
theorem IntsN.goes {N N' : Nat → Prop} {w w' : World} {a : Option Addr} {c : Nat} {zs : List Int} (h : IntsN N w a c zs) (hg : Goes N w N' w') : IntsN N' w' a c zs := h.off hg.1 hg.2
theorem GS.step {p q : Nat} {N N' : Nat → Prop} {w w' : World} {gs gs' : List Gt} {hi hi' : Int} (h : GS p q N w gs hi) (hx : GX p N' w' gs' hi') (hg : Goes N w N' w') (hl : ∀ k, N' k → k < w'.heap.size) : GS p q N' w' gs' hi' :=
 ⟨hx, hg.1.cell h.q0 h.nq, fun e => by rcases hg.2 q e with h1 | h1; exact h.nq h1; have : q < w.heap.size := lies_lt h.q0; omega, hl⟩
theorem GS.grown {p q : Nat} {N : Nat → Prop} {w w' : World} {gs : List Gt} {hi : Int} (h : GS p q N w gs hi) (hg : w.grownBy w' none) : GS p q N w' gs hi :=
 h.step (h.gx.grown hg) (Goes.grown hg) (fun k hk => Nat.lt_of_lt_of_le (h.low k hk) hg.size)
structure AddS (p q : Nat) (N0 : Nat → Prop) (w0 : World) (N : Nat → Prop) (w : World) (gs : List Gt) (hi : Int) : Prop where
 gs : GS p q N w gs hi
 go : Goes N0 w0 N w
theorem AddS.step {p q : Nat} {N0 : Nat → Prop} {w0 : World} {N N' : Nat → Prop} {w w' : World} {gs gs' : List Gt} {hi hi' : Int} (h : AddS p q N0 w0 N w gs hi) (hx : GX p N' w' gs' hi') (ho : Off N w w') (hn : ∀ k, N' k → N k ∨ w.heap.size ≤ k) (hl : ∀ k, N' k → k < w'.heap.size) : AddS p q N0 w0 N' w' gs' hi' :=
 ⟨h.gs.step hx ⟨ho, hn⟩ hl, h.go.trans ⟨ho, hn⟩⟩
theorem GS.p_lt {p q : Nat} {N : Nat → Prop} {w : World} {gs : List Gt} {hi : Int} (h : GS p q N w gs hi) : p < w.heap.size := by
 obtain ⟨_, _, _, _, _, g, _⟩ := h.gx
 exact lies_lt g.c0
theorem GS.far {p q : Nat} {N : Nat → Prop} {w w' : World} {gs : List Gt} {hi : Int} {r : Option Nat} (h : GS p q N w gs hi) (hg : w.grownBy w' r) (hr : ∀ x, r = some x → p ≤ x ∧ q ≠ x ∧ ¬ N x) : GS p q N w' gs hi :=
 ⟨h.gx.far hg (fun x e => ⟨(hr x e).1, (hr x e).2.2⟩), hg.cell h.q0 (fun e => (hr q e.symm).2.1 rfl), h.nq, fun k hk => Nat.lt_of_lt_of_le (h.low k hk) hg.size⟩
theorem gand_c (gs : List Gt) (a b : Int) (p : Nat) (g1 : List Gt) (t : Int) (e : andC gs a b = (g1, t)) (hG : Good gs) (hl : gs.length ≤ 990) (M : Nat → Prop) (w : World) (hi : Int) (h : GX p M w gs hi) :
  Calls Try.prog 81 #[.pointer (some ⟨p, 0, none⟩), .int .i64 a, .int .i64 b] w fun e w' => e = .returned (.int .i64 t) ∧ ∃ hi', GX p (fun k => M k ∨ w.heap.size ≤ k) w' g1 hi' ∧ Off M w w' := by
 have h1 := gand_calls gs a b p M w hi h hG hl
 rw [e] at h1
 exact h1.mono (fun e w' hh => ⟨hh.1, _, hh.2.1, hh.2.2⟩)
theorem gor_c (gs : List Gt) (a b : Int) (p : Nat) (g1 : List Gt) (t : Int) (e : orC gs a b = (g1, t)) (hG : Good gs) (hl : gs.length ≤ 990) (ha : a ≤ 9223372036854775807) (hb : b ≤ 9223372036854775807) (M : Nat → Prop) (w : World) (hi : Int) (h : GX p M w gs hi) :
  Calls Try.prog 75 #[.pointer (some ⟨p, 0, none⟩), .int .i64 a, .int .i64 b] w fun e w' => e = .returned (.int .i64 t) ∧ ∃ hi', GX p (fun k => M k ∨ w.heap.size ≤ k) w' g1 hi' ∧ Off M w w' := by
 have h1 := gor_calls gs a b p M w hi h hG hl ha hb
 rw [e] at h1
 exact h1.mono (fun e w' hh => ⟨hh.1, _, hh.2.1, hh.2.2⟩)
set_option maxRecDepth 100000

abbrev orV (p : Nat) : Value := .func (.func 75) #[.pointer (some ⟨p, 0, none⟩)] #[]
def orF (r x : Int) : Pr Int := orP r x
theorem drop_at {α : Type} {l : List α} {k : Nat} {x : α} (h : l[k]? = some x) : l.drop k = x :: l.drop (k + 1) := by
 obtain ⟨hk, e⟩ := List.getElem?_eq_some_iff.1 h
 rw [List.drop_eq_getElem_cons hk, e]
theorem run_orF (r x : Int) (gs : List Gt) : (orF r x).run gs = orC gs r x := rfl
theorem foldor_calls (gs : List Gt) (l : List Int) (r0 : Int) (gF : List Gt) (rF : Int) (n : Nat) (hn : l.length = n) (eF : (foldP orF l r0).run gs = (gF, rF)) (p : Nat) (M : Nat → Prop) (w : World) (hi : Int) (h : GX p M w gs hi) (a : Option Addr) (c : Nat) (hl : IntsN M w a c l) (hG : Good gs) (ho : ∀ x ∈ l, Ok gs x) (hr0 : Ok gs r0) (hlen : gs.length + n ≤ 990) :
  Calls Try.prog 87 #[orV p, .int .i64 r0, .slice a n c] w fun e w' => e = .returned (.int .i64 rF) ∧ ∃ hi', GX p (fun k => M k ∨ w.heap.size ≤ k) w' gF hi' ∧ Off M w w' := by
 have HN := hid hn
 have HL := hid hl
 have HGX := hid (h.wide (N := fun k => M k ∨ w.heap.size ≤ k) (hi' := hi) (fun k hk => .inl hk) (Int.le_refl _))
 have HO := hid ho
 have HE := hid (show (foldP orF (l.drop 0) r0).run gs = (gF, rF) from eF)
 have HG0 := hid (And.intro hG hr0)
 clear h hl hn ho eF hG hr0
 go_enter Try.func87, Try.ntmps87
 go_wp2_with fail
 go_loopg [1, 11] n (fun gk s1 s11 wr => ∃ (k : Nat) (r : Int) (g : List Gt) (hi' : Int), s1 = .int .i64 r ∧ s11 = .int .i64 (k : Int) ∧ gk = n - k ∧ k ≤ n ∧ (foldP orF (l.drop k) r).run g = (gF, rF) ∧ Good g ∧ Ok g r ∧ gs <+: g ∧ g.length ≤ gs.length + k ∧ GX p (fun k => M k ∨ w.heap.size ≤ k) wr g hi' ∧ Off M w wr)
 case atStart => exact ⟨0, r0, gs, hi, rfl, rfl, rfl, Nat.zero_le _, HE.out, HG0.out.1, HG0.out.2, List.prefix_refl _, Nat.le_refl _, HGX.out, Off.refl _ _⟩
 case round =>
  obtain ⟨k, r, g, hi', rfl, rfl, hgk, hk, he, hg, hr, hp, hgl, hgx, hof⟩ := hrel
  have HI := hid hgk; clear hgk
  by_cases hkn : k < n
  ·
   have f1 : decide (k < n) = true := decide_eq_true hkn
   have f2 : decide ((k : Int) < (n : Int)) = true := decide_eq_true (by omega)
   have hk1 : IntKind.i64.wrap ((k : Int) + 1) = ((k + 1 : Nat) : Int) := by rw [IntWalk.i64_in _ (by omega)]; omega
   have hj0 : (0 : Int) ≤ (k : Int) := by omega
   have hj1 : (k : Int) < (n : Int) := by omega
   obtain ⟨x, hx⟩ : ∃ r, l[k]? = some r := ⟨_, List.getElem?_eq_getElem (by rw [HN.out]; exact hkn)⟩
   obtain ⟨ba, oa, hba, x0⟩ := (HL.out.off hof (N' := M) (fun k hk => .inl hk)).weak.at hx
   subst hba
   have hox : Ok g x := by have := HO.out x (List.mem_of_getElem? hx); have := hp.length_le; unfold Ok at *; omega
   obtain ⟨q, hq⟩ : ∃ q, orC g r x = q := ⟨_, rfl⟩
   obtain ⟨g1, t⟩ := q
   rw [drop_at hx, run_foldP_cons, run_orF, hq] at he
   have h1 := step_or hg r x
   have h2 := or_ok hg (by omega) hr hox
   have h3 := @or_len g r x
   rw [hq] at h1 h2 h3
   have HC := hid (gor_c g r x p g1 t hq hg (by omega) (by unfold Ok at hr; omega) (by unfold Ok at hox; omega) (fun k => M k ∨ w.heap.size ≤ k) wr hi' hgx)
   have HNX := hid (And.intro he (And.intro h1.good (And.intro h2 (And.intro (hp.trans h1.pre) (show g1.length ≤ gs.length + (k + 1) by have h3' : g1.length ≤ g.length + 1 := h3; omega)))))
   have HOF := hid hof
   clear hx he hg hr hp hgl hgx hof hox hq h1 h2 h3
   go_wp2_with fail
   refine HC.out.mono ?_
   rintro e w2 ⟨rfl, hi2, hgx2, hof2⟩
   have HO2 := hid (HOF.out.trans hof2 (fun k hk hm => hm.elim id (fun h => absurd hk (by omega))))
   have HX2 := hid (hgx2.wide (N := fun k => M k ∨ w.heap.size ≤ k) (hi' := hi2) (fun k hk => hk.elim id (fun h => .inr (Nat.le_trans HOF.out.size h))) (Int.le_refl _))
   clear hgx2 hof2 x0
   go_wp2_with fail
   go_roundg (n - (k + 1))
   case measure => rw [HI.out]; omega
   case rel => exact ⟨k + 1, t, g1, hi2, rfl, rfl, rfl, by omega, HNX.out.1, HNX.out.2.1, HNX.out.2.2.1, HNX.out.2.2.2.1, HNX.out.2.2.2.2, HX2.out, HO2.out⟩
  ·
   have f1 : decide (k < n) = false := decide_eq_false hkn
   have f2 : decide ((k : Int) < (n : Int)) = false := decide_eq_false (by omega)
   have hkn2 : k = n := by omega
   rw [List.drop_of_length_le (by rw [HN.out]; omega)] at he
   have e1 : g = gF := congrArg Prod.fst he
   have e2 : r = rF := congrArg Prod.snd he
   subst e1 e2
   have HX := hid (And.intro hgx hof)
   clear hkn he hg hr hp hgl hgx hof
   go_wp2_with fail
   go_ret
   exact ⟨rfl, hi', HX.out.1, HX.out.2⟩
set_option maxRecDepth 100000

theorem atM_drop {m : List Cl} {k : Nat} {r : Int} (h : ∀ (j : Nat) (x : Cl), j < k → m[j]? = some x → x.1 ≠ r) : atM m r = atM (m.drop k) r := by
 rw [← List.take_append_drop k m]
 generalize hd : m.drop k = d
 unfold atM
 rw [List.find?_append, List.find?_eq_none.2 (fun x hx => ?_)]
 ·
  rw [show (m.take k ++ d).drop k = d from ?_]
  · rfl
  · rw [← hd]; simp
 ·
  obtain ⟨j, hj⟩ := List.mem_iff_getElem?.1 hx
  have hjk : j < k := by have := (List.getElem?_eq_some_iff.1 hj).1; rw [List.length_take] at this; omega
  rw [List.getElem?_take_of_lt hjk] at hj
  simpa using h j x hjk hj
theorem at_calls (m : List Cl) (ar r : Int) (a : Option Addr) (c : Nat) (w : World) (h : CellsW w a c m) (hl : m.length ≤ 1000) :
  Calls Try.prog 79 #[.agg #[.int .i64 ar, .slice a m.length c], .int .i64 r] w fun e w' => e = .returned (.int .i64 (atM m r)) ∧ w.grownBy w' none := by
 obtain ⟨n, hn⟩ : ∃ n, m.length = n := ⟨_, rfl⟩
 have HN := hid hn
 rw [hn] at hl ⊢
 have hg1 := gAl w (.cells #[.int .i64 ar, .slice a n c] 26) none
 have hc1 := one_cells w (.int .i64 ar) (.slice a n c) 26
 obtain ⟨W1, hW1⟩ : ∃ z, w.alloc (.cells #[.int .i64 ar, .slice a n c] 26) = z := ⟨_, rfl⟩
 rw [hW1] at hg1 hc1
 obtain ⟨bM, hbM⟩ : ∃ z, w.heap.size = z := ⟨_, rfl⟩
 rw [hbM] at hc1
 have y1 := hc1.2.2.1
 have HM := hid (h.grown hg1)
 have HG := hid hg1
 clear h hn hg1 hc1
 go_enter Try.func79, Try.ntmps79
 go_wp2_with fail
 clear hW1 hbM
 go_loopg [5] n (fun gk s5 wr => ∃ (k : Nat), s5 = .int .i64 (k : Int) ∧ gk = n - k ∧ k ≤ n ∧ (∀ (j : Nat) (x : Cl), j < k → m[j]? = some x → x.1 ≠ r) ∧ wr = W1)
 case atStart => exact ⟨0, rfl, rfl, Nat.zero_le _, fun j x hj => by omega, rfl⟩
 case round =>
  obtain ⟨k, rfl, hgk, hk, hm', rfl⟩ := hrel
  have HI := hid hgk; clear hgk
  have HMM := hid hm'; clear hm'
  by_cases hkn : k < n
  ·
   have f1 : decide (k < n) = true := decide_eq_true hkn
   have f2 : decide ((k : Int) < (n : Int)) = true := decide_eq_true (by omega)
   have hk1 : IntKind.i64.wrap ((k : Int) + 1) = ((k + 1 : Nat) : Int) := by rw [IntWalk.i64_in _ (by omega)]; omega
   have hj0 : (0 : Int) ≤ (k : Int) := by omega
   have hj1 : (k : Int) < (n : Int) := by omega
   obtain ⟨x, hx⟩ : ∃ r, m[k]? = some r := ⟨_, List.getElem?_eq_getElem (by rw [HN.out]; exact hkn)⟩
   obtain ⟨ba, oa, hba, x0, x1⟩ := HM.out.at hx
   subst hba
   have HX := hid hx
   clear hx
   by_cases hr : x.1 = r
   ·
    have e1 : (x.1 == r) = true := by simp [hr]
    have HR := hid (show atM m r = x.2 from by rw [atM_drop (k := k) HMM.out, drop_at HX.out]; unfold atM; simp [hr])
    clear hr
    go_wp2_with fail
    go_ret
    exact ⟨by rw [HR.out]; rfl, HG.out⟩
   ·
    have e1 : (x.1 == r) = false := by simp [hr]
    have HR := hid (show ∀ (j : Nat) (y : Cl), j < k + 1 → m[j]? = some y → y.1 ≠ r from fun j y hj hy => by
     rcases Nat.lt_or_ge j k with h1 | h1
     · exact HMM.out j y h1 hy
     ·
      have e : j = k := by omega
      subst e
      rw [HX.out] at hy
      cases hy
      exact hr)
    clear hr
    go_wp2_with fail
    go_roundg (n - (k + 1))
    case measure => rw [HI.out]; omega
    case rel => exact ⟨k + 1, rfl, rfl, by omega, HR.out, rfl⟩
  ·
   have f1 : decide (k < n) = false := decide_eq_false hkn
   have f2 : decide ((k : Int) < (n : Int)) = false := decide_eq_false (by omega)
   have HR := hid (show atM m r = 1 from by
    rw [atM_drop (k := k) HMM.out, List.drop_of_length_le (by rw [HN.out]; omega)]
    rfl)
   clear hkn
   go_wp2_with fail
   go_ret
   exact ⟨by rw [HR.out]; rfl, HG.out⟩
theorem newalg_calls (gs : List Gt) (n : Int) (a : Option Addr) (c : Nat) (w : World) (h : GatesW w a c gs) :
  Calls Try.prog 85 #[.agg #[.slice a gs.length c], .int .i64 n] w fun e w' => ∃ s q p, e = .returned (.pointer (some ⟨s, 0, none⟩)) ∧ w.heap.size ≤ p ∧ w.heap.size ≤ q ∧ w.heap.size ≤ s ∧ p ≠ q ∧ p ≠ s ∧ q ≠ s ∧ w'.cell? ⟨s, 0, none⟩ = some (.pointer (some ⟨q, 0, none⟩)) ∧ w'.cell? ⟨s, 1, none⟩ = some (.int .i64 n) ∧ w'.cell? ⟨q, 0, none⟩ = some (.pointer (some ⟨p, 0, none⟩)) ∧ GX p (fun k => k = p) w' gs 0 ∧ w.grownBy w' none := by
 have HF := hid (fun (U : World) (hU : GatesW U a c gs) => newb_calls gs a c U hU)
 have HH := hid h
 clear h
 go_enter Try.func85, Try.ntmps85
 go_wp2_with fail
 have hg1 := gAl w (.cells #[.slice a gs.length c] 30) none
 obtain ⟨W, hW⟩ : ∃ z, w.alloc (.cells #[.slice a gs.length c] 30) = z := ⟨_, rfl⟩
 rw [hW] at hg1 ⊢
 clear hW
 have HG1 := hid hg1
 refine (HF.out W (HH.out.grown hg1)).mono ?_
 rintro e w2 ⟨q, p, rfl, hp, hq, hpq, hcell, hgx, hg2⟩
 have HP := hid (And.intro hp (And.intro hq (And.intro hpq (And.intro hcell hgx))))
 have HG2 := hid (gT hg1 hg2)
 clear hg1 hg2 hp hq hpq hcell hgx
 go_wp2_with fail
 go_ret
 have hb := one_cells w2 (.pointer (some ⟨q, 0, none⟩)) (.int .i64 n) 97
 have hga := gAl w2 (.cells #[.pointer (some ⟨q, 0, none⟩), .int .i64 n] 97) none
 have hql : q < w2.heap.size := lies_lt HP.out.2.2.2.1
 have hpl : p < w2.heap.size := by obtain ⟨o, va, vc, mb, vis, g1, _, _⟩ := HP.out.2.2.2.2; exact lies_lt g1.core.c0
 have h1 := HG1.out.size
 exact ⟨w2.heap.size, q, p, rfl, Nat.le_trans h1 HP.out.1, Nat.le_trans h1 HP.out.2.1, HG2.out.size, HP.out.2.2.1, by omega, by omega, hb.2.1, hb.2.2.1, hga.cell HP.out.2.2.2.1 (by simp), HP.out.2.2.2.2.grown hga, gT HG2.out hga⟩
set_option maxRecDepth 100000

theorem cells_news {w : World} {ad : Addr} {c : Nat} {news : List Cl} (hi : CellsW w (some ad) c news) : ∀ j u, (clCells news)[j]? = some u → w.cell? (ad.add j) = some u := by
 intro j u hj
 have hlt : j < news.length * 2 := by rw [← clCells_len]; exact (List.getElem?_eq_some_iff.1 hj).1
 obtain ⟨g, hg⟩ : ∃ g, news[j / 2]? = some g := ⟨_, List.getElem?_eq_getElem (by omega)⟩
 obtain ⟨b, o, e, h0, h1⟩ := hi.at hg
 cases e
 have hadd : (⟨b, o, none⟩ : Addr).add j = ⟨b, o + j, none⟩ := by unfold Addr.add; split <;> simp_all
 obtain ⟨e0, e1⟩ := clCells_at hg
 rw [hadd]
 rcases (show j % 2 = 0 ∨ j % 2 = 1 by omega) with h | h
 ·
  rw [show j / 2 * 2 = j by omega] at e0 h0
  rw [e0] at hj; cases hj; exact h0
 ·
  rw [show j / 2 * 2 + 1 = j by omega] at e1
  rw [e1] at hj; cases hj
  rw [show o + j = o + j / 2 * 2 + 1 by omega]; exact h1
theorem cells_oneCell {news : List Cl} : ∀ u ∈ clCells news, u.oneCell' = true := by
 intro u hu
 obtain ⟨g, _, hg⟩ := List.mem_flatMap.1 hu
 simp at hg
 rcases hg with rfl | rfl <;> rfl
theorem run_append_nilC {w : World} {base n : Nat} {v : Value} {xs : List Value} (hown : w.ownsRow base 71 2 v n xs) (ty : TypeId) (c : Nat) : (Builtin.append_ #[24, 24] ty #[v, .slice none 0 c]).run Try.prog w = .ok v w := by
 obtain ⟨i0, hi, hz0, hz1, hz2⟩ := info_parts infoCl
 rcases hown.2 with ⟨rfl, rfl⟩ | ⟨g, cap, cur, rfl, _, _, hnc, _⟩
 · simp [Builtin.append_, run_underlying Try.underlying24, sizeOf, typeInfo, hi, Builtin.lenOf, Builtin.firstCells]
 · simp [Builtin.append_, run_underlying Try.underlying24, sizeOf, typeInfo, hi, Builtin.lenOf, Builtin.firstCells, hnc, storeCells]
theorem run_append_cells (base : Nat) (ty : TypeId) {v : Value} {n : Nat} {l : List Cl} {w : World} (hown : w.ownsRow base 71 2 v n (clCells l)) {xa : Option Addr} {m c : Nat} {news : List Cl} (hm : news.length = m) (hi : CellsW w xa c news)
  (h63 : n + m ≤ 100000) (hbase : base ≤ w.heap.size) :
  ∃ v' w', (Builtin.append_ #[24, 24] ty #[v, .slice xa m c]).run Try.prog w = .ok v' w' ∧ w'.ownsRow base 71 2 v' (n + m) (clCells (l ++ news)) ∧ w.grownBy w' v.ownBlock := by
 obtain ⟨i0, hi0, hz0, hz1, hz2⟩ := info_parts infoCl
 cases xa with
 | none =>
  obtain rfl : news = [] := by
   rcases hi.2 with h0 | ⟨_, _, e, _⟩
   · exact h0
   · cases e
  obtain rfl : 0 = m := hm
  exact ⟨v, w, run_append_nilC hown ty c, by rw [List.append_nil]; exact hown, grown_refl _ _⟩
 | some ad =>
  obtain ⟨v', w', hr, h2, h3, _, h5⟩ := run_append_own_at (P := Try.prog) w base 24 ty 71 i0 (.agg #[.int .i64 0, .int .i64 0]) 2 16 Try.underlying24 hi0 hz0 hz1 hz2 rfl (by decide) v n (clCells l) hown ad m c (clCells news) (by rw [clCells_len, hm]) (cells_news hi) cells_oneCell (by unfold maxLen; omega) (by omega) hbase
  exact ⟨v', w', hr, by rw [clCells_app]; exact h2, h3⟩
theorem append_cells {ops : Array Oper} {rest : List Oper} {o : Oper} {a : Act} {Q : Exit → Act → World → Prop} {w : World} (hgd : o.guard = none) (s x : Operand)
  (ho : o.op = .call { callee := .builtin .append, args := #[s, x], argTypes := #[24, 24] })
  (base : Nat) (v : Value) (n : Nat) (l : List Cl) (hs : a.eval s = v) (hown : w.ownsRow base 71 2 v n (clCells l))
  (xa : Option Addr) (m c : Nat) (news : List Cl) (hx : a.eval x = .slice xa m c) (hm : news.length = m) (hi : CellsW w xa c news)
  (h63 : n + m ≤ 100000) (hbase : base ≤ w.heap.size)
  (h : ∀ v' w', w'.ownsRow base 71 2 v' (n + m) (clCells (l ++ news)) → w.grownBy w' v.ownBlock → wpList Try.prog ops Q rest (a.put o.dst v') w') : wpList Try.prog ops Q (o :: rest) a w := by
 refine wpList_plain hgd fun K' hK' => ?_
 obtain ⟨v', w', hr, h2, h3⟩ := run_append_cells base o.type hown hm hi h63 hbase
 unfold Oper.wp execOp
 simp only [ho, resolve, invoke, builtin, Sem.run_bind, Sem.run_pure, Result.andThen_ok, List.map_toArray, List.map_cons, List.map_nil, hs, hx, hr]
 exact hK' _ _ (h v' w' h2 h3)
theorem cells_span {w : World} {B : Nat} {v : Value} {l : List Cl} (h : w.ownsRow B 71 2 v l.length (clCells l)) : ∃ a c, v = .slice a l.length c ∧ Span B w.heap.size w (fun W => CellsW W a c l) := by
 have hc := @World.ownsRow.cells w B 71 2 v l.length _ h
 rcases h.2 with ⟨hv, h0⟩ | ⟨g, cap, cur, rfl, hb, hg, hnc, hcm, _⟩
 ·
  have hl : l = [] := List.eq_nil_of_length_eq_zero h0
  subst hl
  exact ⟨none, 0, hv, Nat.le_refl _, fun W _ => ⟨Nat.le_refl _, .inl rfl⟩⟩
 ·
  have hlt := (Array.getElem?_eq_some_iff.1 hg).1
  refine ⟨_, _, rfl, Nat.le_refl _, fun W hW => ⟨hnc, .inr ⟨g, 0, rfl, fun j x hj => ?_⟩⟩⟩
  have h1 := hc (g := g) rfl (j * 2) (.int .i64 x.1) (clCells_at hj).1
  have h2 := hc (g := g) rfl (j * 2 + 1) (.int .i64 x.2) (clCells_at hj).2
  rw [add_at] at h1 h2
  refine ⟨?_, ?_⟩
  · rw [Nat.zero_add, World.cell?_of_block (hW g hb hlt)]; exact h1
  · rw [Nat.zero_add, World.cell?_of_block (hW g hb hlt)]; exact h2
set_option maxRecDepth 100000

theorem results80 (tmps : Array Value) (w : World) (b : Nat) (x y : Value) (ht : tmps.getD 6 undef = .pointer (some ⟨b, 0, none⟩)) (h0 : w.cell? ⟨b, 0, none⟩ = some x) (h1 : w.cell? ⟨b, 1, none⟩ = some y) :
  (results Try.f80 tmps).run Try.prog w = .ok (.agg #[x, y]) w := by
 have ht' : tmps[6]?.getD undef = .pointer (some ⟨b, 0, none⟩) := by simpa using ht
 simp [results, ht', go_sem, h0, h1, Result.andThen]
theorem set_two {w : World} {b : Nat} {x y u v : Value} (h0 : w.cell? ⟨b, 0, none⟩ = some u) (h1 : w.cell? ⟨b, 1, none⟩ = some v) :
  ((w.setCell ⟨b, 0, none⟩ x).setCell ⟨b, 1, none⟩ y).cell? ⟨b, 0, none⟩ = some x ∧ ((w.setCell ⟨b, 0, none⟩ x).setCell ⟨b, 1, none⟩ y).cell? ⟨b, 1, none⟩ = some y ∧ w.grownBy ((w.setCell ⟨b, 0, none⟩ x).setCell ⟨b, 1, none⟩ y) (some b) :=
 ⟨by rw [World.cell?_setCell_other _ _ _ _ (by intro e; injection e with _ e; cases e)]; exact World.cell?_setCell_same _ _ _ h0, World.cell?_setCell_same _ _ _ (by rw [World.cell?_setCell_other _ _ _ _ (by intro e; injection e with _ e; cases e)]; exact h1), gT (grown_set w b 0 x) (grown_set _ b 1 y)⟩
theorem with_calls (m : List Cl) (ar k r : Int) (a : Option Addr) (n c : Nat) (w : World) (h : CellsW w a c m) (hn : m.length = n) (hl : n ≤ 1000) :
  Calls Try.prog 80 #[.agg #[.int .i64 ar, .slice a n c], .int .i64 k, .int .i64 r] w fun e w' => ∃ a' n' c', e = .returned (.agg #[.int .i64 ar, .slice a' n' c']) ∧ (keptM m k r).length = n' ∧ CellsW w' a' c' (keptM m k r) ∧ w.grownBy w' none := by
 have hc := two_cells w (.int .i64 ar) (.slice a n c) (.int .i64 0) (.slice none 0 0) 26 26
 have hg := (gAl w (.cells #[.int .i64 ar, .slice a n c] 26) none).trans (gAl (w.alloc (.cells #[.int .i64 ar, .slice a n c] 26)) (.cells #[.int .i64 0, .slice none 0 0] 26) none)
 have hsz : ((w.alloc (.cells #[.int .i64 ar, .slice a n c] 26)).alloc (.cells #[.int .i64 0, .slice none 0 0] 26)).heap.size = w.heap.size + 2 := by simp
 have hb1 : (w.alloc (.cells #[.int .i64 ar, .slice a n c] 26)).heap.size = w.heap.size + 1 := by simp
 have hfz : ((w.alloc (.cells #[.int .i64 ar, .slice a n c] 26)).alloc (.cells #[.int .i64 0, .slice none 0 0] 26)).frozen? ⟨w.heap.size, 1, none⟩ = false := by go_simp
 obtain ⟨W, hW⟩ : ∃ W, (w.alloc (.cells #[.int .i64 ar, .slice a n c] 26)).alloc (.cells #[.int .i64 0, .slice none 0 0] 26) = W := ⟨_, rfl⟩
 rw [hW] at hc hg hsz hfz
 have HM := hid (h.grown hg)
 have HN := hid hn
 have HW := hid h
 have HG := hid (And.intro hg hsz)
 have HC := hid hc
 obtain ⟨_, c0, c1, d0, d1, f0, f1⟩ := hc
 clear h hn hg hsz
 by_cases hr : r = 1
 ·
  have e1 : (r == 1) = true := by simp [hr]
  have HR := hid (show keptM m k r = m from by unfold keptM; rw [if_pos hr])
  clear hr
  go_enter Try.func80, Try.ntmps80
  go_wp2_with fail
  have hs := set_two (x := .int .i64 ar) (y := .slice a n c) HC.out.2.2.2.1 HC.out.2.2.2.2.1
  have hgg := grown_own HG.out.1 hs.2.2 (fun x e => by cases e; exact Nat.le_succ _)
  refine bodyPost_ret (results80 _ _ (w.heap.size + 1) _ _ rfl hs.1 hs.2.1) rfl ⟨a, n, c, rfl, by rw [HR.out]; exact HN.out, ?_, hgg⟩
  rw [HR.out]
  exact HW.out.grown hgg
 ·
  have e1 : (r == 1) = false := by simp [hr]
  have HR := hid (show keptM m k r = m ++ [(k, r)] from by unfold keptM; rw [if_neg hr])
  clear hr
  have HL := hid (show clCells m = clCells m from rfl)
  have hga := gAl W (.cells #[] 71) none
  have ho := World.ownsRow_made (base := W.heap.size) (e := 71) (size := 2) W #[] 0 (Nat.le_refl _) (Nat.zero_le _) rfl
  have c1a := hga.cell c1 (by simp)
  go_enter Try.func80, Try.ntmps80
  go_wp2_with (at_builtin; refine append_cells rfl _ _ rfl W.heap.size _ 0 [] rfl ho _ _ _ m rfl HN.out (HM.out.grown hga) (by omega) hga.size ?_)
  intro v1 w1 hown1 hgw1
  obtain ⟨xa1, xc1, rfl⟩ := own_shape hown1
  have g1 : W.grownBy w1 none := grown_own hga hgw1 (fun x e => (ho.lt x e).1)
  obtain ⟨Lk, hLk⟩ : ∃ L, clCells m = L := ⟨_, rfl⟩
  have HLk := hid hLk
  rw [hLk] at hown1
  have HLL := hid (show Lk.length = n * 2 from by rw [← hLk, clCells_len, HN.out])
  have HO1 := hid hown1
  have HG1 := hid g1
  have hnew := cells_new_at w1 (k, r)
  have hz1 : W.heap.size ≤ w1.heap.size := g1.size
  have ha1 := gAl w1 (.cells #[.int .i64 k, .int .i64 r] 71) none
  obtain ⟨i0, hi0, hj0, hj1, hj2⟩ := info_parts infoCl
  clear c1a hga ho hgw1 hown1 hLk c0 c1 d0 d1 f0 f1 g1
  go_wp2_with (at_builtin; refine wpList_append_own_at _ rfl _ _ 24 rfl W.heap.size 71 i0 (.agg #[.int .i64 0, .int .i64 0]) 2 16 Try.underlying24 hi0 hj0 hj1 hj2 rfl (by decide) _ n Lk rfl (HO1.out.alloc _) ⟨w1.heap.size, 0, none⟩ 1 1 [.int .i64 k, .int .i64 r] rfl rfl hnew (fun u hu => by simp at hu; rcases hu with rfl | rfl <;> rfl) (by unfold maxLen; omega) (by omega) (by simp; omega) ?_)
  intro v' w6 hown' hgrow6 _ hat6
  obtain ⟨rgA, rcA, rfl⟩ := own_shape hown'
  have HS := hid (show w6.ownsRow W.heap.size 71 2 (.slice rgA (n + 1) rcA) (n + 1) (clCells (keptM m k r)) from by rw [HR.out, clCells_app, HLk.out]; exact hown')
  have HKL := hid (show (keptM m k r).length = n + 1 from by rw [HR.out, List.length_append, HN.out]; rfl)
  have HG6 := hid (grown_own (gT HG1.out ha1) hgrow6 (fun x e => (HO1.out.lt x e).1))
  have c0 := HG6.out.cell HC.out.2.1 (by simp)
  have c1 := HG6.out.cell HC.out.2.2.1 (by simp)
  have d0 := HG6.out.cell HC.out.2.2.2.1 (by simp)
  have d1 := HG6.out.cell HC.out.2.2.2.2.1 (by simp)
  have f0 := (grown_frozen HG6.out HC.out.1 0).trans HC.out.2.2.2.2.2.1
  have f1 := (grown_frozen HG6.out HC.out.1 1).trans HC.out.2.2.2.2.2.2
  have fz := (grown_frozen HG6.out (by have := HG.out.2; omega) 1).trans hfz
  clear hown' hgrow6 hat6 hnew ha1
  go_wp2_with fail
  have gX := grown_set w6 w.heap.size 1 (.slice rgA (n + 1) rcA)
  have hs := set_two (x := .int .i64 ar) (y := .slice rgA (n + 1) rcA) (gX.cell d0 (by simp)) (gX.cell d1 (by simp))
  have hgg := grown_own (grown_own (gT HG.out.1 HG6.out) gX (fun x e => by cases e; exact Nat.le_refl _)) hs.2.2 (fun x e => by cases e; exact Nat.le_succ _)
  have h := HS.out
  have hkl := HKL.out
  rw [← hkl] at h
  obtain ⟨a', c', e', hsp⟩ := cells_span h
  cases e'
  have hsz := HG.out.2
  have hsp2 := (hsp.off gX (fun x e => by cases e; left; omega)).off hs.2.2 (fun x e => by cases e; left; omega)
  exact bodyPost_ret (results80 _ _ (w.heap.size + 1) _ _ rfl hs.1 hs.2.1) rfl ⟨_, n + 1, _, rfl, hkl, hsp2.here, hgg⟩
set_option maxRecDepth 100000

theorem pow_le {n k : Nat} (hn : n ≤ 1000) (hk : k ≤ 6) : n ^ k ≤ 1000000000000000000 :=
 Nat.le_trans (Nat.pow_le_pow_left hn k) (Nat.le_trans (Nat.pow_le_pow_right (by omega) hk) (by decide))
theorem rpower_calls (n k : Nat) (w : World) (hn : n ≤ 1000) (hk : k ≤ 6) :
  Calls Try.prog 88 #[.int .i64 (n : Int), .int .i64 (k : Int)] w fun e w' => e = .returned (.int .i64 ((n ^ k : Nat) : Int)) ∧ w' = w := by
 go_enter Try.func88, Try.ntmps88
 go_wp2_with fail
 go_loopg [5, 6] k (fun gk s5 s6 wr => ∃ (j p : Nat), s5 = .int .i64 (p : Int) ∧ s6 = .int .i64 (j : Int) ∧ gk = k - j ∧ j ≤ k ∧ p = n ^ j ∧ wr = w)
 case atStart => exact ⟨0, 1, rfl, rfl, rfl, Nat.zero_le _, rfl, rfl⟩
 case round =>
  obtain ⟨j, p, rfl, rfl, hgk, hj, hp, rfl⟩ := hrel
  have HI := hid hgk; clear hgk
  have HP := hid hp
  by_cases hjk : j < k
  ·
   have f1 : decide (j < k) = true := decide_eq_true hjk
   have f2 : decide ((j : Int) < (k : Int)) = true := decide_eq_true (by omega)
   have hk1 : IntKind.i64.wrap ((j : Int) + 1) = ((j + 1 : Nat) : Int) := by rw [IntWalk.i64_in _ (by omega)]; omega
   obtain ⟨q, hq⟩ : ∃ q, p * n = q := ⟨_, rfl⟩
   have hq2 : q = n ^ (j + 1) := by rw [← hq, hp, Nat.pow_succ]
   have hb := pow_le hn (show j + 1 ≤ 6 by omega)
   rw [← hq2] at hb
   have hm : IntKind.i64.wrap ((p : Int) * (n : Int)) = (q : Int) := by rw [← Int.natCast_mul, hq]; exact IntWalk.i64_in _ (by omega)
   have HQ := hid hq2
   clear hq hq2 hb hp
   go_wp2_with fail
   go_roundg (k - (j + 1))
   case measure => rw [HI.out]; omega
   case rel => exact ⟨j + 1, q, rfl, rfl, rfl, by omega, HQ.out, rfl⟩
  ·
   have f1 : decide (j < k) = false := decide_eq_false hjk
   have f2 : decide ((j : Int) < (k : Int)) = false := decide_eq_false (by omega)
   have e : j = k := by omega
   have HF := hid (show n ^ k = p by rw [hp, e])
   clear hjk hp e
   go_wp2_with fail
   go_ret
   exact ⟨by rw [HF.out]; rfl, rfl⟩
theorem power_calls (s n k : Nat) (w : World) (hs : w.cell? ⟨s, 1, none⟩ = some (.int .i64 (n : Int))) (hn : n ≤ 1000) (hk : k ≤ 6) :
  Calls Try.prog 86 #[.pointer (some ⟨s, 0, none⟩), .int .i64 (k : Int)] w fun e w' => e = .returned (.int .i64 ((n ^ k : Nat) : Int)) ∧ w' = w := by
 go_enter Try.func86, Try.ntmps86
 go_wp2_with fail
 go_loopg [5, 7] k (fun gk s5 s7 wr => ∃ (j p : Nat), s5 = .int .i64 (p : Int) ∧ s7 = .int .i64 (j : Int) ∧ gk = k - j ∧ j ≤ k ∧ p = n ^ j ∧ wr = w)
 case atStart => exact ⟨0, 1, rfl, rfl, rfl, Nat.zero_le _, rfl, rfl⟩
 case round =>
  obtain ⟨j, p, rfl, rfl, hgk, hj, hp, rfl⟩ := hrel
  have HI := hid hgk; clear hgk
  have HP := hid hp
  by_cases hjk : j < k
  ·
   have f1 : decide (j < k) = true := decide_eq_true hjk
   have f2 : decide ((j : Int) < (k : Int)) = true := decide_eq_true (by omega)
   have hk1 : IntKind.i64.wrap ((j : Int) + 1) = ((j + 1 : Nat) : Int) := by rw [IntWalk.i64_in _ (by omega)]; omega
   obtain ⟨q, hq⟩ : ∃ q, p * n = q := ⟨_, rfl⟩
   have hq2 : q = n ^ (j + 1) := by rw [← hq, hp, Nat.pow_succ]
   have hb := pow_le hn (show j + 1 ≤ 6 by omega)
   rw [← hq2] at hb
   have hm : IntKind.i64.wrap ((p : Int) * (n : Int)) = (q : Int) := by rw [← Int.natCast_mul, hq]; exact IntWalk.i64_in _ (by omega)
   have HQ := hid hq2
   clear hq hq2 hb hp
   go_wp2_with fail
   go_roundg (k - (j + 1))
   case measure => rw [HI.out]; omega
   case rel => exact ⟨j + 1, q, rfl, rfl, rfl, by omega, HQ.out, rfl⟩
  ·
   have f1 : decide (j < k) = false := decide_eq_false hjk
   have f2 : decide ((j : Int) < (k : Int)) = false := decide_eq_false (by omega)
   have e : j = k := by omega
   have HF := hid (show n ^ k = p by rw [hp, e])
   clear hjk hp e
   go_wp2_with fail
   go_ret
   exact ⟨by rw [HF.out]; rfl, rfl⟩
end Go.Proofs.Ythdhmflodiincaa
namespace Go.Proofs.Ythdhmflodiincaa
open Lib (hid)
open Go.RowKit Go.Shelf

def loopy : Obj → Bool
 | .loop _ => true
 | .deferred _ => true
 | _ => false
theorem loopy_cells {o : Obj} (h : loopy o = true) : o.isCells = false := by cases o <;> simp [loopy] at h <;> rfl
def Quiet (B : Nat) (A A' : World) : Prop := ∃ row, A.grownBy A' row ∧ ∀ r, row = some r → B ≤ r ∧ ∃ o : Obj, A.heap[r]? = some o ∧ loopy o = true
theorem Quiet.less {B B' : Nat} {A A' : World} (h : Quiet B A A') (hB : B' ≤ B) : Quiet B' A A' := by
 obtain ⟨row, hg, hr⟩ := h
 exact ⟨row, hg, fun r e => ⟨Nat.le_trans hB (hr r e).1, (hr r e).2⟩⟩
theorem Quiet.of_none {B : Nat} {A A' : World} (h : A.grownBy A' none) : Quiet B A A' := ⟨none, h, fun _ e => by cases e⟩
theorem Quiet.put {B : Nat} {A : World} {r : Nat} {o : Obj} (o' : Obj) (hB : B ≤ r) (h : A.heap[r]? = some o) (ho : loopy o = true) : Quiet B A (A.putObj r o') :=
 ⟨some r, grownBy_putObj' A r o', fun k e => by cases e; exact ⟨hB, o, h, ho⟩⟩
def Saved (Safe : World → Nat → Prop) (W W' : World) : Prop := ∀ b, Safe W b → W'.heap[b]? = W.heap[b]? ∧ Safe W' b

theorem Quiet.cell {B : Nat} {W W' : World} (h : Quiet B W W') {a : Addr} {v : Value} (hc : W.cell? a = some v) : W'.cell? a = some v := by
 obtain ⟨row, hg, hr⟩ := h
 exact cell_kept hc hg (fun r e => by obtain ⟨_, o, h1, h2⟩ := hr r e; exact ⟨o, h1, loopy_cells h2⟩)
theorem Quiet.size {B : Nat} {W W' : World} (h : Quiet B W W') : W.heap.size ≤ W'.heap.size := by
 obtain ⟨row, hg, _⟩ := h
 exact hg.size

structure AbideG {α : Type} (B : Nat) (J : List α → World → Prop) (Safe : World → Nat → Prop) : Prop where
 keep : ∀ s A A', J s A → Quiet B A A' → J s A'
 safe : ∀ s A A' b, J s A → Quiet B A A' → Safe A b → Safe A' b
 fresh : ∀ s A A' b, J s A → Quiet B A A' → A.heap.size ≤ b → b < A'.heap.size → Safe A' b
theorem AbideG.less {α : Type} {B B' : Nat} {J : List α → World → Prop} {Safe : World → Nat → Prop} (h : AbideG B J Safe) (hB : B ≤ B') : AbideG B' J Safe :=
 ⟨fun s A A' hs hq => h.keep s A A' hs (hq.less hB), fun s A A' b hs hq => h.safe s A A' b hs (hq.less hB), fun s A A' b hs hq => h.fresh s A A' b hs (hq.less hB)⟩
def YesG {α : Type} (vals : α → Array Value) (F : Fence) (m : Nat) (P : Program) (l : Nat) (xs : List α) (J : List α → World → Prop) (Safe : World → Nat → Prop) : Prop :=
 ∀ pre x W, J pre W → pre ++ [x] <+: xs → YieldAt F m P l (vals x) W fun e W' => e = .returned (.bool true) ∧ J (pre ++ [x]) W' ∧ Saved Safe W W'
def GivesG {α : Type} (vals : α → Array Value) (F : Fence) (P : Program) (gf : Nat) (lb : Array Value) (caps : Nat → Prop) (xs : List α) (w : World) : Prop :=
 ∀ (n l : Nat) (J : List α → World → Prop) (Safe : World → Nat → Prop), (∀ b, caps b → Safe w b) → AbideG w.heap.size J Safe → YesG vals F (n - 1) P l xs J Safe → J [] w →
  CallsIn F n P gf (#[.func (.yield l) #[] #[]] ++ lb) w fun e W' => (∃ v, e = .returned v) ∧ J xs W'
def yesPostG {α : Type} (J : List α → World → Prop) (Safe : World → Nat → Prop) (s : List α) (W : World) : Exit → Act → World → Prop
 | .normal, _, W' => J s W' ∧ Saved Safe W W'
 | _, _, _ => False
variable {F : Fence} {n : Nat} {P : Program}
def Low (B0 : Nat) (Safe : World → Nat → Prop) (w W : World) : Prop := ∀ b, b < B0 → W.heap[b]? = w.heap[b]? ∧ Safe W b
theorem Low.saved {B0 : Nat} {Safe : World → Nat → Prop} {w W W' : World} (h : Low B0 Safe w W) (hs : Saved Safe W W') : Low B0 Safe w W' := fun b hb => by
 obtain ⟨h1, h2⟩ := h b hb
 obtain ⟨h3, h4⟩ := hs b h2
 exact ⟨h3.trans h1, h4⟩
theorem Low.grown {α : Type} {B0 Bq : Nat} {J : List α → World → Prop} {Safe : World → Nat → Prop} {w W W' : World} {s : List α} (h : Low B0 Safe w W) (hJ : AbideG Bq J Safe) (hj : J s W) (hg : W.grownBy W' none) (hB : B0 ≤ W.heap.size) : Low B0 Safe w W' := fun b hb => by
 obtain ⟨h1, h2⟩ := h b hb
 exact ⟨(hg.block b (Nat.lt_of_lt_of_le hb hB) (by simp)).trans h1, hJ.safe s W W' b hj (.of_none hg) h2⟩
theorem Low.size {B0 : Nat} {Safe : World → Nat → Prop} {w W : World} (h : Low B0 Safe w W) (hB : B0 ≤ w.heap.size) : B0 ≤ W.heap.size := by
 rcases Nat.eq_zero_or_pos B0 with h0 | h0
 · omega
 ·
  have h1 := (h (B0 - 1) (by omega)).1
  rw [Array.getElem?_eq_getElem (show B0 - 1 < w.heap.size by omega)] at h1
  have := (Array.getElem?_eq_some_iff.1 h1).1
  omega

end Go.Proofs.Ythdhmflodiincaa
namespace Go.Proofs.Ythdhmflodiincaa
open Lib (hid)
open Go.RowKit Go.Maps
set_option maxRecDepth 100000

def OwnC (p : Nat) (W : World) (k : Nat) : Prop := k = p ∨ (∃ a n c, W.cell? ⟨p, 0, none⟩ = some (.slice (some a) n c) ∧ W.cell? ⟨p, 1, none⟩ = some (.bool true) ∧ a.block = k) ∨ W.cell? ⟨p, 2, none⟩ = some (.map (some k))
def OwnB (m : Nat) (W : World) (k : Nat) : Prop := k = m ∨ ∃ v, W.cell? ⟨m, 1, none⟩ = some v ∧ v.ownBlock = some k
structure MB (m : Nat) (w : World) (ar : Int) (l : List Cl) : Prop where
 c0 : w.cell? ⟨m, 0, none⟩ = some (.int .i64 ar)
 row : ∃ a c, w.cell? ⟨m, 1, none⟩ = some (.slice a l.length c) ∧ w.ownsRow (m + 1) 71 2 (.slice a l.length c) l.length (clCells l)
 fr : ∀ o, w.frozen? ⟨m, o, none⟩ = false
theorem Grw.own {p : Nat} {w : World} {owned : Bool} {va : Option Addr} {vc : Nat} {gs : List Gt} {mb : Option Nat} {vis : Int} (h : Grw p w owned va vc gs mb vis) (k : Nat) : OwnC p w k ↔ mine p owned va mb k := by
 constructor
 ·
  rintro (e | ⟨a, n, c, e0, e1, e2⟩ | e)
  · exact .inl e
  ·
   have h0 := h.c0
   have h1 := h.c1
   rw [h0] at e0
   rw [h1] at e1
   injection e0 with e0
   injection e0 with e0 _ _
   injection e1 with e1
   injection e1 with e1
   exact .inr (.inl ⟨e1, a, e0, e2⟩)
  ·
   have h2 := h.c2
   rw [h2] at e
   injection e with e
   injection e with e
   exact .inr (.inr e)
 ·
  rintro (e | ⟨e, a, e1, e2⟩ | e)
  · exact .inl e
  ·
   subst e e1
   exact .inr (.inl ⟨a, _, _, h.c0, h.c1, e2⟩)
  ·
   subst e
   exact .inr (.inr h.c2)
theorem GX.own {p : Nat} {M : Nat → Prop} {w : World} {gs : List Gt} {hi : Int} (h : GX p M w gs hi) : GX p (OwnC p w) w gs hi := by
 obtain ⟨o, a, c, b, v, h1, h2, _⟩ := h
 exact ⟨o, a, c, b, v, h1, h2, fun k hk => (h1.own k).2 hk⟩
theorem GX.own_in {p : Nat} {M : Nat → Prop} {w : World} {gs : List Gt} {hi : Int} (h : GX p M w gs hi) {k : Nat} (hk : OwnC p w k) : M k := by
 obtain ⟨o, a, c, b, v, h1, _, h3⟩ := h
 exact h3 k ((h1.own k).1 hk)
theorem GX.p_lt {p : Nat} {M : Nat → Prop} {w : World} {gs : List Gt} {hi : Int} (h : GX p M w gs hi) : p < w.heap.size := by
 obtain ⟨o, a, c, b, v, h1, _⟩ := h
 exact lies_lt h1.c0
theorem GX.own_lt {p : Nat} {M : Nat → Prop} {w : World} {gs : List Gt} {hi : Int} (h : GX p M w gs hi) {k : Nat} (hk : OwnC p w k) : p ≤ k ∧ k < w.heap.size := by
 have hp := h.p_lt
 obtain ⟨o, a, c, b, v, h1, _, _⟩ := h
 rcases (h1.own k).1 hk with e | ⟨e, x, e1, e2⟩ | e
 · omega
 ·
  have hr := h1.row
  unfold GRow at hr
  rw [e] at hr
  simp only [if_true] at hr
  have := hr.lt k (by rw [e1]; exact congrArg some e2)
  omega
 ·
  have h2 := h1.ix k e
  obtain ⟨D, ⟨es, clock, hb, _⟩, _⟩ := h2.2
  exact ⟨by omega, (Array.getElem?_eq_some_iff.1 hb).1⟩
theorem GX.own_kept {p : Nat} {M : Nat → Prop} {w w' : World} {gs : List Gt} {hi : Int} (h : GX p M w gs hi) (hc : ∀ o v, w.cell? ⟨p, o, none⟩ = some v → w'.cell? ⟨p, o, none⟩ = some v) {k : Nat} (hk : OwnC p w' k) : OwnC p w k := by
 obtain ⟨o, a, c, b, v, h1, _, _⟩ := h
 have c0 := hc _ _ h1.c0
 have c1 := hc _ _ h1.c1
 have c2 := hc _ _ h1.c2
 unfold OwnC at hk ⊢
 rw [c0, c1, c2] at hk
 rw [h1.c0, h1.c1, h1.c2]
 exact hk
theorem MB.lt {m : Nat} {w : World} {ar : Int} {l : List Cl} (h : MB m w ar l) : m < w.heap.size := lies_lt h.c0
theorem MB.own_lt {m : Nat} {w : World} {ar : Int} {l : List Cl} (h : MB m w ar l) {k : Nat} (hk : OwnB m w k) : m ≤ k ∧ k < w.heap.size := by
 have hm := h.lt
 obtain ⟨a, c, h1, h2⟩ := h.row
 rcases hk with e | ⟨v, e, e2⟩
 · omega
 ·
  rw [h1] at e
  cases e
  have := h2.lt k e2
  omega
theorem MB.own_kept {m : Nat} {w w' : World} {ar : Int} {l : List Cl} (h : MB m w ar l) (hc : ∀ o v, w.cell? ⟨m, o, none⟩ = some v → w'.cell? ⟨m, o, none⟩ = some v) {k : Nat} : OwnB m w' k ↔ OwnB m w k := by
 obtain ⟨a, c, h1, h2⟩ := h.row
 have c1 := hc _ _ h1
 unfold OwnB
 rw [c1, h1]
theorem MB.off {m : Nat} {w w' : World} {M : Nat → Prop} {ar : Int} {l : List Cl} (h : MB m w ar l) (ho : Off M w w') (hm : ∀ k, OwnB m w k → ¬ M k) : MB m w' ar l := by
 obtain ⟨a, c, h1, h2⟩ := h.row
 have h0 := hm m (.inl rfl)
 exact ⟨ho.cell h.c0 h0, ⟨a, c, ho.cell h1 h0, ho.row h2 (fun b e => hm b (.inr ⟨_, h1, e⟩))⟩, fun o => (ho.frozen h.lt h0 o).trans (h.fr o)⟩
theorem Off.cells {M : Nat → Prop} {w w' : World} (h : Off M w w') {b : Nat} (hb : ¬ M b) : ∀ o v, w.cell? ⟨b, o, none⟩ = some v → w'.cell? ⟨b, o, none⟩ = some v := fun _ _ hc => h.cell hc hb
theorem Off.at_ {M : Nat → Prop} {w w' : World} (h : Off M w w') {b : Nat} (hb : b < w.heap.size) (hm : ¬ M b) : w'.heap[b]? = w.heap[b]? := h.block b hb hm
structure MSt (W0 : World) (p q m : Nat) (ar : Int) (g : List Gt) (l : List Cl) (W : World) : Prop where
 gx : ∃ hi, GX p (OwnC p W) W g hi
 q0 : W.cell? ⟨q, 0, none⟩ = some (.pointer (some ⟨p, 0, none⟩))
 mb : MB m W ar l
 grown : W0.grownBy W none
 low : W0.heap.size ≤ p ∧ p < m ∧ W0.heap.size ≤ q
 apart : ∀ k, OwnC p W k → ¬ OwnB m W k
 nq : ¬ OwnC p W q ∧ ¬ OwnB m W q
def SafeM (p m : Nat) (W : World) (b : Nat) : Prop := b < W.heap.size ∧ ¬ OwnC p W b ∧ ¬ OwnB m W b
theorem MSt.step {W0 W W' : World} {p q m : Nat} {ar : Int} {g g' : List Gt} {l : List Cl} (h : MSt W0 p q m ar g l W) {hi : Int} (hx : GX p (fun k => OwnC p W k ∨ W.heap.size ≤ k) W' g' hi) (ho : Off (OwnC p W) W W') :
  MSt W0 p q m ar g' l W' ∧ Saved (SafeM p m) W W' := by
 have hmb : MB m W' ar l := h.mb.off ho (fun k hk hc => h.apart k hc hk)
 have hob : ∀ {k}, OwnB m W' k ↔ OwnB m W k := fun {k} => h.mb.own_kept (ho.cells (fun e => h.apart m e (.inl rfl)))
 have hoc : ∀ k, OwnC p W' k → OwnC p W k ∨ W.heap.size ≤ k := fun k hk => hx.own_in hk
 have hq : q < W.heap.size := lies_lt h.q0
 obtain ⟨hi0, hg0⟩ := h.gx
 refine ⟨⟨⟨hi, hx.own⟩, ho.cell h.q0 h.nq.1, hmb, ?_, h.low, fun k hk hb => ?_, fun e => ?_, fun e => h.nq.2 (hob.1 e)⟩, fun b hb => ⟨ho.at_ hb.1 hb.2.1, Nat.lt_of_lt_of_le hb.1 ho.size, fun e => ?_, fun e => hb.2.2 (hob.1 e)⟩⟩
 · exact ho.grown h.grown (fun k hk => Nat.le_trans h.low.1 (hg0.own_lt hk).1)
 ·
  rcases hoc k hk with h1 | h1
  · exact h.apart k h1 (hob.1 hb)
  · have := (h.mb.own_lt (hob.1 hb)).2; omega
 ·
  rcases hoc q e with h1 | h1
  · exact h.nq.1 h1
  · omega
 ·
  rcases hoc b e with h1 | h1
  · exact hb.2.1 h1
  · have := hb.1; omega
theorem MSt.kept {W0 W W' : World} {p q m : Nat} {ar : Int} {g : List Gt} {l l' : List Cl} (h : MSt W0 p q m ar g l W) {a a' : Option Addr} {c c' n' : Nat} (hc : W.cell? ⟨m, 1, none⟩ = some (.slice a l.length c)) (hn : l'.length = n')
    (hg : W.grownBy W' (Value.slice a l.length c).ownBlock) (hown : W'.ownsRow (m + 1) 71 2 (.slice a' n' c') n' (clCells l')) (hat : ∀ b, (Value.slice a' n' c').ownBlock = some b → (Value.slice a l.length c).ownBlock = some b ∨ W.heap.size ≤ b) :
    MSt W0 p q m ar g l' (W'.setCell ⟨m, 1, none⟩ (.slice a' n' c')) ∧ Saved (SafeM p m) W (W'.setCell ⟨m, 1, none⟩ (.slice a' n' c')) := by
  subst hn
  obtain ⟨hi, hx⟩ := h.gx
  have hm := h.mb.lt
  have hrow : ∀ b, (Value.slice a l.length c).ownBlock = some b → OwnB m W b := fun b e => .inr ⟨_, hc, e⟩
  have hmr : ∀ b, (Value.slice a l.length c).ownBlock = some b → m < b := fun b e => by
    obtain ⟨a1, c1, h1, h2⟩ := h.mb.row
    rw [hc] at h1
    injection h1 with h1
    rw [← h1] at h2
    exact (h2.lt b e).1
  have h1 : Off (OwnB m W) W W' := Off.of hg hrow
  have hcm : W'.cell? ⟨m, 1, none⟩ = some (.slice a l.length c) := hg.cell hc (fun e => by have := hmr m e.symm; omega)
  have hcm0 : W'.cell? ⟨m, 0, none⟩ = some (.int .i64 ar) := hg.cell h.mb.c0 (fun e => by have := hmr m e.symm; omega)
  have h2 : Off (OwnB m W) W' (W'.setCell ⟨m, 1, none⟩ (.slice a' l'.length c')) := Off.of (grown_set W' m 1 _) (fun k e => by cases e; exact .inl rfl)
  have ho : Off (OwnB m W) W (W'.setCell ⟨m, 1, none⟩ (.slice a' l'.length c')) := h1.trans h2 (fun k _ e => e)
  have hkc : ∀ o v, W.cell? ⟨p, o, none⟩ = some v → (W'.setCell ⟨m, 1, none⟩ (.slice a' l'.length c')).cell? ⟨p, o, none⟩ = some v := ho.cells (fun e => h.apart p (.inl rfl) e)
  have hnew : (W'.setCell ⟨m, 1, none⟩ (.slice a' l'.length c')).cell? ⟨m, 1, none⟩ = some (.slice a' l'.length c') := World.cell?_setCell_same _ _ _ hcm
  have hb' : ∀ k, OwnB m (W'.setCell ⟨m, 1, none⟩ (.slice a' l'.length c')) k → OwnB m W k ∨ W.heap.size ≤ k := fun k hk => by
    rcases hk with e | ⟨v, e, e2⟩
    · exact .inl (.inl e)
    · rw [hnew] at e
      injection e with e
      rw [← e] at e2
      rcases hat k e2 with e3 | e3
      · exact .inl (hrow k e3)
      · exact .inr e3
  have hgx : GX p (OwnC p W) (W'.setCell ⟨m, 1, none⟩ (.slice a' l'.length c')) g hi := by
    obtain ⟨o, va, vc, mb, vis, g1, g2, g3⟩ := hx
    have f1 : Grw p W' o va vc g mb vis := by
      have hp : some p ≠ (Value.slice a l.length c).ownBlock := fun e => h.apart p (.inl rfl) (hrow p e.symm)
      refine ⟨hg.cell g1.c0 hp, hg.cell g1.c1 hp, hg.cell g1.c2 hp, hg.cell g1.c3 hp, fun o' => (World.frozen?_of_block (a := ⟨p, o', none⟩) (hg.block p (lies_lt g1.c0) hp)).trans (g1.fr o'), ?_, fun b e => ⟨(g1.ix b e).1, (g1.ix b e).2.kept hg (fun e2 => h.apart b ((g1.own b).2 (.inr (.inr e))) (hrow b e2.symm))⟩⟩
      exact g1.row.far hg (fun b e => ⟨by have := hmr b e; have := h.low; omega, fun e2 => h.apart b ((g1.own b).2 (.inr (.inl e2))) (hrow b e)⟩)
    have hp2 : some p ≠ some m := fun e => by cases e; exact h.apart p (.inl rfl) (.inl rfl)
    have hgs := grown_set W' m 1 (.slice a' l'.length c')
    have f2 : Grw p (W'.setCell ⟨m, 1, none⟩ (.slice a' l'.length c')) o va vc g mb vis := by
      refine ⟨hgs.cell f1.c0 hp2, hgs.cell f1.c1 hp2, hgs.cell f1.c2 hp2, hgs.cell f1.c3 hp2, fun o' => (World.frozen?_of_block (a := ⟨p, o', none⟩) (hgs.block p (lies_lt f1.c0) hp2)).trans (f1.fr o'), ?_, fun b e => ⟨(f1.ix b e).1, (f1.ix b e).2.kept hgs (fun e2 => by injection e2 with e2; subst e2; exact h.apart b ((g1.own b).2 (.inr (.inr e))) (.inl rfl))⟩⟩
      exact f1.row.far hgs (fun b e => by cases e; exact ⟨by have := h.low; omega, fun e2 => h.apart m ((g1.own m).2 (.inr (.inl e2))) (.inl rfl)⟩)
    exact ⟨o, va, vc, mb, vis, f2, g2, g3⟩
  have hoc : ∀ k, OwnC p (W'.setCell ⟨m, 1, none⟩ (.slice a' l'.length c')) k → OwnC p W k := fun k hk => hx.own_kept hkc hk
  refine ⟨⟨⟨hi, hgx.own⟩, ho.cell h.q0 h.nq.2, ⟨?_, ⟨a', c', hnew, ?_⟩, fun o => ?_⟩, ?_, h.low, fun k hk hb => ?_, fun e => h.nq.1 (hoc q e), fun e => ?_⟩, fun b hb => ⟨ho.at_ hb.1 hb.2.2, Nat.lt_of_lt_of_le hb.1 ho.size, fun e => hb.2.1 (hoc b e), fun e => ?_⟩⟩
  · rw [World.cell?_setCell_other _ _ _ _ (by intro e; injection e with _ e; cases e)]; exact hcm0
  · exact hown.kept (grown_set W' m 1 _) (by
      cases hv : (Value.slice a' l'.length c').ownBlock with
      | none => exact .inl rfl
      | some b => exact .inr (fun e => by injection e with e; have := (hown.lt b hv).1; omega))
  · rw [World.frozen?_setCell]
    have e : W'.frozen? ⟨m, o, none⟩ = W.frozen? ⟨m, o, none⟩ := World.frozen?_of_block (a := ⟨m, o, none⟩) (hg.block m hm (fun e => by have := hmr m e.symm; omega))
    rw [e]
    exact h.mb.fr o
  · exact ho.grown h.grown (fun k hk => by have := (h.mb.own_lt hk).1; have := h.low; omega)
  · rcases hb' k hb with h3 | h3
    · exact h.apart k (hoc k hk) h3
    · have := (hx.own_lt (hoc k hk)).2; omega
  · rcases hb' q e with h3 | h3
    · exact h.nq.2 h3
    · have : q < W.heap.size := lies_lt h.q0
      omega
  · rcases hb' b e with h3 | h3
    · exact hb.2.2 h3
    · have := hb.1; omega
theorem msafe_keep {W0 : World} {p q m : Nat} {ar : Int} {g : List Gt} {l : List Cl} {A A' : World} {B : Nat} (h : MSt W0 p q m ar g l A) (hq : Quiet B A A') (hB : p ≤ B) : MSt W0 p q m ar g l A' ∧ (∀ b, SafeM p m A b → SafeM p m A' b) ∧ ∀ b, A.heap.size ≤ b → b < A'.heap.size → SafeM p m A' b := by
 have hc : ∀ {a : Addr} {v : Value}, A.cell? a = some v → A'.cell? a = some v := fun h => hq.cell h
 have hob : ∀ {k}, OwnB m A' k ↔ OwnB m A k := fun {k} => h.mb.own_kept (fun o v hv => hc hv)
 obtain ⟨hi, hx⟩ := h.gx
 have hoc : ∀ {k}, OwnC p A' k → OwnC p A k := fun {k} hk => hx.own_kept (fun o v hv => hc hv) hk
 obtain ⟨row, hgr, hrow⟩ := hq
 have hnc : ∀ r, row = some r → ∀ v o, A.cell? ⟨r, o, none⟩ ≠ some v := fun r e v o hv => by
  obtain ⟨_, ob, h1, h2⟩ := hrow r e
  unfold World.cell? at hv
  rw [h1] at hv
  cases ob <;> simp [loopy] at h2 hv
 have hmb : MB m A' ar l := by
  obtain ⟨a, c, h1, h2⟩ := h.mb.row
  refine ⟨hc h.mb.c0, ⟨a, c, hc h1, h2.kept hgr ?_⟩, fun o => ?_⟩
  ·
   cases hv : (Value.slice a l.length c).ownBlock with
   | none => exact .inl rfl
   | some b =>
    refine .inr (fun e => ?_)
    obtain ⟨_, ob, h3, h4⟩ := hrow b e.symm
    rcases h2.2 with ⟨h5, _⟩ | ⟨g', cap, cur, h5, _, h6, _⟩
    · rw [h5] at hv; cases hv
    ·
     rw [h5] at hv
     injection hv with hv
     have hv' : g' = b := hv
     subst hv'
     rw [h6] at h3
     injection h3 with h3
     subst h3
     cases h4
  ·
   have hne : some m ≠ row := fun e => hnc m e.symm _ 0 h.mb.c0
   have e : A'.frozen? ⟨m, o, none⟩ = A.frozen? ⟨m, o, none⟩ := World.frozen?_of_block (a := ⟨m, o, none⟩) (hgr.block m h.mb.lt hne)
   rw [e]
   exact h.mb.fr o
 have hgx : GX p (OwnC p A) A' g hi := by
  obtain ⟨o, va, vc, mb, vis, g1, g2, g3⟩ := hx
  have hp : some p ≠ row := fun e => hnc p e.symm _ 0 g1.c0
  refine ⟨o, va, vc, mb, vis, ⟨hc g1.c0, hc g1.c1, hc g1.c2, hc g1.c3, fun o' => (World.frozen?_of_block (a := ⟨p, o', none⟩) (hgr.block p (lies_lt g1.c0) hp)).trans (g1.fr o'), ?_, ?_⟩, g2, g3⟩
  ·
   refine g1.row.far hgr (fun r e => ⟨Nat.le_trans hB (hrow r e).1, ?_⟩)
   rintro ⟨rfl, x, rfl, e2⟩
   obtain ⟨_, ob, h3, h4⟩ := hrow r e
   have hr := g1.row
   unfold GRow at hr
   simp only [if_true] at hr
   rcases hr.2 with ⟨h5, _⟩ | ⟨g', cap, cur, h5, _, h6, _⟩
   · cases h5
   ·
    injection h5 with h5 _ _
    injection h5 with h5
    rw [h5] at e2
    have hv' : g' = r := e2
    subst hv'
    rw [h6] at h3
    injection h3 with h3
    subst h3
    cases h4
  ·
   intro b e
   refine ⟨(g1.ix b e).1, (g1.ix b e).2.kept hgr (fun e2 => ?_)⟩
   obtain ⟨_, ob, h3, h4⟩ := hrow b e2.symm
   obtain ⟨D, ⟨es, clock, hb, _⟩, _⟩ := (g1.ix b e).2
   rw [hb] at h3
   injection h3 with h3
   subst h3
   cases h4
 refine ⟨⟨⟨hi, hgx.own⟩, hc h.q0, hmb, ?_, h.low, fun k hk hb => h.apart k (hoc hk) (hob.1 hb), fun e => h.nq.1 (hoc e), fun e => h.nq.2 (hob.1 e)⟩, fun b hb => ⟨Nat.lt_of_lt_of_le hb.1 hgr.size, fun e => hb.2.1 (hoc e), fun e => hb.2.2 (hob.1 e)⟩, fun b h1 h2 => ⟨h2, fun e => ?_, fun e => ?_⟩⟩
 · exact grown_own h.grown hgr (fun r e => by have := (hrow r e).1; have := h.low; omega)
 · have := (hx.own_lt (hoc e)).2; omega
 · have := (h.mb.own_lt (hob.1 e)).2; omega
end Go.Proofs.Ythdhmflodiincaa
namespace Go.Proofs.Ythdhmflodiincaa
open Lib (hid)
open Go.RowKit

theorem wpOpIn_of {l n : Nat} {P : Program} {ops : Array Oper} {Q : Exit → Act → World → Prop} {i : Nat} {K K' : Act → World → Prop} {a : Act} {w : World} (hd : ∀ (j : Nat) (o : Oper), ops[j]? = some o → ∀ c, o.op ≠ .defer c) (hout : ¬ LetsOut Q) (hK : ∀ a w, K a w → K' a w) (h : wpOp P ops Q i K a w) :
    wpOpIn (Fence.wide.inRound l) n P ops Q i K' a w := by
  unfold wpOp at h
  unfold wpOpIn
  split
  · rename_i hi
    rw [hi] at h
    exact hK _ _ h
  · rename_i o ho
    rw [ho] at h
    simp only at h
    split
    · rename_i hw
      rw [if_pos hw] at h
      rcases h with h | h
      · refine ⟨fun _ _ => trivial, ?_⟩
        rw [Oper.semAt_eq _ _ _ (hd i o ho)]
        unfold Oper.wp at h
        generalize (execOp a.eval o).run P w = r at h ⊢
        cases r with
        | ok x w' =>
          cases x with
          | value v => exact hK _ _ h
          | skip => exact hK _ _ h
          | defer d => exact hK _ _ h
          | enter f args =>
            refine ⟨fun e => (by cases e), CallsIn.inRound l (callsIn_wide.2 (Calls.mono h fun e w'' he => ?_))⟩
            cases e with
            | returned v => exact hK _ _ he
            | panicked c => exact he
            | outgrown => exact he
          | row r args =>
            refine ⟨fun e => (by cases e), ?_⟩
            exact fun c cs _ => by
              obtain ⟨v, w2, hr, hs⟩ := h c cs
              exact ⟨v, w2, hK _ _ hr, (stepsIn_wide).2 hs⟩
          | _ => exact h.elim
        | halt x w' =>
          cases x with
          | panic u => exact h
          | _ => exact h.elim
      · exact absurd h.2 hout
    · rename_i hw
      rw [if_neg hw] at h
      exact ⟨fun _ _ => trivial, hK _ _ h⟩
theorem wpAnyIn_of {l n : Nat} {P : Program} {md : Region.Mode} {ops : Array Oper} {Q : Exit → Act → World → Prop} (hd : ∀ (j : Nat) (o : Oper), ops[j]? = some o → ∀ c, o.op ≠ .defer c) (hout : ¬ LetsOut Q) :
  ∀ (fuel : Nat) (listed : Array Bool) (a : Act) (w : World), wpAny P md ops Q fuel listed a w → wpAnyIn (Fence.wide.inRound l) n P md ops Q fuel listed a w
 | 0, _, _, _, h => h
 | fuel + 1, _, _, _, h => ⟨h.1, fun i hi => wpOpIn_of hd hout (fun a' w' h' => wpAnyIn_of hd hout fuel _ a' w' h') (h.2 i hi)⟩
def noDefer (ops : Array Oper) : Bool := ops.toList.all fun o => match o.op with | .defer _ => false | _ => true
theorem noDefer_spec {ops : Array Oper} (h : noDefer ops = true) : ∀ (j : Nat) (o : Oper), ops[j]? = some o → ∀ c, o.op ≠ .defer c := by
 intro j o ho c e
 have h1 := List.all_eq_true.1 h o (by rw [← Array.getElem?_toList] at ho; exact List.mem_of_getElem? ho)
 rw [e] at h1
 cases h1
theorem wpIn_region_held_round {l n : Nat} {P : Program} {id : Nat} {ops : Array Oper} {Q : Exit → Act → World → Prop} {S : World → Prop} {a : Act} {w : World} (hm : P.follows .mixedOrders = true) (hd : noDefer ops = true) (hout : ¬ LetsOut Q) (hS : S w.drew)
  (h : S w.drew → wpAnyH P .any ops Q S ops.size (Array.replicate ops.size false) a w.drew) : (Code.region id ops true).wpIn (Fence.wide.inRound l) n P Q a w :=
 wpIn_region_any hm (wpAnyIn_of (noDefer_spec hd) hout _ _ _ _ (wpAny_of_held _ _ _ _ (h hS)))
end Go.Proofs.Ythdhmflodiincaa

/- Stage 20, joined: Y1, Y4, T1, Z2, Z3, T2, Z1, T3, L0. -/
import Derived.Test.YthkemajekkilmaaGA07
import Derived.Test.YthkemajekkilmaaGA00
import Derived.Test.YthkemajekkilmaaGA06
/- Reasons. -/
namespace Go.Proofs.Ythkemajekkilmaa
open Go.RowKit
theorem info34 : (Try.prog.info? 34).map (fun i => (i.zero, i.size, i.bytes)) = some (some (.agg #[.int .i64 0, .int .i64 0]), 2, 16) := by kernel_rfl
theorem cell_two_new' (w : World) (a b : Value) (t : TypeId) : ∀ j u, [a, b][j]? = some u → (w.alloc (.cells #[a, b] t)).cell? ((⟨w.heap.size, 0, none⟩ : Addr).add j) = some u := by
  intro j u hj
  match j, hj with
  | 0, hj => simp at hj; subst hj; rw [add_at]; go_simp
  | 1, hj => simp at hj; subst hj; rw [add_at]; go_simp
  | j + 2, hj => simp at hj
theorem own_lower {w : World} {B B' n size : Nat} {e : TypeId} {v : Value} {xs : List Value} (h : w.ownsRow B e size v n xs) (hB : B' ≤ B) : w.ownsRow B' e size v n xs := by
  refine ⟨h.1, ?_⟩
  rcases h.2 with h1 | ⟨g, cap, cur, e, hb, rest⟩
  · exact .inl h1
  · exact .inr ⟨g, cap, cur, e, Nat.le_trans hB hb, rest⟩
/-- Pairs of a literal and a clause's number, as cells. -/
def prC (l : List (Int × Int)) : List Value := l.flatMap fun p => [Value.int .i64 p.1, Value.int .i64 p.2]
theorem prC_snoc (l : List (Int × Int)) (p : Int × Int) : prC (l ++ [p]) = prC l ++ [Value.int .i64 p.1, Value.int .i64 p.2] := by unfold prC; rw [List.flatMap_append]; simp
def reasP (V : Nat) (C : List (List Int)) (A : List Int) : List (Int × Int) := (impP V C A).zip (propP V C A).2.2.1
theorem steps_len {C : List (List Int)} : ∀ (l qs tr : List Int), Steps C tr l qs → l.length = qs.length
  | [], [], _, _ => rfl
  | [], _ :: _, _, h => by cases h
  | _ :: _, [], _, h => by cases h
  | x :: l, q :: qs, tr, h => by
    have := steps_len l qs (tr ++ [x]) h.2
    simp [this]
theorem imp_len {V : Nat} {C : List (List Int)} (hR : Ran V C) (A : List Int) : (impP V C A).length = (propP V C A).2.2.1.length := by
  unfold impP
  cases h : contraP A with
  | true => rw [propP_contra h]; rfl
  | false =>
    obtain ⟨l, qs, k, e, hs, _⟩ := propP_spec hR h
    rw [e]
    simp only [List.drop_left]
    exact steps_len l qs _ hs
set_option maxHeartbeats 16000000 in
set_option maxRecDepth 100000 in
theorem reasons_calls (V : Nat) (C : List (List Int)) (ca : Option Addr) (cc : Nat) (A : List Int) (aa : Option Addr) (ac : Nat) (w : World) (h : ClsW w ca cc C) (hV : V ≤ 40) (hC : C.length ≤ 1000) (hL : ∀ c ∈ C, c.length ≤ 100) (hR : Ran V C)
    (hA : IntsW w aa ac A) (hAl : A.length ≤ 10000) (hAr : ∀ x ∈ A, InR V x) (hn : (impP V C A).length ≤ 100000) :
    Calls Try.prog 15 #[.agg #[.int .i64 (V : Int), .slice ca C.length cc], .slice aa A.length ac] w fun e w' => ∃ a c, e = .returned (.slice a (reasP V C A).length c) ∧ w'.ownsRow w.heap.size 34 2 (.slice a (reasP V C A).length c) (reasP V C A).length (prC (reasP V C A)) ∧ w.grownBy w' none := by
  obtain ⟨cn, hcn⟩ : ∃ n, C.length = n := ⟨_, rfl⟩
  obtain ⟨an, han⟩ : ∃ n, A.length = n := ⟨_, rfl⟩
  obtain ⟨W1, hW1⟩ : ∃ z, w.alloc (.cells #[.int .i64 (V : Int), .slice ca cn cc] 24) = z := ⟨_, rfl⟩
  obtain ⟨q0, q1, hg1⟩ := box_at w _ _ hW1
  obtain ⟨bf, hbf⟩ : ∃ z, w.heap.size = z := ⟨_, rfl⟩
  rw [hbf] at q0 q1
  have HP := Lib.hid (propagated_calls V C ca cc A aa ac W1 (h.grown hg1) hV hC hL hR (hA.grown hg1) hAl hAr)
  have HG := Lib.hid hg1
  rw [hcn, han] at HP
  rw [hcn, han]
  have HN := Lib.hid (And.intro (propP_len V C A) (And.intro (imp_len hR A) hn))
  obtain ⟨RP, hRP⟩ : ∃ z, reasP V C A = z := ⟨_, rfl⟩
  rw [hRP]
  have HRP := Lib.hid hRP
  have HB := Lib.hid hbf
  obtain ⟨i0, hi0, hz0, hz1, hz2⟩ := info_parts info34
  clear h hC hL hR hA hAl hAr hg1 hn hcn han hRP
  go_enter Try.func15, Try.ntmps15
  go_wp2_with fail
  refine HP.out.mono ?_
  rintro e w2 ⟨p, rfl, hpr, hg2⟩
  clear HP q0 q1 hW1
  obtain ⟨a, c, f2, hrow⟩ := hpr.f2
  obtain ⟨a4, c4, f4, hrow4⟩ := hpr.f4
  have f3 := hpr.f3
  obtain ⟨n, hnn⟩ : ∃ n, (propP V C A).1.length = n := ⟨_, rfl⟩
  obtain ⟨ns, hns⟩ : ∃ n, (propP V C A).2.1 = n := ⟨_, rfl⟩
  obtain ⟨rs, hrs⟩ : ∃ n, (propP V C A).2.2.1 = n := ⟨_, rfl⟩
  obtain ⟨im, him⟩ : ∃ n, impP V C A = n := ⟨_, rfl⟩
  have HLE := HN.out.1
  rw [hns, hnn] at HLE
  rw [hnn] at f2
  rw [hns] at f3
  rw [hrs] at f4 hrow4
  have hle := irow_le hrow
  rw [hnn] at hle
  have HI := Lib.hid (implied_calls f2 f3 HLE hle)
  have hT : IntsW w2 (if c = ns then a else a.map (fun x => x.add ns)) (c - ns) im := by rw [← him]; unfold impP; rw [hns]; exact irow_tail hrow ns (by rw [hnn]; exact HLE)
  have HE : Hid (im.length = n - ns ∧ rs.length = n - ns ∧ im.length ≤ 100000 ∧ RP = im.zip rs) := Lib.hid (by
    have e1 : im.length = n - ns := by rw [← him]; unfold impP; rw [List.length_drop, hnn, hns]
    refine ⟨e1, ?_, by rw [← him]; exact HN.out.2.2, by rw [← HRP.out]; unfold reasP; rw [him, hrs]⟩
    have := HN.out.2.1
    rw [him, hrs] at this
    omega)
  have HG2 := Lib.hid (And.intro (World.grownBy.trans HG.out hg2) hpr.low)
  obtain ⟨v, hv⟩ : ∃ v, (if c = ns then a else a.map (fun x => x.add ns)) = v := ⟨_, rfl⟩
  rw [hv] at HI hT
  have HT := Lib.hid (And.intro hT (And.intro (irow_ints hrow4) f4))
  clear hv hrow hrow4 hpr hg2 hnn hns hrs him f2 f3 hT
  obtain ⟨m, hm⟩ : ∃ z, n - ns = z := ⟨_, rfl⟩
  obtain ⟨cv, hcv⟩ : ∃ z, c - ns = z := ⟨_, rfl⟩
  rw [hm] at HE
  rw [HE.out.2.1] at HT f4
  rw [hm, hcv] at HI
  rw [hcv] at HT
  clear hm hcv HLE hle
  go_wp2_with fail
  refine HI.out.mono ?_
  rintro e w3 ⟨rfl, ⟨dr, rfl⟩⟩
  clear HI
  go_wp2_with fail
  clear f4
  go_loopg [6, 7, 8, 15] m (fun gk s6 _s7 _s8 s15 wr => ∃ (k : Nat) (a : Option Addr) (c : Nat), s6 = .slice a k c ∧ s15 = .int .i64 (k : Int) ∧ gk = m - k ∧ k ≤ m ∧ w2.grownBy wr none ∧ wr.ownsRow w2.heap.size 34 2 (.slice a k c) k (prC (RP.take k)))
  case atStart => exact ⟨0, none, 0, rfl, rfl, rfl, by omega, grown_drewN _ _ _, by simp [prC], .inl ⟨rfl, rfl⟩⟩
  case round =>
    obtain ⟨k, ra, rc, rfl, rfl, hgk, hk, hg, hown⟩ := hrel
    have HJ := Lib.hid (And.intro hgk (And.intro hg hown))
    have hm0 : m ≤ 100000 := by have h1 := HE.out.1; have h2 := HE.out.2.2.1; omega
    by_cases hkn : k < m
    · have f1 : decide ((k : Int) < (m : Int)) = true := decide_eq_true (by omega)
      have f1' : decide (k < m) = true := decide_eq_true hkn
      have j0 : (0 : Int) ≤ (k : Int) := by omega
      have j1 : (k : Int) < (m : Int) := by omega
      have k1 : IntKind.i64.wrap ((k : Int) + 1) = (k : Int) + 1 := IntWalk.i64_in _ (by omega)
      obtain ⟨x, hx⟩ : ∃ x, im[k]? = some x := ⟨_, List.getElem?_eq_getElem (by rw [HE.out.1]; exact hkn)⟩
      obtain ⟨y, hy⟩ : ∃ y, rs[k]? = some y := ⟨_, List.getElem?_eq_getElem (by rw [HE.out.2.1]; exact hkn)⟩
      obtain ⟨b, o, hb0, hcell⟩ := (HT.out.1.grown hg).at hx
      obtain ⟨b4, o4, hb4, hcell4⟩ := (HT.out.2.1.grown hg).at hy
      have f4 := hg.cell HT.out.2.2 (by simp)
      subst hb0 hb4
      have HX : Hid (prC (RP.take (k + 1)) = prC (RP.take k) ++ [Value.int .i64 x, Value.int .i64 y]) := Lib.hid (by
        have hz : RP[k]? = some (x, y) := by rw [HE.out.2.2.2, List.getElem?_zip_eq_some]; exact ⟨hx, hy⟩
        obtain ⟨hlt, e2⟩ := List.getElem?_eq_some_iff.1 hz
        rw [List.take_succ_eq_append_getElem hlt, e2, prC_snoc])
      have hsz : w2.heap.size ≤ wr.heap.size := hg.size
      clear hx hy hgk hg hown
      go_wp2_with (at_builtin; refine wpList_append_own_at _ rfl _ _ 31 rfl w2.heap.size 34 i0 (.agg #[.int .i64 0, .int .i64 0]) 2 16 Try.underlying31 hi0 hz0 hz1 hz2 rfl (by decide) _ k (prC (RP.take k)) rfl (HJ.out.2.2.alloc _) ⟨wr.heap.size, 0, none⟩ 1 1 [.int .i64 x, .int .i64 y] rfl rfl (cell_two_new' _ _ _ _) (fun u hu => by simp at hu; rcases hu with rfl | rfl <;> rfl) (by unfold maxLen; omega) (by omega) (by simp; omega) ?_)
      intro v' w7 hown' hgrow7 _ hat7
      obtain ⟨a', c', rfl⟩ := own_shape hown'
      have hg8 : wr.grownBy w7 (Value.slice ra k rc).ownBlock := (World.grownBy_alloc wr _ _).trans hgrow7
      have HNX := Lib.hid (And.intro (grown_own HJ.out.2.1 hg8 (own_low HJ.out.2.2)) hown')
      clear hown' hgrow7 hat7 hg8 hcell hcell4 f4
      go_wp2_with fail
      go_roundg (m - (k + 1))
      case measure => rw [HJ.out.1]; omega
      case rel => exact ⟨k + 1, a', c', rfl, rfl, rfl, by omega, HNX.out.1, by rw [HX.out]; exact HNX.out.2⟩
    · have hke : k = m := by omega
      subst hke
      have f1 : decide (k < k) = false := by simp
      clear hg hown hgk
      go_wp2_with fail
      go_ret
      have hrl : RP.length = k := by rw [HE.out.2.2.2, List.length_zip, HE.out.1, HE.out.2.1]; omega
      have h1 := HJ.out.2.2
      rw [← hrl, List.take_length, hrl] at h1
      refine ⟨ra, rc, by rw [hrl]; rfl, by rw [hrl]; exact own_lower h1 HG2.out.1.size, World.grownBy.trans HG2.out.1 HJ.out.2.1⟩
end Go.Proofs.Ythkemajekkilmaa
/- Levels: the plain side; an entry of a map's literal. -/
namespace Go.Proofs.Ythkemajekkilmaa
open Go.RowKit Go.Maps
theorem wpList_insM {ops : Array Oper} {rest : List Oper} {o : Oper} {a : Act} {Q : Exit → Act → World → Prop} {w : World} (hg : o.guard = none) (m x : Operand) (hop : o.op = Op.insert 60 m x (.const (.bool true)))
    (b : Nat) (S : List Int) (hm : a.eval m = .map (some b)) (hown : SetM w b S) (hl : S.length ≤ 1000000) (k : Int) (hx : a.eval x = .int .i64 k) (hk : (Lit.int .i64 k).wf = true)
    (hK : ∀ w', SetM w' b (S ++ [k]) → w.grownBy w' (some b) → wpList Try.prog ops Q rest (a.put o.dst undef) w') : wpList Try.prog ops Q (o :: rest) a w := by
  refine wpList_plain hg fun K' hK' => ?_
  obtain ⟨w', hr, h2, h3⟩ := hown.store hl hk
  unfold Oper.wp
  have hv : a.eval (.const (.bool true)) = .bool true := rfl
  simp [execOp, hop, hm, hx, hv, hr, Result.andThen]
  exact hK' _ _ (hK w' h2 h3)
/-- The others of a unit clause are false. -/
theorem unit_rest {tr c : List Int} {x : Int} (hh : hot tr c = true) (hf : c.find? (und tr) = some x) : ∀ y ∈ c, y ≠ x → -y ∈ tr := by
  intro y hy hne
  obtain ⟨h1, h2⟩ := (hot_iff tr c).1 hh
  by_cases hu : und tr y = true
  · exact absurd (h2 y hy x (List.mem_of_find?_eq_some hf) hu (List.find?_some hf)) hne
  · rw [und_iff] at hu
    by_cases hn : -y ∈ tr
    · exact hn
    · exact absurd ⟨h1 y hy, hn⟩ hu
/-- What each literal of the trail rests on: the decisions. -/
def setAt (D : List (Int × List Int)) (k : Int) : List Int := match D.reverse.find? (fun p => p.1 == k) with | some p => p.2 | none => []
def restOn (D : List (Int × List Int)) (x : Int) (c : List Int) : List Int := uq ((c.filter (fun y => y != x)).flatMap fun y => setAt D (-y))
def decs0 (A : List Int) : List (Int × List Int) := (uq A).map fun a => (a, [a])
def decsGo (C : List (List Int)) : List (Int × Int) → List (Int × List Int) → List (Int × List Int)
  | [], D => D
  | (x, r) :: l, D => decsGo C l (D ++ [(x, restOn D x (C.getD r.toNat []))])
def levsGo (C : List (List Int)) : List (Int × Int) → List (Int × List Int) → List Int
  | [], _ => []
  | (x, r) :: l, D => ((restOn D x (C.getD r.toNat [])).length : Int) :: levsGo C l (D ++ [(x, restOn D x (C.getD r.toNat []))])
/-- The levels of what is implied. -/
def levP (V : Nat) (C : List (List Int)) (A : List Int) : List Int := levsGo C (reasP V C A) (decs0 A)
theorem levs_len (C : List (List Int)) : ∀ (l : List (Int × Int)) (D : List (Int × List Int)), (levsGo C l D).length = l.length
  | [], _ => rfl
  | (x, r) :: l, D => by unfold levsGo; rw [List.length_cons, levs_len C l, List.length_cons]
end Go.Proofs.Ythkemajekkilmaa
/- The laws, plainly: what is implied does not rest on the order. -/
namespace Go.Proofs.Ythkemajekkilmaa
theorem der_same {C D : List (List Int)} {A B : List Int} (hC : ∀ c ∈ C, ∃ d ∈ D, ∀ y, y ∈ c ↔ y ∈ d) (hA : ∀ x ∈ A, x ∈ B) {x : Int} (h : Der C A x) : Der D B x := by
  induction h with
  | ass x hx => exact .ass x (hA x hx)
  | imp c x hc hx _ ih =>
    obtain ⟨d, hd, he⟩ := hC c hc
    exact .imp d x hd ((he x).1 hx) (fun y hy hne => ih y ((he y).2 hy) hne)
theorem conf_same {C D : List (List Int)} {A B : List Int} (hC : ∀ c ∈ C, ∃ d ∈ D, ∀ y, y ∈ c ↔ y ∈ d) (hA : ∀ x ∈ A, x ∈ B) (h : Conf C A) : Conf D B := by
  obtain ⟨c, hc, hall⟩ := h
  obtain ⟨d, hd, he⟩ := hC c hc
  exact ⟨d, hd, fun y hy => der_same hC hA (hall y ((he y).2 hy))⟩
theorem steps_new {C : List (List Int)} : ∀ (l qs tr : List Int), Steps C tr l qs → l.Nodup ∧ ∀ x ∈ l, x ∉ tr
  | [], [], _, _ => ⟨List.nodup_nil, fun x hx => by cases hx⟩
  | [], _ :: _, _, h => by cases h
  | _ :: _, [], _, h => by cases h
  | x :: l, q :: qs, tr, h => by
    obtain ⟨⟨i, _, _, _, hf⟩, hr⟩ := h
    obtain ⟨h1, h2⟩ := steps_new l qs (tr ++ [x]) hr
    have hu := (und_iff tr x).1 (List.find?_some hf)
    refine ⟨List.nodup_cons.2 ⟨fun hm => h2 x hm (by simp), h1⟩, fun y hy => ?_⟩
    rcases List.mem_cons.1 hy with rfl | hy
    · exact hu.1
    · exact fun hm => h2 y hy (List.mem_append_left _ hm)
theorem imp_nodup {V : Nat} {C : List (List Int)} (hR : Ran V C) (A : List Int) : (impP V C A).Nodup := by
  unfold impP
  cases h : contraP A with
  | true => rw [propP_contra h]; exact List.nodup_nil
  | false =>
    obtain ⟨l, qs, k, e, hs, _⟩ := propP_spec hR h
    rw [e]
    simp only [List.drop_left]
    exact (steps_new l qs _ hs).1
/-- Without a conflict, what is implied is what follows and is not assumed. -/
theorem imp_mem {V : Nat} {C : List (List Int)} (hR : Ran V C) {A : List Int} (h : cfP V C A = -1) (x : Int) : x ∈ impP V C A ↔ Der C A x ∧ x ∉ A := by
  unfold cfP at h
  unfold impP
  cases hc : contraP A with
  | true => rw [propP_contra hc] at h; exact absurd h (by decide)
  | false =>
    obtain ⟨l, qs, k, e, hs, hco, hd, _, hk⟩ := propP_spec hR hc
    rw [e] at h ⊢
    simp only [List.drop_left] at h ⊢
    have hsh : Shut C (uq A ++ l) := by
      rcases hk with ⟨_, h1⟩ | ⟨i, h1, _⟩
      · exact h1
      · omega
    have hn := (steps_new l qs _ hs).2
    constructor
    · intro hx
      exact ⟨hd x (List.mem_append_right _ hx), fun ha => hn x hx ((mem_uq A x).2 ha)⟩
    · rintro ⟨h1, h2⟩
      have := shut_all hsh hco (fun y hy => List.mem_append_left _ ((mem_uq A y).2 hy)) h1
      rcases List.mem_append.1 this with h3 | h3
      · exact absurd ((mem_uq A x).1 h3) h2
      · exact h3
/-- The kinds of conflict. -/
theorem cf_kinds {V : Nat} {C : List (List Int)} (hR : Ran V C) (A : List Int) : (cfP V C A = -2 ↔ contraP A = true) ∧ (contraP A = false → (cfP V C A = -1 ↔ ¬ Conf C A)) ∧ (contraP A = false → (0 ≤ cfP V C A ↔ Conf C A)) := by
  cases hc : contraP A with
  | true =>
    unfold cfP
    rw [propP_contra hc]
    exact ⟨⟨fun _ => rfl, fun _ => rfl⟩, fun e => (by cases e), fun e => (by cases e)⟩
  | false =>
    have hcp := conf_prop hR hc
    unfold cfP
    obtain ⟨l, qs, k, e, _, _, _, _, hk⟩ := propP_spec hR hc
    rw [e] at hcp ⊢
    simp only at hcp ⊢
    have hk' : k = -1 ∨ 0 ≤ k := hk.elim (fun h => .inl h.1) (fun ⟨i, h, _⟩ => .inr (by omega))
    refine ⟨⟨fun h => by omega, fun h => by cases h⟩, fun _ => ?_, fun _ => ?_⟩
    · rw [← hcp]; omega
    · rw [← hcp]; omega
theorem contra_same {A B : List Int} (h : ∀ x, x ∈ A ↔ x ∈ B) : contraP A = contraP B := by
  unfold contraP
  rw [Bool.eq_iff_iff, List.any_eq_true, List.any_eq_true]
  constructor
  · rintro ⟨x, hx, hn⟩
    exact ⟨x, (h x).1 hx, by simpa using (h _).1 (by simpa using hn)⟩
  · rintro ⟨x, hx, hn⟩
    exact ⟨x, (h x).2 hx, by simpa using (h _).2 (by simpa using hn)⟩
theorem nodup_len : ∀ {l m : List Int}, l.Nodup → (∀ x ∈ l, x ∈ m) → l.length ≤ m.length
  | [], _, _, _ => Nat.zero_le _
  | x :: l, m, h, hs => by
    obtain ⟨h1, h2⟩ := List.nodup_cons.1 h
    have hx : x ∈ m := hs x (by simp)
    have := nodup_len (m := m.erase x) h2 (fun y hy => (List.mem_erase_of_ne (fun e : y = x => h1 (by rw [← e]; exact hy))).2 (hs y (List.mem_cons_of_mem _ hy)))
    have hl := List.length_erase_of_mem hx
    have hp : 0 < m.length := List.length_pos_of_mem hx
    rw [List.length_cons]
    omega
/-- The order of clauses and literals: the same conflict, the same literals. -/
theorem order_same {V : Nat} {C D : List (List Int)} {A B : List Int} (hR : Ran V C) (hR' : Ran V D) (hC : ∀ c ∈ C, ∃ d ∈ D, ∀ y, y ∈ c ↔ y ∈ d) (hD : ∀ d ∈ D, ∃ c ∈ C, ∀ y, y ∈ d ↔ y ∈ c) (hA : ∀ x, x ∈ A ↔ x ∈ B) :
    (cfP V C A = -2 ↔ cfP V D B = -2) ∧ (0 ≤ cfP V C A ↔ 0 ≤ cfP V D B) ∧ (cfP V C A = -1 ↔ cfP V D B = -1) ∧ (cfP V C A = -1 → (∀ x, x ∈ impP V C A ↔ x ∈ impP V D B) ∧ (impP V C A).length = (impP V D B).length) := by
  obtain ⟨a1, a2, a3⟩ := cf_kinds hR A
  obtain ⟨b1, b2, b3⟩ := cf_kinds hR' B
  have hcs := contra_same hA
  have hcf : Conf C A ↔ Conf D B := ⟨conf_same hC (fun x hx => (hA x).1 hx), conf_same hD (fun x hx => (hA x).2 hx)⟩
  have e1 : cfP V C A = -2 ↔ cfP V D B = -2 := by rw [a1, b1, hcs]
  have e23 : (0 ≤ cfP V C A ↔ 0 ≤ cfP V D B) ∧ (cfP V C A = -1 ↔ cfP V D B = -1) := by
    cases hc : contraP A with
    | true =>
      have h1 := a1.2 hc
      have h2 := e1.1 h1
      rw [h1, h2]
      exact ⟨Iff.rfl, Iff.rfl⟩
    | false =>
      have hb : contraP B = false := by rw [← hcs]; exact hc
      exact ⟨by rw [a3 hc, b3 hb, hcf], by rw [a2 hc, b2 hb, hcf]⟩
  refine ⟨e1, e23.1, e23.2, fun h => ?_⟩
  have hm : ∀ x, x ∈ impP V C A ↔ x ∈ impP V D B := fun x => by
    rw [imp_mem hR h, imp_mem hR' (e23.2.1 h), hA]
    exact and_congr_left' ⟨der_same hC (fun x hx => (hA x).1 hx), der_same hD (fun x hx => (hA x).2 hx)⟩
  refine ⟨hm, ?_⟩
  have h1 : (impP V C A).length ≤ (impP V D B).length := nodup_len (imp_nodup hR A) (fun x hx => (hm x).1 hx)
  have h2 : (impP V D B).length ≤ (impP V C A).length := nodup_len (imp_nodup hR' B) (fun x hx => (hm x).2 hx)
  omega
end Go.Proofs.Ythkemajekkilmaa
/- The reference's True, All, Each. -/
namespace Go.Proofs.Ythkemajekkilmaa
open Go.RowKit
/-- A row of bools that is read. -/
def BW (w : World) (a : Option Addr) (c : Nat) (vs : List Bool) : Prop :=
  vs.length ≤ c ∧ (vs = [] ∨ ∃ b o, a = some ⟨b, o, none⟩ ∧ ∀ (j : Nat) (z : Bool), vs[j]? = some z → w.cell? ⟨b, o + j, none⟩ = some (.bool z))
theorem BW.grown {w w' : World} {a : Option Addr} {c : Nat} {vs : List Bool} (h : BW w a c vs) (hg : w.grownBy w' none) : BW w' a c vs := by
  obtain ⟨hc, h | ⟨b, o, ha, hz⟩⟩ := h
  · exact ⟨hc, .inl h⟩
  · exact ⟨hc, .inr ⟨b, o, ha, fun j z hj => hg.cell (hz j z hj) (by simp)⟩⟩
theorem BW.at {w : World} {a : Option Addr} {c : Nat} {vs : List Bool} (h : BW w a c vs) {i : Nat} {z : Bool} (hz : vs[i]? = some z) : ∃ b o, a = some ⟨b, o, none⟩ ∧ w.cell? ⟨b, o + i, none⟩ = some (.bool z) := by
  rcases h.2 with rfl | ⟨b, o, ha, hc⟩
  · simp at hz
  · exact ⟨b, o, ha, hc i z hz⟩
/-- A literal under an assignment. -/
def litT (vs : List Bool) (x : Int) : Bool := if 0 < x then vs.getD (x - 1).toNat false else !(vs.getD (-x - 1).toNat false)
theorem any_take {L : List Int} {k : Nat} {z : Int} (hz : L[k]? = some z) (f : Int → Bool) : (L.take (k + 1)).any f = ((L.take k).any f || f z) := by
  rw [take_snoc hz, List.any_append]; simp
set_option maxHeartbeats 8000000 in
set_option maxRecDepth 100000 in
theorem true_calls (vs : List Bool) (va : Option Addr) (vc : Nat) (L : List Int) (a : Option Addr) (c : Nat) (w : World) (hv : BW w va vc vs) (h : IntsW w a c L) (hl : L.length ≤ 100000) (hn : vs.length ≤ 1000) (hr : ∀ x ∈ L, InR vs.length x) :
    Calls Try.prog 25 #[.slice va vs.length vc, .slice a L.length c] w fun e w' => e = .returned (.bool (L.any (litT vs))) ∧ w' = w := by
  obtain ⟨n, hnn⟩ : ∃ n, L.length = n := ⟨_, rfl⟩
  obtain ⟨m, hm⟩ : ∃ m, vs.length = m := ⟨_, rfl⟩
  rw [hm] at hn hr
  have HH := Lib.hid (And.intro h (And.intro hnn (And.intro hr (And.intro hv hm))))
  rw [hnn] at hl ⊢
  rw [hm]
  clear h hnn hv hm hr
  obtain ⟨d, hd⟩ : ∃ d, L.any (litT vs) = d := ⟨_, rfl⟩
  rw [hd]
  have HD := Lib.hid hd
  clear hd
  go_enter Try.func25, Try.ntmps25
  go_wp2_with fail
  go_loopg [5] n (fun gk s5 w' => ∃ k : Nat, s5 = .int .i64 (k : Int) ∧ gk = n - k ∧ k ≤ n ∧ w' = w ∧ (L.take k).any (litT vs) = false)
  case atStart => exact ⟨0, rfl, rfl, by omega, rfl, by simp⟩
  case round =>
    obtain ⟨k, rfl, hgk, hk, rfl, hbef⟩ := hrel
    have HI := Lib.hid (And.intro hgk hbef)
    clear hgk hbef
    by_cases hkn : k < n
    · have f1 : decide ((k : Int) < (n : Int)) = true := decide_eq_true (by omega)
      have f1' : decide (k < n) = true := decide_eq_true hkn
      have i0 : (0 : Int) ≤ (k : Int) := by omega
      have i1 : (k : Int) < (n : Int) := by omega
      have k1 : IntKind.i64.wrap ((k : Int) + 1) = (k : Int) + 1 := IntWalk.i64_in _ (by omega)
      obtain ⟨z, hz⟩ : ∃ z, L[k]? = some z := ⟨_, List.getElem?_eq_getElem (by rw [HH.out.2.1]; exact hkn)⟩
      obtain ⟨b, o, rfl, hcell⟩ := HH.out.1.at hz
      obtain ⟨z0, z1, z2⟩ := HH.out.2.2.1 z (List.mem_of_getElem? hz)
      have HZ := Lib.hid hz
      have hstep := any_take hz (litT vs)
      rw [HI.out.2, Bool.false_or] at hstep
      have hyes : litT vs z = true → d = true := fun hf => by rw [← HD.out]; exact List.any_eq_true.2 ⟨z, List.mem_of_getElem? hz, hf⟩
      have HS := Lib.hid (And.intro hstep hyes)
      clear hz hstep hyes
      by_cases hz0 : 0 < z
      · obtain ⟨v, rfl⟩ : ∃ v : Nat, z = (v : Int) + 1 := ⟨(z - 1).toNat, by omega⟩
        have t0 : decide (0 < (v : Int) + 1) = true := decide_eq_true hz0
        have t1 : decide ((v : Int) + 1 < 0) = false := decide_eq_false (by omega)
        have kz : IntKind.i64.wrap ((v : Int) + 1 - 1) = (v : Int) := by rw [IntWalk.i64_in _ (by omega)]; omega
        have kz' : IntKind.i64.wrap (v : Int) = (v : Int) := IntWalk.i64_in _ (by omega)
        obtain ⟨q, hq⟩ : ∃ q, vs[v]? = some q := ⟨_, List.getElem?_eq_getElem (by rw [HH.out.2.2.2.2]; omega)⟩
        obtain ⟨b2, o2, hva, hcv⟩ := HH.out.2.2.2.1.at hq
        subst hva
        have j0 : (0 : Int) ≤ (v : Int) := by omega
        have j1 : (v : Int) < (m : Int) := by omega
        have HQ : Hid (litT vs ((v : Int) + 1) = q) := Lib.hid (by unfold litT; rw [if_pos hz0, show ((v : Int) + 1 - 1).toNat = v from by omega, List.getD_eq_getElem?_getD, hq]; rfl)
        clear hq hz0 z0 z1 z2
        cases q with
        | true =>
          have HE : Hid (d = true) := Lib.hid (HS.out.2 HQ.out)
          go_wp2_with fail
          go_ret
          exact ⟨by rw [HE.out]; rfl, rfl⟩
        | false =>
          have HN : Hid ((L.take (k + 1)).any (litT vs) = false) := Lib.hid (by rw [HS.out.1, HQ.out])
          go_wp2_with fail
          go_roundg (n - (k + 1))
          case measure => rw [HI.out.1]; omega
          case rel => exact ⟨k + 1, rfl, rfl, by omega, rfl, HN.out⟩
      · obtain ⟨v, rfl⟩ : ∃ v : Nat, z = -((v : Int) + 1) := ⟨(-z - 1).toNat, by omega⟩
        have t0 : decide (0 < -((v : Int) + 1)) = false := decide_eq_false (by omega)
        have t1 : decide (-((v : Int) + 1) < 0) = true := decide_eq_true (by omega)
        obtain ⟨y, hy⟩ : ∃ y, -((v : Int) + 1) = y := ⟨_, rfl⟩
        rw [hy] at hcell t0 t1
        have kz : IntKind.i64.wrap (-y) = (v : Int) + 1 := by rw [IntWalk.i64_in _ (by omega)]; omega
        have kz' : IntKind.i64.wrap ((v : Int) + 1 - 1) = (v : Int) := by rw [IntWalk.i64_in _ (by omega)]; omega
        have kz2 : IntKind.i64.wrap (v : Int) = (v : Int) := IntWalk.i64_in _ (by omega)
        obtain ⟨q, hq⟩ : ∃ q, vs[v]? = some q := ⟨_, List.getElem?_eq_getElem (by rw [HH.out.2.2.2.2]; omega)⟩
        obtain ⟨b2, o2, hva, hcv⟩ := HH.out.2.2.2.1.at hq
        subst hva
        have j0 : (0 : Int) ≤ (v : Int) := by omega
        have j1 : (v : Int) < (m : Int) := by omega
        have HQ : Hid (litT vs (-((v : Int) + 1)) = !q) := Lib.hid (by unfold litT; rw [if_neg (by omega), show (-(-((v : Int) + 1)) - 1).toNat = v from by omega, List.getD_eq_getElem?_getD, hq]; rfl)
        clear hq hz0 z0 z1 z2 hy
        cases q with
        | false =>
          have HE : Hid (d = true) := Lib.hid (HS.out.2 HQ.out)
          go_wp2_with fail
          go_ret
          exact ⟨by rw [HE.out]; rfl, rfl⟩
        | true =>
          have HN : Hid ((L.take (k + 1)).any (litT vs) = false) := Lib.hid (by rw [HS.out.1, HQ.out]; rfl)
          go_wp2_with fail
          go_roundg (n - (k + 1))
          case measure => rw [HI.out.1]; omega
          case rel => exact ⟨k + 1, rfl, rfl, by omega, rfl, HN.out⟩
    · have hke : k = n := by omega
      subst hke
      have f1 : decide (k < k) = false := by simp
      have HR : Hid (d = false) := Lib.hid (by rw [← HD.out]; have := HI.out.2; rwa [← HH.out.2.1, List.take_length] at this)
      go_wp2_with fail
      go_ret
      exact ⟨by rw [HR.out]; rfl, rfl⟩
set_option maxHeartbeats 4000000 in
theorem all_calls (vs : List Bool) (va : Option Addr) (vc : Nat) (C : List (List Int)) (ca : Option Addr) (cc : Nat) (w : World) (hv : BW w va vc vs) (h : ClsW w ca cc C) (hC : C.length ≤ 100000) (hL : ∀ c ∈ C, c.length ≤ 100000) (hn : vs.length ≤ 1000) (hr : Ran vs.length C) :
    Calls Try.prog 24 #[.slice va vs.length vc, .slice ca C.length cc] w fun e w' => e = .returned (.bool (C.all fun c => c.any (litT vs))) ∧ w' = w := by
  obtain ⟨n, hnn⟩ : ∃ n, C.length = n := ⟨_, rfl⟩
  have HT : Hid (∀ (L : List Int) (a : Option Addr) (c : Nat), L ∈ C → IntsW w a c L → Calls Try.prog 25 #[.slice va vs.length vc, .slice a L.length c] w fun e w' => e = .returned (.bool (L.any (litT vs))) ∧ w' = w) := Lib.hid (fun L a c hm hi => true_calls vs va vc L a c w hv hi (hL L hm) hn (hr L hm))
  have HH := Lib.hid (And.intro h hnn)
  obtain ⟨m, hm⟩ : ∃ m, vs.length = m := ⟨_, rfl⟩
  rw [hm] at HT
  rw [hnn] at hC ⊢
  rw [hm]
  clear h hnn hv hm hr hL
  obtain ⟨d, hd⟩ : ∃ d, (C.all fun c => c.any (litT vs)) = d := ⟨_, rfl⟩
  rw [hd]
  have HD := Lib.hid hd
  clear hd
  go_enter Try.func24, Try.ntmps24
  go_wp2_with fail
  go_loopg [5] n (fun gk s5 w' => ∃ k : Nat, s5 = .int .i64 (k : Int) ∧ gk = n - k ∧ k ≤ n ∧ w' = w ∧ (C.take k).all (fun c => c.any (litT vs)) = true)
  case atStart => exact ⟨0, rfl, rfl, by omega, rfl, by simp⟩
  case round =>
    obtain ⟨k, rfl, hgk, hk, rfl, hbef⟩ := hrel
    have HI := Lib.hid (And.intro hgk hbef)
    clear hgk hbef
    by_cases hkn : k < n
    · have f1 : decide ((k : Int) < (n : Int)) = true := decide_eq_true (by omega)
      have f1' : decide (k < n) = true := decide_eq_true hkn
      have i0 : (0 : Int) ≤ (k : Int) := by omega
      have i1 : (k : Int) < (n : Int) := by omega
      have k1 : IntKind.i64.wrap ((k : Int) + 1) = (k : Int) + 1 := IntWalk.i64_in _ (by omega)
      obtain ⟨z, hz⟩ : ∃ z, C[k]? = some z := ⟨_, List.getElem?_eq_getElem (by rw [HH.out.2]; exact hkn)⟩
      obtain ⟨b, o, a', c', rfl, hcell, hints⟩ := HH.out.1.at hz
      have HC := Lib.hid (HT.out z a' c' (List.mem_of_getElem? hz) hints)
      have HZ := Lib.hid hz
      clear hz hints
      obtain ⟨l, hl⟩ : ∃ l, z.length = l := ⟨_, rfl⟩
      rw [hl] at hcell HC
      obtain ⟨p, hp⟩ : ∃ p, z.any (litT vs) = p := ⟨_, rfl⟩
      rw [hp] at HC
      have HP := Lib.hid hp
      clear hl hp
      go_wp2_with fail
      refine HC.out.mono ?_
      rintro e w1 ⟨rfl, hw1⟩
      rw [hw1]
      clear hw1 w1 HC hcell
      cases p with
      | false =>
        have HR : Hid (d = false) := Lib.hid (by rw [← HD.out]; exact all_no (f := fun c => c.any (litT vs)) (List.mem_of_getElem? HZ.out) HP.out)
        go_wp2_with fail
        go_ret
        exact ⟨by rw [HR.out]; rfl, rfl⟩
      | true =>
        have HN : Hid ((C.take (k + 1)).all (fun c => c.any (litT vs)) = true) := Lib.hid (by rw [ctake HZ.out, HI.out.2, HP.out]; rfl)
        go_wp2_with fail
        go_roundg (n - (k + 1))
        case measure => rw [HI.out.1]; omega
        case rel => exact ⟨k + 1, rfl, rfl, by omega, rfl, HN.out⟩
    · have hke : k = n := by omega
      subst hke
      have f1 : decide (k < k) = false := by simp
      have HR : Hid (d = true) := Lib.hid (by rw [← HD.out]; have := HI.out.2; rwa [← HH.out.2, List.take_length] at this)
      go_wp2_with fail
      go_ret
      exact ⟨by rw [HR.out]; rfl, rfl⟩
end Go.Proofs.Ythkemajekkilmaa
/- The reference's Each; the law's assignment. -/
namespace Go.Proofs.Ythkemajekkilmaa
open Go.RowKit
set_option maxHeartbeats 8000000 in
theorem each_calls (vs : List Bool) (va : Option Addr) (vc : Nat) (L : List Int) (a : Option Addr) (c : Nat) (w : World) (hv : BW w va vc vs) (h : IntsW w a c L) (hl : L.length ≤ 100000) (hn : vs.length ≤ 1000) (hr : ∀ x ∈ L, InR vs.length x) :
    Calls Try.prog 26 #[.slice va vs.length vc, .slice a L.length c] w fun e w' => e = .returned (.bool (L.all (litT vs))) ∧ w' = w := by
  obtain ⟨n, hnn⟩ : ∃ n, L.length = n := ⟨_, rfl⟩
  have HT : Hid (∀ (x : Int) (a : Option Addr) (c : Nat), x ∈ L → IntsW w a c [x] → Calls Try.prog 25 #[.slice va vs.length vc, .slice a 1 c] w fun e w' => e = .returned (.bool (litT vs x)) ∧ w' = w) := Lib.hid (fun x a c hm hi => by
    have := true_calls vs va vc [x] a c w hv hi (by simp) hn (fun y hy => by rw [List.mem_singleton.1 hy]; exact hr x hm)
    simpa using this)
  have HH := Lib.hid (And.intro h hnn)
  obtain ⟨m, hm⟩ : ∃ m, vs.length = m := ⟨_, rfl⟩
  rw [hm] at HT
  rw [hnn] at hl ⊢
  rw [hm]
  clear h hnn hv hm hr
  obtain ⟨d, hd⟩ : ∃ d, L.all (litT vs) = d := ⟨_, rfl⟩
  rw [hd]
  have HD := Lib.hid hd
  have hcn : n ≤ c := by have := HH.out.1.1; rw [HH.out.2] at this; exact this
  clear hd
  go_enter Try.func26, Try.ntmps26
  go_wp2_with fail
  go_loopg [5] n (fun gk s5 w' => ∃ k : Nat, s5 = .int .i64 (k : Int) ∧ gk = n - k ∧ k ≤ n ∧ w' = w ∧ (L.take k).all (litT vs) = true)
  case atStart => exact ⟨0, rfl, rfl, by omega, rfl, by simp⟩
  case round =>
    obtain ⟨k, rfl, hgk, hk, rfl, hbef⟩ := hrel
    have HI := Lib.hid (And.intro hgk hbef)
    clear hgk hbef
    by_cases hkn : k < n
    · have f1 : decide ((k : Int) < (n : Int)) = true := decide_eq_true (by omega)
      have f1' : decide (k < n) = true := decide_eq_true hkn
      have i0 : (0 : Int) ≤ (k : Int) := by omega
      have i1 : (k : Int) < (n : Int) := by omega
      obtain ⟨k', hk'⟩ : ∃ k', k + 1 = k' := ⟨_, rfl⟩
      have k1 : IntKind.i64.wrap ((k : Int) + 1) = (k' : Int) := by rw [IntWalk.i64_in _ (by omega)]; omega
      have i2 : (k : Int) ≤ (k' : Int) := by omega
      have i3 : (k' : Int) ≤ (n : Int) := by omega
      have i4 : (k' : Int) ≤ (c : Int) := by omega
      have i5 : (0 : Int) ≤ (k' : Int) := by omega
      have e1 : k' - k = 1 := by omega
      have e2 : ¬ c = k := by omega
      obtain ⟨z, hz⟩ : ∃ z, L[k]? = some z := ⟨_, List.getElem?_eq_getElem (by rw [HH.out.2]; exact hkn)⟩
      obtain ⟨b, o, rfl, hcell⟩ := HH.out.1.at hz
      have HC := Lib.hid (HT.out z (some ⟨b, o + k, none⟩) (c - k) (List.mem_of_getElem? hz) ⟨by simp; omega, .inr ⟨b, o + k, rfl, fun j y hj => by
        cases j with
        | zero => simp at hj; subst hj; exact hcell
        | succ j => simp at hj⟩⟩)
      have HZ := Lib.hid hz
      have HK := Lib.hid hk'
      clear hz hk'
      obtain ⟨p, hp⟩ : ∃ p, litT vs z = p := ⟨_, rfl⟩
      rw [hp] at HC
      have HP := Lib.hid hp
      clear hp hcell
      go_wp2_with fail
      refine HC.out.mono ?_
      rintro e w1 ⟨rfl, hw1⟩
      rw [hw1]
      clear hw1 w1 HC
      cases p with
      | false =>
        have HR : Hid (d = false) := Lib.hid (by
          rw [← HD.out]
          cases ha : L.all (litT vs) with
          | false => rfl
          | true => rw [List.all_eq_true] at ha; rw [ha z (List.mem_of_getElem? HZ.out)] at HP; exact absurd HP.out (by decide))
        go_wp2_with fail
        go_ret
        exact ⟨by rw [HR.out]; rfl, rfl⟩
      | true =>
        have HN : Hid ((L.take (k + 1)).all (litT vs) = true) := Lib.hid (by rw [take_snoc HZ.out, List.all_append, HI.out.2]; simp [HP.out])
        have k2 : IntKind.i64.wrap ((k : Int) + 1) = (k' : Int) := k1
        go_wp2_with fail
        go_roundg (n - (k + 1))
        case measure => rw [HI.out.1]; omega
        case rel => exact ⟨k + 1, by rw [HK.out], rfl, by omega, rfl, HN.out⟩
    · have hke : k = n := by omega
      subst hke
      have f1 : decide (k < k) = false := by simp
      have HR : Hid (d = true) := Lib.hid (by rw [← HD.out]; have := HI.out.2; rwa [← HH.out.2, List.take_length] at this)
      go_wp2_with fail
      go_ret
      exact ⟨by rw [HR.out]; rfl, rfl⟩
theorem info4 : (Try.prog.info? 4).map (fun i => (i.zero, i.size, i.bytes)) = some (some (.bool false), 1, 1) := by kernel_rfl
/-- The assignment of a number: its bits. -/
def asgP (V : Nat) (m : Int) : List Bool := (List.range V).map fun i => decide (m / 2 ^ i % 2 = 1)
abbrev blC (l : List Bool) : List Value := l.map fun (b : Bool) => Value.bool b
theorem asg_succ (V : Nat) (m : Int) : asgP (V + 1) m = asgP V m ++ [decide (m / 2 ^ V % 2 = 1)] := by unfold asgP; rw [List.range_succ, List.map_append]; rfl
set_option maxHeartbeats 8000000 in
theorem assignment_calls (V : Nat) (m : Int) (w : World) (hV : V ≤ 1000) (h0 : 0 ≤ m) (h1 : m ≤ 9000000000000000000) :
    Calls Try.prog 23 #[.int .i64 (V : Int), .int .i64 m] w fun e w' => ∃ a c, e = .returned (.slice a V c) ∧ w'.ownsRow w.heap.size 4 1 (.slice a V c) V (blC (asgP V m)) ∧ w.grownBy w' none := by
  obtain ⟨i0, hi0, hz0, hz1, hz2⟩ := info_parts info4
  go_enter Try.func23, Try.ntmps23
  go_wp2_with fail
  go_loopg [5, 6, 7] V (fun gk s5 s6 s7 wr => ∃ (k : Nat) (a : Option Addr) (c : Nat) (r : Int), s5 = .slice a k c ∧ s6 = .int .i64 r ∧ s7 = .int .i64 (k : Int) ∧ gk = V - k ∧ k ≤ V ∧ w.grownBy wr none ∧ wr.ownsRow w.heap.size 4 1 (.slice a k c) k (blC (asgP k m)) ∧ r = m / 2 ^ k)
  case atStart => exact ⟨0, none, 0, m, rfl, rfl, rfl, rfl, by omega, grown_refl _ _, ⟨by simp [asgP], .inl ⟨rfl, rfl⟩⟩, by simp⟩
  case round =>
    obtain ⟨k, a, c, r, rfl, rfl, rfl, hgk, hk, hg, hown, hr⟩ := hrel
    have hr0 : 0 ≤ r := by rw [hr]; exact Int.ediv_nonneg h0 (Int.pow_nonneg (by decide))
    have hr1 : r ≤ m := by rw [hr]; exact Int.ediv_le_self _ h0
    have HJ := Lib.hid (And.intro hgk (And.intro hg (And.intro hown hr)))
    have hsz : w.heap.size ≤ wr.heap.size := hg.size
    clear hgk hg hown hr
    by_cases hkn : k < V
    · have f1 : decide ((k : Int) < (V : Int)) = true := decide_eq_true (by omega)
      have f1' : decide (k < V) = true := decide_eq_true hkn
      have k1 : IntKind.i64.wrap ((k : Int) + 1) = (k : Int) + 1 := IntWalk.i64_in _ (by omega)
      have hq : Int.tdiv r 2 = r / 2 := Int.tdiv_eq_ediv_of_nonneg (by omega)
      have hm : Int.tmod r 2 = r % 2 := Int.tmod_eq_emod_of_nonneg (by omega)
      have kq : IntKind.i64.wrap (r / 2) = r / 2 := IntWalk.i64_in _ (by omega)
      have km : IntKind.i64.wrap (r % 2) = r % 2 := IntWalk.i64_in _ (by omega)
      obtain ⟨b, hb⟩ : ∃ b, (r % 2 == 1) = b := ⟨_, rfl⟩
      have HX : Hid (blC (asgP (k + 1) m) = blC (asgP k m) ++ [.bool b]) := Lib.hid (by
        rw [asg_succ, blC, List.map_append, ← HJ.out.2.2.2, ← hb]
        rfl)
      have HR : Hid (r / 2 = m / 2 ^ (k + 1)) := Lib.hid (by rw [HJ.out.2.2.2, Int.pow_succ, Int.ediv_ediv_of_nonneg (Int.pow_nonneg (by decide))])
      go_wp2_with (at_builtin; refine wpList_append_own_at _ rfl _ _ 38 rfl w.heap.size 4 i0 (.bool false) 1 1 Try.underlying38 hi0 hz0 hz1 hz2 rfl (by decide) _ k (blC (asgP k m)) rfl (HJ.out.2.2.1.alloc _) ⟨wr.heap.size, 0, none⟩ 1 1 [.bool b] rfl rfl (cell_one_new _ _ _) (fun u hu => by simp at hu; subst hu; rfl) (by unfold maxLen; omega) (by omega) (by simp; omega) ?_)
      intro v' w7 hown' hgrow7 _ hat7
      obtain ⟨a', c', rfl⟩ := own_shape hown'
      have hg8 : wr.grownBy w7 (Value.slice a k c).ownBlock := (World.grownBy_alloc wr _ _).trans hgrow7
      have HNX := Lib.hid (And.intro (grown_own HJ.out.2.1 hg8 (own_low HJ.out.2.2.1)) hown')
      clear hown' hgrow7 hat7 hg8
      go_wp2_with fail
      go_roundg (V - (k + 1))
      case measure => rw [HJ.out.1]; omega
      case rel => exact ⟨k + 1, a', c', r / 2, rfl, rfl, rfl, rfl, by omega, HNX.out.1, by rw [HX.out]; exact HNX.out.2, HR.out⟩
    · have hke : k = V := by omega
      subst hke
      have f1 : decide (k < k) = false := by simp
      go_wp2_with fail
      go_ret
      exact ⟨a, c, rfl, HJ.out.2.2.1, HJ.out.2.1⟩
end Go.Proofs.Ythkemajekkilmaa
/- The laws, plainly: what follows is true in each model. -/
namespace Go.Proofs.Ythkemajekkilmaa
theorem litT_neg (vs : List Bool) {x : Int} (h : x ≠ 0) : litT vs (-x) = !litT vs x := by
  unfold litT
  by_cases h0 : 0 < x
  · rw [if_neg (by omega), if_pos h0, Int.neg_neg]
  · rw [if_pos (by omega), if_neg h0, Bool.not_not]
theorem der_true {V : Nat} {C : List (List Int)} {A : List Int} {vs : List Bool} (hR : Ran V C) (hm : ∀ c ∈ C, c.any (litT vs) = true) (hA : ∀ x ∈ A, litT vs x = true) {x : Int} (h : Der C A x) : litT vs x = true := by
  induction h with
  | ass x hx => exact hA x hx
  | imp c x hc hx _ ih =>
    obtain ⟨y, hy, ht⟩ := List.any_eq_true.1 (hm c hc)
    by_cases e : y = x
    · rw [← e]; exact ht
    · have := ih y hy e
      rw [litT_neg vs (hR c hc y hy).1, ht] at this
      cases this
theorem conf_model {V : Nat} {C : List (List Int)} {A : List Int} {vs : List Bool} (hR : Ran V C) (hm : ∀ c ∈ C, c.any (litT vs) = true) (hA : ∀ x ∈ A, litT vs x = true) : ¬ Conf C A := by
  rintro ⟨c, hc, hall⟩
  obtain ⟨y, hy, ht⟩ := List.any_eq_true.1 (hm c hc)
  have := der_true hR hm hA (hall y hy)
  rw [litT_neg vs (hR c hc y hy).1, ht] at this
  cases this
theorem contra_model {A : List Int} {vs : List Bool} (h0 : ∀ x ∈ A, x ≠ 0) (hA : ∀ x ∈ A, litT vs x = true) : contraP A = false := by
  cases h : contraP A with
  | false => rfl
  | true =>
    obtain ⟨x, hx, hn⟩ := List.any_eq_true.1 h
    have h1 := hA _ (by simpa using hn : -x ∈ A)
    rw [litT_neg vs (h0 x hx), hA x hx] at h1
    cases h1
/-- Propagation is sound. -/
theorem prop_sound {V : Nat} {C : List (List Int)} {A : List Int} {vs : List Bool} (hR : Ran V C) (hAr : ∀ x ∈ A, InR V x) (hm : ∀ c ∈ C, c.any (litT vs) = true) (hA : A.all (litT vs) = true) : cfP V C A = -1 ∧ (impP V C A).all (litT vs) = true := by
  rw [List.all_eq_true] at hA
  have hc := contra_model (fun x hx => (hAr x hx).1) hA
  have h1 := ((cf_kinds hR A).2.1 hc).2 (conf_model hR hm hA)
  refine ⟨h1, List.all_eq_true.2 (fun x hx => der_true hR hm hA ((imp_mem hR h1 x).1 hx).1)⟩
/-- What is said to be implied is. -/
theorem implies_sound {V : Nat} {C : List (List Int)} {L : List Int} {vs : List Bool} (hR : Ran V C) (hL : ∀ x ∈ L, InR V x) (hm : ∀ c ∈ C, c.any (litT vs) = true) (h : contraP (negL L) = true ∨ Conf C (negL L)) : L.any (litT vs) = true := by
  cases ha : L.any (litT vs) with
  | true => rfl
  | false =>
    have hN : ∀ x ∈ negL L, litT vs x = true := fun x hx => by
      unfold negL at hx
      obtain ⟨y, hy, rfl⟩ := List.mem_map.1 hx
      rw [litT_neg vs (hL y hy).1]
      cases ht : litT vs y with
      | false => rfl
      | true => rw [List.any_eq_true.2 ⟨y, hy, ht⟩] at ha; cases ha
    have h0 : ∀ x ∈ negL L, x ≠ 0 := fun x hx => by
      unfold negL at hx
      obtain ⟨y, hy, rfl⟩ := List.mem_map.1 hx
      have := (hL y hy).1
      omega
    rcases h with h | h
    · rw [contra_model h0 hN] at h; cases h
    · exact absurd h (conf_model hR hm hN)
end Go.Proofs.Ythkemajekkilmaa
/- The reference's Contradictory and Status. -/
namespace Go.Proofs.Ythkemajekkilmaa
open Go.RowKit
theorem contra_take {A : List Int} {k : Nat} {z : Int} (hz : A[k]? = some z) (h : (A.take k).any (fun x => A.contains (-x)) = false) (hm : -z ∉ A) : (A.take (k + 1)).any (fun x => A.contains (-x)) = false := by
  rw [take_snoc hz, List.any_append, h]
  simp [hm]
set_option maxHeartbeats 4000000 in
theorem contradictory_calls (L : List Int) (a : Option Addr) (c : Nat) (w : World) (h : IntsW w a c L) (hl : L.length ≤ 100000) (hb : ∀ x ∈ L, -1000000 ≤ x ∧ x ≤ 1000000) :
    Calls Try.prog 27 #[.slice a L.length c] w fun e w' => e = .returned (.bool (contraP L)) ∧ w' = w := by
  obtain ⟨n, hn⟩ : ∃ n, L.length = n := ⟨_, rfl⟩
  have HC := Lib.hid (fun x => has_calls L a c x w h hl)
  have HH := Lib.hid (And.intro h (And.intro hn hb))
  rw [hn] at hl HC ⊢
  clear h hn hb
  obtain ⟨d, hd⟩ : ∃ d, contraP L = d := ⟨_, rfl⟩
  rw [hd]
  have HD := Lib.hid hd
  clear hd
  go_enter Try.func27, Try.ntmps27
  go_wp2_with fail
  go_loopg [3] n (fun gk s5 w' => ∃ k : Nat, s5 = .int .i64 (k : Int) ∧ gk = n - k ∧ k ≤ n ∧ w' = w ∧ (L.take k).any (fun x => L.contains (-x)) = false)
  case atStart => exact ⟨0, rfl, rfl, by omega, rfl, by simp⟩
  case round =>
    obtain ⟨k, rfl, hgk, hk, rfl, hbef⟩ := hrel
    have HI := Lib.hid (And.intro hgk hbef)
    clear hgk hbef
    by_cases hkn : k < n
    · have f1 : decide ((k : Int) < (n : Int)) = true := decide_eq_true (by omega)
      have f1' : decide (k < n) = true := decide_eq_true hkn
      have i0 : (0 : Int) ≤ (k : Int) := by omega
      have i1 : (k : Int) < (n : Int) := by omega
      have k1 : IntKind.i64.wrap ((k : Int) + 1) = (k : Int) + 1 := IntWalk.i64_in _ (by omega)
      obtain ⟨z, hz⟩ : ∃ z, L[k]? = some z := ⟨_, List.getElem?_eq_getElem (by rw [HH.out.2.1]; exact hkn)⟩
      obtain ⟨b, o, rfl, hcell⟩ := HH.out.1.at hz
      have hzb := HH.out.2.2 z (List.mem_of_getElem? hz)
      have kz : IntKind.i64.wrap (-z) = -z := IntWalk.i64_in _ (by omega)
      have HZ := Lib.hid hz
      clear hz hzb
      have HCZ := Lib.hid (HC.out (-z))
      obtain ⟨q, hq⟩ : ∃ q, decide (-z ∈ L) = q := ⟨_, rfl⟩
      rw [hq] at HCZ
      have HQ := Lib.hid hq
      clear hq
      go_wp2_with fail
      refine HCZ.out.mono ?_
      rintro e w1 ⟨rfl, hw1⟩
      rw [hw1]
      clear hw1 w1 HCZ
      cases q with
      | true =>
        have HR : Hid (d = true) := Lib.hid (by rw [← HD.out]; exact List.any_eq_true.2 ⟨z, List.mem_of_getElem? HZ.out, by simpa using of_decide_eq_true HQ.out⟩)
        go_wp2_with fail
        go_ret
        exact ⟨by rw [HR.out]; rfl, rfl⟩
      | false =>
        have HN := Lib.hid (contra_take HZ.out HI.out.2 (of_decide_eq_false HQ.out))
        go_wp2_with fail
        go_roundg (n - (k + 1))
        case measure => rw [HI.out.1]; omega
        case rel => exact ⟨k + 1, rfl, rfl, by omega, rfl, HN.out⟩
    · have hke : k = n := by omega
      subst hke
      have f1 : decide (k < k) = false := by simp
      have HR : Hid (d = false) := Lib.hid (by rw [← HD.out]; have := HI.out.2; rwa [← HH.out.2.1, List.take_length] at this)
      go_wp2_with fail
      go_ret
      exact ⟨by rw [HR.out]; rfl, rfl⟩
/-- A clause's state under literals: 0 satisfied or open, 1 falsified, 2 unit (and which literal). -/
def stP (tr c : List Int) : Int × Int :=
  if hot tr c = true then (match c.find? (und tr) with | some x => (2, x) | none => (1, 0)) else (0, 0)
theorem st_of {tr c : List Int} {u n : Int} (h : unP tr c = (u, n)) : (n = 2 → stP tr c = (0, 0)) ∧ (n = 0 → stP tr c = (1, 0)) ∧ (n = 1 → stP tr c = (2, u)) := by
  unfold unP at h
  unfold stP
  by_cases hb : hot tr c = true
  · rw [if_pos hb] at h ⊢
    cases hf : c.find? (und tr) with
    | none => rw [hf] at h; simp at h ⊢; omega
    | some x => rw [hf] at h; simp at h ⊢; omega
  · rw [if_neg hb] at h ⊢; simp at h ⊢; omega
set_option maxHeartbeats 8000000 in
set_option maxRecDepth 100000 in
theorem status_calls (L tr : List Int) (a a' : Option Addr) (c c' : Nat) (w : World) (h : IntsW w a c L) (h' : IntsW w a' c' tr) (hl : L.length ≤ 100000) (hl' : tr.length ≤ 100000) (hb : ∀ x ∈ L, x ≠ 0 ∧ -1000000 ≤ x ∧ x ≤ 1000000) :
    Calls Try.prog 28 #[.slice a L.length c, .slice a' tr.length c'] w fun e w' => e = .returned (.tuple #[.int .i64 (stP tr L).1, .int .i64 (stP tr L).2]) ∧ w' = w := by
  obtain ⟨n, hn⟩ : ∃ n, L.length = n := ⟨_, rfl⟩
  have HC := Lib.hid (fun x => has_calls tr a' c' x w h' hl')
  obtain ⟨m, hm⟩ : ∃ m, tr.length = m := ⟨_, rfl⟩
  have HH := Lib.hid (And.intro h (And.intro hn hb))
  rw [hm] at HC
  rw [hn] at hl ⊢
  rw [hm]
  clear h h' hn hm hl' hb
  obtain ⟨ru, hru⟩ : ∃ z, stP tr L = z := ⟨_, rfl⟩
  rw [hru]
  have HR := Lib.hid hru
  clear hru
  have fin : ∀ (tmps : Array Value) (w : World) (x y : Value), tmps.getD 4 undef = x → tmps.getD 5 undef = y → (results Try.f28 tmps).run Try.prog w = .ok (.tuple #[x, y]) w := fun tmps w x y e1 e2 => by
    have e1' : tmps[4]?.getD undef = x := by simpa using e1
    have e2' : tmps[5]?.getD undef = y := by simpa using e2
    simp [results, Try.results28, e1', e2', go_sem]
  have HF := Lib.hid fin
  clear fin
  go_enter Try.func28, Try.ntmps28
  go_wp2_with fail
  go_loopg [6, 7, 8, 9] n (fun gk s6 s7 _s8 _s9 w' => ∃ (k : Nat) (u q : Int), s6 = .int .i64 u ∧ s7 = .int .i64 (k : Int) ∧ gk = n - k ∧ k ≤ n ∧ w' = w ∧ UnI tr L k u q ∧ (q = 1 → u ≠ 0))
  case atStart => exact ⟨0, 0, 0, rfl, rfl, rfl, by omega, rfl, UnI.start tr L, fun e => absurd e (by decide)⟩
  case round =>
    obtain ⟨k, u, q, rfl, rfl, hgk, hk, rfl, hun, hq0⟩ := hrel
    have HI := Lib.hid (And.intro hgk (And.intro hun hq0))
    have hq01 : (q = 0 ∧ u = 0) ∨ (q = 1 ∧ u ≠ 0) := hun.2.elim (fun h => .inl ⟨h.1, h.2.1⟩) (fun h => .inr ⟨h.1, hq0 h.1⟩)
    clear hgk hun hq0
    by_cases hkn : k < n
    · have f1 : decide ((k : Int) < (n : Int)) = true := decide_eq_true (by omega)
      have f1' : decide (k < n) = true := decide_eq_true hkn
      have i0 : (0 : Int) ≤ (k : Int) := by omega
      have i1 : (k : Int) < (n : Int) := by omega
      have k1 : IntKind.i64.wrap ((k : Int) + 1) = (k : Int) + 1 := IntWalk.i64_in _ (by omega)
      obtain ⟨z, hz⟩ : ∃ z, L[k]? = some z := ⟨_, List.getElem?_eq_getElem (by rw [HH.out.2.1]; exact hkn)⟩
      obtain ⟨b, o, rfl, hcell⟩ := HH.out.1.at hz
      have hzb := HH.out.2.2 z (List.mem_of_getElem? hz)
      have kz : IntKind.i64.wrap (-z) = -z := IntWalk.i64_in _ (by omega)
      have HZ := Lib.hid (And.intro hz (And.intro (List.mem_of_getElem? hz) hzb))
      clear hz hzb
      have HC1 := Lib.hid (HC.out z)
      have HC2 := Lib.hid (HC.out (-z))
      obtain ⟨q1, hq1⟩ : ∃ q, decide (z ∈ tr) = q := ⟨_, rfl⟩
      obtain ⟨q2, hq2⟩ : ∃ q, decide (-z ∈ tr) = q := ⟨_, rfl⟩
      rw [hq1] at HC1
      rw [hq2] at HC2
      have HQ := Lib.hid (And.intro hq1 hq2)
      clear hq1 hq2
      go_wp2_with fail
      refine HC1.out.mono ?_
      rintro e w1 ⟨rfl, hw1⟩
      rw [hw1]
      clear hw1 w1 HC1
      go_wp2_with fail
      refine HC2.out.mono ?_
      rintro e w1 ⟨rfl, hw1⟩
      rw [hw1]
      clear hw1 w1 HC2
      cases q1 with
      | true =>
        have HE : Hid (ru = (0, 0)) := Lib.hid (by rw [← HR.out]; exact (st_of (hot_true HZ.out.2.1 (of_decide_eq_true HQ.out.1))).1 rfl)
        go_wp2_with fail
        refine bodyPost_ret (v := .tuple #[.int .i64 0, .int .i64 0]) (HF.out _ _ _ _ rfl rfl) rfl ?_
        exact ⟨by rw [HE.out], rfl⟩
      | false =>
        cases q2 with
        | true =>
          have HN : Hid (UnI tr L (k + 1) u q) := Lib.hid (HI.out.2.1.skip HZ.out.1 (of_decide_eq_false HQ.out.1) (by
            cases hb : und tr z with
            | false => rfl
            | true => exact absurd (of_decide_eq_true HQ.out.2) ((und_iff tr z).1 hb).2))
          go_wp2_with fail
          go_roundg (n - (k + 1))
          case measure => rw [HI.out.1]; omega
          case rel => exact ⟨k + 1, u, q, rfl, rfl, rfl, by omega, rfl, HN.out, HI.out.2.2⟩
        | false =>
          have HU : Hid (und tr z = true) := Lib.hid ((und_iff tr z).2 ⟨of_decide_eq_false HQ.out.1, of_decide_eq_false HQ.out.2⟩)
          rcases hq01 with ⟨rfl, rfl⟩ | ⟨rfl, hu0⟩
          · have HN : Hid (UnI tr L (k + 1) z 1) := Lib.hid (HI.out.2.1.open_ HZ.out.1 HU.out (fun e => absurd e (by decide)))
            go_wp2_with fail
            go_roundg (n - (k + 1))
            case measure => rw [HI.out.1]; omega
            case rel => exact ⟨k + 1, z, 1, rfl, rfl, rfl, by omega, rfl, HN.out, fun _ => HZ.out.2.2.1⟩
          · have b0 : (u != 0) = true := by simpa using hu0
            by_cases hzu : z = u
            · have b1 : (u != z) = false := by simp [hzu]
              have HN : Hid (UnI tr L (k + 1) z 1) := Lib.hid (HI.out.2.1.open_ HZ.out.1 HU.out (fun _ => hzu))
              clear hzu hu0
              go_wp2_with fail
              go_roundg (n - (k + 1))
              case measure => rw [HI.out.1]; omega
              case rel => exact ⟨k + 1, z, 1, rfl, rfl, rfl, by omega, rfl, HN.out, fun _ => HZ.out.2.2.1⟩
            · have b1 : (u != z) = true := by simpa using fun e => hzu e.symm
              have HE : Hid (ru = (0, 0)) := Lib.hid (by rw [← HR.out]; exact (st_of (HI.out.2.1.two HZ.out.1 HU.out hzu)).1 rfl)
              clear hzu hu0
              go_wp2_with fail
              refine bodyPost_ret (v := .tuple #[.int .i64 0, .int .i64 0]) (HF.out _ _ _ _ rfl rfl) rfl ?_
              exact ⟨by rw [HE.out], rfl⟩
    · have hke : k = n := by omega
      subst hke
      have f1 : decide (k < k) = false := by simp
      have hd : unP tr L = (u, q) := by have h := HI.out.2.1; rw [← HH.out.2.1] at h; exact h.done
      have HD := Lib.hid (st_of hd)
      clear hd
      rcases hq01 with ⟨rfl, rfl⟩ | ⟨rfl, hu0⟩
      · have HE : Hid (ru = (1, 0)) := Lib.hid (by rw [← HR.out]; exact HD.out.2.1 rfl)
        go_wp2_with fail
        refine bodyPost_ret (v := .tuple #[.int .i64 1, .int .i64 0]) (HF.out _ _ _ _ rfl rfl) rfl ?_
        exact ⟨by rw [HE.out], rfl⟩
      · have b0 : (u == 0) = false := by simpa using hu0
        have HE : Hid (ru = (2, u)) := Lib.hid (by rw [← HR.out]; exact HD.out.2.2 rfl)
        clear hu0
        go_wp2_with fail
        refine bodyPost_ret (v := .tuple #[.int .i64 2, .int .i64 u]) (HF.out _ _ _ _ rfl rfl) rfl ?_
        exact ⟨by rw [HE.out], rfl⟩
end Go.Proofs.Ythkemajekkilmaa
/- The laws, plainly: what Closed asks. -/
namespace Go.Proofs.Ythkemajekkilmaa
theorem und_same {tr tr' : List Int} (h : ∀ x, x ∈ tr ↔ x ∈ tr') : und tr = und tr' := by
  funext x
  rw [Bool.eq_iff_iff, und_iff, und_iff, h, h]
theorem hot_same {tr tr' : List Int} (h : ∀ x, x ∈ tr ↔ x ∈ tr') (c : List Int) : hot tr c = hot tr' c := by
  rw [Bool.eq_iff_iff, hot_iff, hot_iff, und_same h]
  simp only [h]
theorem st_same {tr tr' : List Int} (h : ∀ x, x ∈ tr ↔ x ∈ tr') (c : List Int) : stP tr c = stP tr' c := by
  unfold stP
  rw [hot_same h, und_same h]
theorem steps_free {V : Nat} {C : List (List Int)} : ∀ (l qs tr : List Int), Steps C tr l qs → (∀ y ∈ l, InR V y) → l.length ≤ free V tr
  | [], [], _, _, _ => Nat.zero_le _
  | [], _ :: _, _, h, _ => by cases h
  | _ :: _, [], _, h, _ => by cases h
  | x :: l, q :: qs, tr, h, hr => by
    obtain ⟨⟨i, _, _, _, hf⟩, hs⟩ := h
    have h1 := steps_free l qs (tr ++ [x]) hs (fun y hy => hr y (List.mem_cons_of_mem _ hy))
    have h2 := free_snoc (hr x (by simp)) (List.find?_some hf)
    rw [List.length_cons]
    omega
theorem imp_le {V : Nat} {C : List (List Int)} (hR : Ran V C) (A : List Int) : (impP V C A).length ≤ V := by
  unfold impP
  cases h : contraP A with
  | true => rw [propP_contra h]; exact Nat.zero_le _
  | false =>
    obtain ⟨l, qs, k, e, hs, _, _, hr, _⟩ := propP_spec hR h
    rw [e]
    simp only [List.drop_left]
    exact Nat.le_trans (steps_free l qs _ hs hr) (free_le V _)
theorem imp_range {V : Nat} {C : List (List Int)} (hR : Ran V C) (A : List Int) : ∀ x ∈ impP V C A, InR V x := by
  unfold impP
  cases h : contraP A with
  | true => rw [propP_contra h]; exact fun x hx => by simp at hx
  | false =>
    obtain ⟨l, qs, k, e, hs, _, _, hr, _⟩ := propP_spec hR h
    rw [e]
    simp only [List.drop_left]
    exact hr
/-- What the run leaves, over the literals as they came and what is implied. -/
theorem closed_all {V : Nat} {C : List (List Int)} (hR : Ran V C) {A : List Int} (hc : contraP A = false) :
    contraP (A ++ impP V C A) = false ∧ (cfP V C A = -1 → ∀ c ∈ C, stP (A ++ impP V C A) c = (0, 0)) ∧
      (cfP V C A ≠ -1 → ∃ i : Nat, cfP V C A = (i : Int) ∧ i < C.length ∧ stP (A ++ impP V C A) (C.getD i []) = (1, 0)) := by
  unfold cfP impP
  obtain ⟨l, qs, k, e, hs, hco, hd, hr, hk⟩ := propP_spec hR hc
  rw [e]
  simp only [List.drop_left]
  have hm : ∀ x, x ∈ A ++ l ↔ x ∈ uq A ++ l := fun x => by rw [List.mem_append, List.mem_append, mem_uq]
  refine ⟨?_, fun h => ?_, fun h => ?_⟩
  · rw [contra_same hm]
    cases hb : contraP (uq A ++ l) with
    | false => rfl
    | true =>
      obtain ⟨x, hx, hn⟩ := List.any_eq_true.1 hb
      exact absurd (by simpa using hn) (hco x hx)
  · have hsh : Shut C (uq A ++ l) := by
      rcases hk with ⟨_, h1⟩ | ⟨i, h1, _⟩
      · exact h1
      · omega
    intro c hcm
    rw [st_same hm]
    unfold stP
    rw [if_neg (by rw [hsh c hcm]; decide)]
  · rcases hk with ⟨h1, _⟩ | ⟨i, h1, hi, hh, hall⟩
    · exact absurd h1 h
    · refine ⟨i, h1, hi, ?_⟩
      rw [st_same hm]
      unfold stP
      have hf : (C.getD i []).find? (und (uq A ++ l)) = none := by
        rw [List.find?_eq_none]
        intro y hy hu
        exact ((und_iff _ y).1 hu).2 (hall y hy)
      rw [if_pos hh, hf]
end Go.Proofs.Ythkemajekkilmaa
/- Levels: the plain side, and the map of maps. -/
namespace Go.Proofs.Ythkemajekkilmaa
open Go.RowKit Go.Maps
theorem setAt_snoc (D : List (Int × List Int)) (p : Int × List Int) (k : Int) : setAt (D ++ [p]) k = if p.1 = k then p.2 else setAt D k := by
  unfold setAt
  rw [List.reverse_append, List.reverse_singleton, List.singleton_append, List.find?_cons]
  by_cases h : p.1 = k
  · rw [if_pos h, show (p.1 == k) = true from by simp [h]]
  · rw [if_neg h, show (p.1 == k) = false from by simp [h]]
theorem setAt_sub {D : List (Int × List Int)} {A : List Int} (h : ∀ p ∈ D, ∀ x ∈ p.2, x ∈ A) (k : Int) : ∀ x ∈ setAt D k, x ∈ A := by
  unfold setAt
  cases hf : D.reverse.find? (fun p => p.1 == k) with
  | none => exact fun x hx => by cases hx
  | some p => exact h p (List.mem_reverse.1 (List.mem_of_find?_eq_some hf))
theorem mem_restOn {D : List (Int × List Int)} {x : Int} {c : List Int} (z : Int) : z ∈ restOn D x c ↔ ∃ y ∈ c, y ≠ x ∧ z ∈ setAt D (-y) := by
  unfold restOn
  rw [mem_uq, List.mem_flatMap]
  constructor
  · rintro ⟨y, hy, hz⟩
    rw [List.mem_filter] at hy
    exact ⟨y, hy.1, by simpa using hy.2, hz⟩
  · rintro ⟨y, hy, hne, hz⟩
    exact ⟨y, List.mem_filter.2 ⟨hy, by simpa using hne⟩, hz⟩
theorem uq_len_same {S T : List Int} (h : ∀ x, x ∈ S ↔ x ∈ T) : (uq S).length = (uq T).length := by
  refine Nat.le_antisymm (nodup_len (nodup_uq S) fun x hx => ?_) (nodup_len (nodup_uq T) fun x hx => ?_)
  · rw [mem_uq] at hx ⊢; exact (h x).1 hx
  · rw [mem_uq] at hx ⊢; exact (h x).2 hx
theorem uq_len_sub {S A : List Int} (h : ∀ x ∈ S, x ∈ A) : (uq S).length ≤ A.length := nodup_len (nodup_uq S) fun x hx => h x ((mem_uq S x).1 hx)
theorem uq_nodup {l : List Int} (h : l.Nodup) : (uq l).length = l.length := by
  refine Nat.le_antisymm (nodup_len (nodup_uq l) fun x hx => (mem_uq l x).1 hx) (nodup_len h fun x hx => (mem_uq l x).2 hx)
theorem addKey_uq : ∀ (S : List Int), (S.map (Lit.int .i64)).foldl Maps.addKey [] = (uq S).map (Lit.int .i64) := by
  refine snoc_ind (by simp [uq]) (fun S x ih => ?_)
  rw [List.map_append, List.foldl_append, ih, uq_snoc]
  simp only [List.map_singleton, List.foldl_cons, List.foldl_nil]
  unfold Maps.addKey
  by_cases hx : x ∈ uq S
  · rw [if_pos hx, if_pos]
    exact List.any_eq_true.2 ⟨_, List.mem_map.2 ⟨x, hx, rfl⟩, Go.WideAt.sameKey_self (by trivial)⟩
  · rw [if_neg hx, if_neg, List.map_append, List.map_singleton]
    intro h
    obtain ⟨y, hy, hs⟩ := List.any_eq_true.1 h
    obtain ⟨z, hz, rfl⟩ := List.mem_map.1 hy
    have := Go.WideAt.sameKey_eq hs
    injection this with _ e
    exact hx (e ▸ hz)
theorem size_setD (S : List Int) : Maps.size (setD S) = (uq S).length := by
  rw [Maps.size_setOf _ _ (isKey_ints S), addKey_uq, List.length_map]
/-- A map that bears a set at each of its keys. -/
def Deps (w : World) (bm : Nat) (D : List (Int × List Int)) (D' : List (Int × Nat)) : Prop :=
  MapB w bm D' ∧ D'.length = D.length ∧ ∀ k ∈ D.map Prod.fst, ∃ b : Nat, lastAt D' k = (b : Int) ∧ b ≠ bm ∧ ∃ S, SetM w b S ∧ ∀ x, x ∈ S ↔ x ∈ setAt D k
theorem Deps.grown {w w' : World} {bm : Nat} {D : List (Int × List Int)} {D' : List (Int × Nat)} {r : Option Nat} (h : Deps w bm D D') (hg : w.grownBy w' r) (hr : ∀ b, r = some b → w.heap.size ≤ b) : Deps w' bm D D' := by
  have hne : ∀ b, b < w.heap.size → some b ≠ r := fun b hb e => by have := hr b e.symm; omega
  refine ⟨h.1.grown hg (hne _ h.1.lt), h.2.1, fun k hk => ?_⟩
  obtain ⟨b, h1, h2, S, h3, h4⟩ := h.2.2 k hk
  exact ⟨b, h1, h2, S, h3.grown hg (hne _ h3.lt), h4⟩
theorem Deps.store {w w' : World} {bm : Nat} {D : List (Int × List Int)} {D' : List (Int × Nat)} (h : Deps w bm D D') {b : Nat} {S T : List Int} {k : Int} (hs : SetM w b S) (hm : ∀ x, x ∈ S ↔ x ∈ T) (hb : b ≠ bm)
    (hM : MapB w' bm (D' ++ [(k, b)])) (hg : w.grownBy w' (some bm)) : Deps w' bm (D ++ [(k, T)]) (D' ++ [(k, b)]) := by
  refine ⟨hM, by rw [List.length_append, List.length_append, h.2.1]; rfl, fun j hj => ?_⟩
  rw [lastAt_snoc, setAt_snoc]
  by_cases e : k = j
  · rw [if_pos e, if_pos e]
    exact ⟨b, rfl, hb, S, hs.grown hg (by intro e2; injection e2 with e2; exact hb e2), hm⟩
  · rw [if_neg e, if_neg e]
    rw [List.map_append, List.mem_append] at hj
    rcases hj with hj | hj
    · obtain ⟨b', h1, h2, S', h3, h4⟩ := h.2.2 j hj
      exact ⟨b', h1, h2, S', h3.grown hg (by intro e2; injection e2 with e2; exact h2 e2), h4⟩
    · have h1 : j = k := by simpa using hj
      exact absurd h1.symm e
theorem Deps.new (w : World) : Deps (w.alloc (.map #[] 0)) w.heap.size [] [] := ⟨MapB.new w, rfl, fun k hk => by cases hk⟩
theorem SetM.isMap {w : World} {b : Nat} {S : List Int} (h : SetM w b S) : ∃ es c, w.heap[b]? = some (.map es c) := by
  obtain ⟨es, c, h1, _⟩ := h.1
  exact ⟨es, c, h1⟩
theorem MapB.isMap {w : World} {b : Nat} {D : List (Int × Nat)} (h : MapB w b D) : ∃ es c, w.heap[b]? = some (.map es c) := by
  obtain ⟨es, c, h1, _⟩ := h.1
  exact ⟨es, c, h1⟩
theorem own_not_map {w : World} {B n size : Nat} {e : TypeId} {v : Value} {xs : List Value} (h : w.ownsRow B e size v n xs) {b : Nat} (hb : ∃ es c, w.heap[b]? = some (.map es c)) : v.ownBlock ≠ some b := by
  intro e1
  obtain ⟨es, c, hb⟩ := hb
  rcases h.2 with ⟨rfl, _⟩ | ⟨g, cap, cur, rfl, _, hc, _⟩
  · cases e1
  · have : g = b := by injection e1
    subst this
    rw [hb] at hc
    cases hc
theorem Deps.beside {w w' : World} {bm : Nat} {D : List (Int × List Int)} {D' : List (Int × Nat)} (h : Deps w bm D D') {B n size : Nat} {e : TypeId} {v : Value} {xs : List Value} (hr : w.ownsRow B e size v n xs) (hg : w.grownBy w' v.ownBlock) : Deps w' bm D D' := by
  refine ⟨h.1.grown hg (fun e => own_not_map hr h.1.isMap e.symm), h.2.1, fun k hk => ?_⟩
  obtain ⟨b, h1, h2, S, h3, h4⟩ := h.2.2 k hk
  exact ⟨b, h1, h2, S, h3.grown hg (fun e => own_not_map hr h3.isMap e.symm), h4⟩
theorem mem_step_eq {x y : Int} (h : y = x) (l : List Int) (p : Int → Prop) : (∃ u ∈ l, u ≠ x ∧ p u) ↔ ∃ u ∈ l ++ [y], u ≠ x ∧ p u := by
  constructor
  · rintro ⟨u, h1, h2⟩; exact ⟨u, List.mem_append_left _ h1, h2⟩
  · rintro ⟨u, h1, h2, h3⟩
    rcases List.mem_append.1 h1 with h1 | h1
    · exact ⟨u, h1, h2, h3⟩
    · exact absurd ((List.mem_singleton.1 h1).trans h) h2
theorem mem_step_ne {x y : Int} (h : y ≠ x) (l : List Int) (p : Int → Prop) : ((∃ u ∈ l, u ≠ x ∧ p u) ∨ p y) ↔ ∃ u ∈ l ++ [y], u ≠ x ∧ p u := by
  constructor
  · rintro (⟨u, h1, h2⟩ | h1)
    · exact ⟨u, List.mem_append_left _ h1, h2⟩
    · exact ⟨y, by simp, h, h1⟩
  · rintro ⟨u, h1, h2, h3⟩
    rcases List.mem_append.1 h1 with h1 | h1
    · exact .inl ⟨u, h1, h2, h3⟩
    · rw [List.mem_singleton.1 h1] at h3; exact .inr h3
theorem lev_step {C : List (List Int)} {RP : List (Int × Int)} {q : Nat} {x : Int} {i : Nat} (h : RP[q]? = some (x, (i : Int))) {z : List Int} (hz : C.getD i [] = z) {D : List (Int × List Int)} {lv : Nat} (hl : (restOn D x z).length = lv) {out : List Int} :
    out ++ levsGo C (RP.drop q) D = (out ++ [(lv : Int)]) ++ levsGo C (RP.drop (q + 1)) (D ++ [(x, restOn D x z)]) := by
  obtain ⟨hlt, e2⟩ := List.getElem?_eq_some_iff.1 h
  rw [List.drop_eq_getElem_cons hlt, e2]
  conv => lhs; unfold levsGo
  rw [show ((i : Int)).toNat = i from rfl, hz, hl, List.append_assoc]
  rfl
theorem steps_at {C : List (List Int)} : ∀ (l qs tr : List Int), Steps C tr l qs → ∀ (j : Nat) (x r : Int), l[j]? = some x → qs[j]? = some r →
    ∃ i : Nat, r = (i : Int) ∧ i < C.length ∧ ∀ y ∈ C.getD i [], y ≠ x → -y ∈ tr ++ l.take j
  | [], [], _, _, j, x, r, hx, _ => by simp at hx
  | [], _ :: _, _, h, _, _, _, _, _ => by cases h
  | _ :: _, [], _, h, _, _, _, _, _ => by cases h
  | x0 :: l, q0 :: qs, tr, h, j, x, r, hx, hr => by
    obtain ⟨⟨i, h1, h2, h3, h4⟩, hs⟩ := h
    match j, hx, hr with
    | 0, hx, hr =>
      simp at hx hr
      subst hx hr
      exact ⟨i, h1, h2, by simpa using unit_rest h3 h4⟩
    | j + 1, hx, hr =>
      simp at hx hr
      obtain ⟨i', g1, g2, g3⟩ := steps_at l qs _ hs j x r hx hr
      exact ⟨i', g1, g2, by simpa using g3⟩
/-- What Levels meets. -/
theorem lev_facts {V : Nat} {C : List (List Int)} (hR : Ran V C) {A : List Int} :
    levP V C A = levsGo C (reasP V C A) (((propP V C A).1.take (propP V C A).2.1).map fun a => (a, [a])) ∧ (∀ x ∈ (propP V C A).1.take (propP V C A).2.1, x ∈ A) ∧ (∀ x ∈ impP V C A, InR V x) ∧ ((propP V C A).1.take (propP V C A).2.1).length ≤ A.length ∧
      ∀ (j : Nat) (x r : Int), (impP V C A)[j]? = some x → (propP V C A).2.2.1[j]? = some r → ∃ i : Nat, r = (i : Int) ∧ i < C.length ∧ ∀ y ∈ C.getD i [], y ≠ x → -y ∈ ((propP V C A).1.take (propP V C A).2.1) ++ (impP V C A).take j := by
  refine ⟨?_, ?_, imp_range hR A, ?_⟩
  · unfold levP decs0
    cases h : contraP A with
    | true =>
      unfold reasP impP
      rw [propP_contra h]
      rfl
    | false =>
      obtain ⟨l, qs, k, e, _⟩ := propP_spec hR h
      rw [e]
      simp
  · cases h : contraP A with
    | true => rw [propP_contra h]; exact fun x hx => by simp at hx
    | false =>
      obtain ⟨l, qs, k, e, _⟩ := propP_spec hR h
      rw [e]
      simp only [List.take_left]
      exact fun x hx => (mem_uq A x).1 hx
  · unfold impP
    cases h : contraP A with
    | true => rw [propP_contra h]; exact ⟨by simp, fun j x r hx => by simp at hx⟩
    | false =>
      obtain ⟨l, qs, k, e, hs, _⟩ := propP_spec hR h
      rw [e]
      simp only [List.drop_left, List.take_left]
      exact ⟨uq_len A, fun j x r hx hr => steps_at l qs _ hs j x r hx hr⟩
theorem lev_kf {V : Nat} {C : List (List Int)} (hR : Ran V C) {A : List Int} (h : 0 < (impP V C A).length) : (propP V C A).2.2.2 ≠ -2 := by
  cases hc : contraP A with
  | true => unfold impP at h; rw [propP_contra hc] at h; simp at h
  | false =>
    obtain ⟨l, qs, k, e, _, _, _, _, hk⟩ := propP_spec hR hc
    rw [e]
    simp only
    rcases hk with ⟨rfl, _⟩ | ⟨i, rfl, _⟩
    · decide
    · omega
end Go.Proofs.Ythkemajekkilmaa

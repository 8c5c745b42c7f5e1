/- The sum of two unary numbers over a builder. -/
import Derived.Test.YthagoihpppppkaaO3
namespace Go.Proofs.Ythagoihpppppkaa
open Go.RowKit Go.Maps

/-- A row of integers that is read, none of whose blocks is among N. -/
def IntsN (N : Nat → Prop) (w : World) (a : Option Addr) (c : Nat) (zs : List Int) : Prop :=
  zs.length ≤ c ∧ (zs = [] ∨ ∃ b o, a = some ⟨b, o, none⟩ ∧ ¬ N b ∧ b < w.heap.size ∧ ∀ (j : Nat) (z : Int), zs[j]? = some z → w.cell? ⟨b, o + j, none⟩ = some (.int .i64 z))
theorem IntsN.off {N N' : Nat → Prop} {w w' : World} {a : Option Addr} {c : Nat} {zs : List Int} (h : IntsN N w a c zs) (ho : Off N w w') (hn : ∀ k, N' k → N k ∨ w.heap.size ≤ k) : IntsN N' w' a c zs := by
  obtain ⟨hc, h | ⟨b, o, ha, hb, hl, hz⟩⟩ := h
  · exact ⟨hc, .inl h⟩
  · exact ⟨hc, .inr ⟨b, o, ha, fun h => by rcases hn b h with h1 | h1; exact hb h1; omega, Nat.lt_of_lt_of_le hl ho.size, fun j z hj => ho.cell (hz j z hj) hb⟩⟩
theorem IntsN.weak {N : Nat → Prop} {w : World} {a : Option Addr} {c : Nat} {zs : List Int} (h : IntsN N w a c zs) : IntsW w a c zs := by
  obtain ⟨hc, h | ⟨b, o, ha, hb, hl, hz⟩⟩ := h
  · exact ⟨hc, .inl h⟩
  · exact ⟨hc, .inr ⟨b, o, ha, hz⟩⟩
theorem IntsW.far {N : Nat → Prop} {w0 w : World} {a : Option Addr} {c : Nat} {zs : List Int} (h : IntsW w0 a c zs) (hg : w0.grownBy w none) (hn : ∀ k, N k → w0.heap.size ≤ k) : IntsN N w a c zs := by
  obtain ⟨hc, h | ⟨b, o, ha, hz⟩⟩ := h
  · exact ⟨hc, .inl h⟩
  · cases zs with
    | nil => exact ⟨hc, .inl rfl⟩
    | cons x l =>
      have h0 := hz 0 x rfl
      have hl : b < w0.heap.size := lies_lt h0
      exact ⟨hc, .inr ⟨b, o, ha, fun h => by have := hn b h; omega, Nat.lt_of_lt_of_le hl hg.size, fun j z hj => hg.cell (hz j z hj) (by simp)⟩⟩
theorem IntsN.own {N : Nat → Prop} {w : World} {B : Nat} {a : Option Addr} {c : Nat} {l : List Int} {n : Nat} (hn : l.length = n) (h : w.ownsRow B 3 1 (.slice a n c) n (intCells l)) (hb : ∀ k, (Value.slice a n c).ownBlock = some k → ¬ N k) : IntsN N w a c l := by
  subst hn
  rcases Nat.eq_zero_or_pos l.length with h0 | h0
  · rw [List.eq_nil_of_length_eq_zero h0]; exact ⟨Nat.zero_le _, .inl rfl⟩
  · obtain ⟨b, rfl, hi, _, hc⟩ := own_iarr h h0
    exact ⟨hc, .inr ⟨b, 0, rfl, hb b rfl, hi.low, fun j z hj => by rw [Nat.zero_add]; exact hi.cells j z hj⟩⟩
/-- A builder in the box q over the growing circuit p whose blocks lie in N. -/
structure GS (p q : Nat) (N : Nat → Prop) (w : World) (gs : List Gt) (hi : Int) : Prop where
  gx : GX p N w gs hi
  q0 : w.cell? ⟨q, 0, none⟩ = some (.pointer (some ⟨p, 0, none⟩))
  nq : ¬ N q
  low : ∀ k, N k → k < w.heap.size
/-- From N at w to N' at w': nothing but N has turned; N' is N and what is new. -/
def Goes (N : Nat → Prop) (w : World) (N' : Nat → Prop) (w' : World) : Prop := Off N w w' ∧ ∀ k, N' k → N k ∨ w.heap.size ≤ k
theorem Goes.refl (N : Nat → Prop) (w : World) : Goes N w N w := ⟨Off.refl N w, fun _ h => .inl h⟩
theorem Goes.trans {N N1 N2 : Nat → Prop} {w w1 w2 : World} (h : Goes N w N1 w1) (h2 : Goes N1 w1 N2 w2) : Goes N w N2 w2 :=
  ⟨h.1.trans h2.1 (fun k hk h1 => (h.2 k h1).resolve_right (by omega)), fun k hk => by
    rcases h2.2 k hk with h1 | h1
    · exact h.2 k h1
    · have := h.1.size; exact .inr (by omega)⟩
theorem Goes.grown {N : Nat → Prop} {w w' : World} (hg : w.grownBy w' none) : Goes N w N w' := ⟨Off.of hg (fun k e => by cases e), fun _ h => .inl h⟩
theorem IntsN.goes {N N' : Nat → Prop} {w w' : World} {a : Option Addr} {c : Nat} {zs : List Int} (h : IntsN N w a c zs) (hg : Goes N w N' w') : IntsN N' w' a c zs := h.off hg.1 hg.2
theorem GS.step {p q : Nat} {N N' : Nat → Prop} {w w' : World} {gs gs' : List Gt} {hi hi' : Int} (h : GS p q N w gs hi) (hx : GX p N' w' gs' hi') (hg : Goes N w N' w') (hl : ∀ k, N' k → k < w'.heap.size) : GS p q N' w' gs' hi' :=
  ⟨hx, hg.1.cell h.q0 h.nq, fun e => by rcases hg.2 q e with h1 | h1; exact h.nq h1; have : q < w.heap.size := lies_lt h.q0; omega, hl⟩
theorem GS.grown {p q : Nat} {N : Nat → Prop} {w w' : World} {gs : List Gt} {hi : Int} (h : GS p q N w gs hi) (hg : w.grownBy w' none) : GS p q N w' gs hi :=
  h.step (h.gx.grown hg) (Goes.grown hg) (fun k hk => Nat.lt_of_lt_of_le (h.low k hk) hg.size)
/-- The builder, and how it came from w0. -/
structure AddS (p q : Nat) (N0 : Nat → Prop) (w0 : World) (N : Nat → Prop) (w : World) (gs : List Gt) (hi : Int) : Prop where
  gs : GS p q N w gs hi
  go : Goes N0 w0 N w
theorem AddS.step {p q : Nat} {N0 : Nat → Prop} {w0 : World} {N N' : Nat → Prop} {w w' : World} {gs gs' : List Gt} {hi hi' : Int} (h : AddS p q N0 w0 N w gs hi) (hx : GX p N' w' gs' hi') (ho : Off N w w') (hn : ∀ k, N' k → N k ∨ w.heap.size ≤ k) (hl : ∀ k, N' k → k < w'.heap.size) : AddS p q N0 w0 N' w' gs' hi' :=
  ⟨h.gs.step hx ⟨ho, hn⟩ hl, h.go.trans ⟨ho, hn⟩⟩
theorem GS.p_lt {p q : Nat} {N : Nat → Prop} {w : World} {gs : List Gt} {hi : Int} (h : GS p q N w gs hi) : p < w.heap.size := by
  obtain ⟨_, _, _, _, _, g, _⟩ := h.gx
  exact lies_lt g.c0
theorem GS.far {p q : Nat} {N : Nat → Prop} {w w' : World} {gs : List Gt} {hi : Int} {r : Option Nat} (h : GS p q N w gs hi) (hg : w.grownBy w' r) (hr : ∀ x, r = some x → p ≤ x ∧ q ≠ x ∧ ¬ N x) : GS p q N w' gs hi :=
  ⟨h.gx.far hg (fun x e => ⟨(hr x e).1, (hr x e).2.2⟩), hg.cell h.q0 (fun e => (hr q e.symm).2.1 rfl), h.nq, fun k hk => Nat.lt_of_lt_of_le (h.low k hk) hg.size⟩
theorem or_le {gs : List Gt} {a b : Int} (ha : a ≤ 9223372036854775807) (hb : b ≤ 9223372036854775807) (hl : gs.length ≤ 10000) : (orC gs a b).2 ≤ 9223372036854775807 := by
  show notR (andC gs (notR a) (notR b)).2 ≤ _
  exact notR_le (and_le (notR_le ha) (notR_le hb) hl)
theorem gand_c (gs : List Gt) (a b : Int) (p : Nat) (g1 : List Gt) (t : Int) (e : andC gs a b = (g1, t)) (hG : Good gs) (hl : gs.length ≤ 990) (M : Nat → Prop) (w : World) (hi : Int) (h : GX p M w gs hi) :
    Calls Try.prog 39 #[.pointer (some ⟨p, 0, none⟩), .int .i64 a, .int .i64 b] w fun e w' => e = .returned (.int .i64 t) ∧ ∃ hi', GX p (fun k => M k ∨ w.heap.size ≤ k) w' g1 hi' ∧ Off M w w' := by
  have h1 := gand_calls gs a b p M w hi h hG hl
  rw [e] at h1
  exact h1.mono (fun e w' hh => ⟨hh.1, _, hh.2.1, hh.2.2⟩)
theorem gor_c (gs : List Gt) (a b : Int) (p : Nat) (g1 : List Gt) (t : Int) (e : orC gs a b = (g1, t)) (hG : Good gs) (hl : gs.length ≤ 990) (ha : a ≤ 9223372036854775807) (hb : b ≤ 9223372036854775807) (M : Nat → Prop) (w : World) (hi : Int) (h : GX p M w gs hi) :
    Calls Try.prog 38 #[.pointer (some ⟨p, 0, none⟩), .int .i64 a, .int .i64 b] w fun e w' => e = .returned (.int .i64 t) ∧ ∃ hi', GX p (fun k => M k ∨ w.heap.size ≤ k) w' g1 hi' ∧ Off M w w' := by
  have h1 := gor_calls gs a b p M w hi h hG hl ha hb
  rw [e] at h1
  exact h1.mono (fun e w' hh => ⟨hh.1, _, hh.2.1, hh.2.2⟩)
def plF (a b : List Int) (k : Nat) (r : Int) (i : Nat) : Pr Int := (andP (reachL a (i : Int)) (reachL b ((k : Int) - (i : Int)))).bind fun t => orP r t
theorem place_def (a b : List Int) (k : Nat) : placeP a b k = foldP (plF a b k) (List.range' (k - b.length) (min k a.length + 1 - (k - b.length))) 1 := rfl
def adF (a b : List Int) (out : List Int) (k : Nat) : Pr (List Int) := (placeP a b k).bind fun r => .ret (out ++ [r])
theorem add_def (a b : List Int) : addP a b = foldP (adF a b) (List.range' 1 (a.length + b.length)) [] := rfl
theorem run_plF (a b : List Int) (k : Nat) (r : Int) (i : Nat) (gs : List Gt) : (plF a b k r i).run gs = orC (andC gs (reachL a (i : Int)) (reachL b ((k : Int) - (i : Int)))).1 r (andC gs (reachL a (i : Int)) (reachL b ((k : Int) - (i : Int)))).2 := by
  unfold plF; rw [Pr.run_bind, run_andP]; rfl
theorem run_adF (a b : List Int) (out : List Int) (k : Nat) (gs : List Gt) : (adF a b out k).run gs = (((placeP a b k).run gs).1, out ++ [((placeP a b k).run gs).2]) := by
  unfold adF; rw [Pr.run_bind]; rfl
theorem reachL_le {u : List Int} (hu : ∀ r ∈ u, r ≤ 9223372036854775807) (k : Int) : reachL u k ≤ 9223372036854775807 := by
  unfold reachL
  split
  · omega
  · split
    · omega
    · exact hu _ (getD_in (by omega))
theorem reached_n {m : Nat} {x : Int} (u : List Int) (k : Int) (a : Option Addr) (c : Nat) (w : World) (hm : u.length = m) (hx : reachL u k = x) (h : IntsW w a c u) (hl : u.length ≤ 1000) (hk : -1000000 ≤ k ∧ k ≤ 1000000) :
    Calls Try.prog 42 #[.slice a m c, .int .i64 k] w fun e w' => e = .returned (.int .i64 x) ∧ w' = w := by
  subst hm hx; exact reached_calls u k a c w h hl hk
theorem range_cons {s n : Nat} (h : 0 < n) : List.range' s n = s :: List.range' (s + 1) (n - 1) := by
  obtain ⟨m, rfl⟩ : ∃ m, n = m + 1 := ⟨n - 1, by omega⟩
  rfl
theorem costL_cons (la lb k : Nat) (l : List Nat) : costL la lb (k :: l) = 2 * (min k la + 1 - (k - lb)) + costL la lb l := by unfold costL; simp; omega

set_option maxRecDepth 100000 in
set_option maxHeartbeats 4000000 in
theorem add_calls (a b : List Int) (va : Option Addr) (ca : Nat) (vb : Option Addr) (cb : Nat) (p q : Nat) (N0 : Nat → Prop) (w : World) (gs : List Gt) (hi : Int) (h : GS p q N0 w gs hi) (ha : IntsN N0 w va ca a) (hb : IntsN N0 w vb cb b) (hG : Good gs) (hla : ∀ r ∈ a, r ≤ 9223372036854775807) (hlb : ∀ r ∈ b, r ≤ 9223372036854775807) (hl : gs.length + costA a.length b.length ≤ 990) (h1 : a.length ≤ 100) (h2 : b.length ≤ 100) :
    Calls Try.prog 44 #[.pointer (some ⟨q, 0, none⟩), .slice va a.length ca, .slice vb b.length cb] w fun e w' => ∃ vo co N' hi', e = .returned (.slice vo (a.length + b.length) co) ∧ GS p q N' w' ((addP a b).run gs).1 hi' ∧ Goes N0 w N' w' ∧ IntsN N' w' vo co ((addP a b).run gs).2 ∧ ((addP a b).run gs).2.length = a.length + b.length := by
  obtain ⟨la, hna⟩ : ∃ n, a.length = n := ⟨_, rfl⟩
  obtain ⟨lb, hnb⟩ : ∃ n, b.length = n := ⟨_, rfl⟩
  obtain ⟨res, hres⟩ : ∃ r, (addP a b).run gs = r := ⟨_, rfl⟩
  obtain ⟨g9, l9⟩ := res
  have HRES := Lib.hid hres
  have HNA := Lib.hid hna
  have HNB := Lib.hid hnb
  have HLA := Lib.hid (show a.length ≤ 1000 by omega)
  have HLB := Lib.hid (show b.length ≤ 1000 by omega)
  have HBA := Lib.hid hla
  have HBB := Lib.hid hlb
  have HST := Lib.hid (show AddS p q N0 w N0 w gs hi from ⟨h, Goes.refl N0 w⟩)
  have HIA := Lib.hid ha
  have HIB := Lib.hid hb
  have HPL0 := Lib.hid (And.intro h.p_lt (lies_lt h.q0))
  have HGD := Lib.hid hG
  have HLL := Lib.hid hl
  obtain ⟨n, hn⟩ : ∃ n, la + lb = n := ⟨_, rfl⟩
  have HN := Lib.hid hn
  have HRUN := Lib.hid (show (foldP (adF a b) (List.range' 1 n) []).run gs = (g9, l9) from by rw [← hres, add_def, hna, hnb, hn])
  have HCL := Lib.hid (show gs.length + costL la lb (List.range' 1 n) ≤ 990 from by rw [← hn, ← hna, ← hnb]; exact hl)
  obtain ⟨i0, hi0, hz0, hz1, hz2⟩ := info_parts info3
  rw [hna] at h1 ⊢
  rw [hnb] at h2 ⊢
  rw [hres, hn]
  have hab : IntKind.i64.wrap ((la : Int) + (lb : Int)) = (n : Int) := by rw [IntWalk.i64_in _ (by omega)]; omega
  clear h ha hb hG hla hlb hl hna hnb hres
  have hn200 : n ≤ 200 := by omega
  clear hn
  go_enter Try.func44, Try.ntmps44
  go_wp2_with fail
  go_loopg [7, 8] n (fun gk s7 s8 wr => ∃ (j : Nat) (vo : Option Addr) (co : Nat) (out : List Int) (gj : List Gt) (N : Nat → Prop) (hj : Int), s7 = .slice vo j co ∧ s8 = .int .i64 ((j + 1 : Nat) : Int) ∧ gk = n - j ∧ j ≤ n ∧ (foldP (adF a b) (List.range' (1 + j) (n - j)) out).run gj = (g9, l9) ∧ out.length = j ∧ Good gj ∧ gj.length + costL la lb (List.range' (1 + j) (n - j)) ≤ 990 ∧ AddS p q N0 w N wr gj hj ∧ wr.ownsRow w.heap.size 3 1 (.slice vo j co) j (intCells out) ∧ ∀ k, (Value.slice vo j co).ownBlock = some k → ¬ N k)
  case atStart => exact ⟨0, none, 0, [], gs, N0, hi, rfl, rfl, rfl, Nat.zero_le _, HRUN.out, rfl, HGD.out, HCL.out, HST.out, World.ownsRow_nil _ _ _ _, fun k e => by cases e⟩
  case round =>
    obtain ⟨j, vo, co, out, gj, N, hj, rfl, rfl, hgk, hjn, hrun, hol, hgj, hcj, hst, hown, hob⟩ := hrel
    have HI0 := Lib.hid hgk; clear hgk
    have HRJ := Lib.hid hrun
    have HOL := Lib.hid hol
    have HSJ := Lib.hid hst
    have HOW := Lib.hid (And.intro hown hob)
    clear hrun hol hst hown hob
    obtain ⟨k, hk⟩ : ∃ k, j + 1 = k := ⟨_, rfl⟩
    rw [hk]
    by_cases hkn : k ≤ n
    · have f1 : decide ((k : Int) ≤ (n : Int)) = true := decide_eq_true (by omega)
      have f2 : decide (k ≤ n) = true := decide_eq_true hkn
      obtain ⟨i0', hi0'⟩ : ∃ i, k - lb = i := ⟨_, rfl⟩
      obtain ⟨mx, hmx⟩ : ∃ m, min k la = m := ⟨_, rfl⟩
      obtain ⟨d, hd⟩ : ∃ d : Int, (k : Int) - (lb : Int) = d := ⟨_, rfl⟩
      have w1 : IntKind.i64.wrap ((k : Int) - (lb : Int)) = d := by rw [IntWalk.i64_in _ (by omega)]; exact hd
      have hmax : max 0 d = (i0' : Int) := by omega
      have hmin : min (k : Int) (la : Int) = (mx : Int) := by omega
      obtain ⟨pr, hpr⟩ : ∃ r, (placeP a b k).run gj = r := ⟨_, rfl⟩
      obtain ⟨gp, rp⟩ := pr
      have HK := Lib.hid hk
      have HPL := Lib.hid (show (foldP (plF a b k) (List.range' i0' (mx + 1 - i0')) 1).run gj = (gp, rp) from by rw [← hpr, place_def, HNA.out, HNB.out, hi0', hmx])
      have hrc : List.range' (1 + j) (n - j) = k :: List.range' (1 + k) (n - k) := by rw [range_cons (by omega)]; congr 2 <;> omega
      have HRN := Lib.hid (show (foldP (adF a b) (List.range' (1 + k) (n - k)) (out ++ [rp])).run gp = (g9, l9) from by
        have h := HRJ.out
        rw [hrc, run_foldP_cons, run_adF, hpr] at h
        exact h)
      have HCC := Lib.hid (show gj.length + 2 * (mx + 1 - i0') + costL la lb (List.range' (1 + k) (n - k)) ≤ 990 from by
        have h := hcj
        rw [hrc, costL_cons, hmx, hi0'] at h
        omega)
      have hst2 := Pr.step (foldP (plF a b k) (List.range' i0' (mx + 1 - i0')) 1) hgj
      rw [HPL.out] at hst2
      have HGP := Lib.hid hst2.1
      have HGJ := Lib.hid hgj
      have HI00 := Lib.hid (And.intro hi0' hmx)
      clear hcj hgj hi0' hmx hd hpr hrc hst2 hk
      go_upto_region 6 with fail
      clear f1 f2 hab
      go_cut [10] (fun s wx => s = .int .i64 (i0' : Int) ∧ wx = wr)
      case first =>
        have HMX := Lib.hid hmax
        clear hmax
        go_wp2_with fail
        all_goals (go_meet; exact ⟨by congr 1; have := HMX.out; omega, rfl⟩)
      obtain ⟨rfl, hwc⟩ := hcut
      subst hwc
      clear w1 hmax
      go_wp2_with fail
      obtain ⟨wo, hwo⟩ : ∃ z, z = wc := ⟨_, rfl⟩
      rw [← hwo] at HSJ HOW ⊢
      clear hwo
      have HAO := Lib.hid (HIA.out.goes HSJ.out.go)
      have HBO := Lib.hid (HIB.out.goes HSJ.out.go)
      have hkb : k ≤ 200 := by omega
      go_loopg [9, 10] (mx + 1 - i0') (fun gk s9 s10 wr => ∃ (i cnt : Nat) (r : Int) (g : List Gt) (N2 : Nat → Prop), s9 = .int .i64 r ∧ s10 = .int .i64 (i : Int) ∧ gk = cnt ∧ (i + cnt = mx + 1 ∨ (cnt = 0 ∧ mx < i)) ∧ (foldP (plF a b k) (List.range' i cnt) r).run g = (gp, rp) ∧ (r ≤ 9223372036854775807 ∧ i ≤ 500) ∧ (Good g ∧ g.length + 2 * cnt + costL la lb (List.range' (1 + k) (n - k)) ≤ 990) ∧ ∃ hh, AddS p q N wo N2 wr g hh)
      case atStart => exact ⟨i0', mx + 1 - i0', 1, gj, N, rfl, rfl, rfl, by omega, HPL.out, ⟨by omega, by have := HI00.out; omega⟩, ⟨HGJ.out, HCC.out⟩, hj, ⟨HSJ.out.gs, Goes.refl _ _⟩⟩
      case round =>
        obtain ⟨i, cnt, r, g, N2, rfl, rfl, hgk, hic, hrun, hrl, hgl, hh, hst⟩ := hrel
        have HI := Lib.hid hgk; clear hgk
        have HGS := Lib.hid hst; clear hst
        have HGL := Lib.hid hgl; clear hgl
        have HRL := Lib.hid hrl.1
        have hi500 := hrl.2
        clear hrl
        obtain ⟨wp, hwp⟩ : ∃ z, z = wr := ⟨_, rfl⟩
        rw [← hwp] at HGS ⊢
        clear hwp
        have HIC := Lib.hid hic; clear hic
        have HRU := Lib.hid hrun; clear hrun
        go_upto_region 7 with fail
        go_cut [30] (fun s wx => s = .bool (decide (i ≤ mx)) ∧ wx = wp)
        case first =>
          have HMN := Lib.hid HI00.out.2
          clear hmin
          go_wp2_with fail
          all_goals (go_meet; exact ⟨by congr 1; exact decide_eq_decide.2 (by have := HMN.out; omega), rfl⟩)
        obtain ⟨rfl, hwc⟩ := hcut
        have hwc2 := hwc.symm
        clear hwc
        subst hwc2
        by_cases him : i ≤ mx
        · have f1 : decide (i ≤ mx) = true := decide_eq_true him
          rw [f1]
          clear f1
          have hcp : 0 < cnt ∧ i + cnt = mx + 1 := by have := HIC.out; omega
          obtain ⟨dK, hdK⟩ : ∃ d : Int, (k : Int) - (i : Int) = d := ⟨_, rfl⟩
          have wK : IntKind.i64.wrap ((k : Int) - (i : Int)) = dK := by rw [IntWalk.i64_in _ (by omega)]; exact hdK
          have hk1 : IntKind.i64.wrap ((i : Int) + 1) = ((i + 1 : Nat) : Int) := by rw [IntWalk.i64_in _ (by omega)]; omega
          have HDK := Lib.hid (show -1000000 ≤ dK ∧ dK ≤ 1000000 by omega)
          obtain ⟨x, hx⟩ : ∃ x, reachL a (i : Int) = x := ⟨_, rfl⟩
          obtain ⟨y, hy⟩ : ∃ y, reachL b dK = y := ⟨_, rfl⟩
          obtain ⟨r1, hr1⟩ : ∃ r, andC g x y = r := ⟨_, rfl⟩
          obtain ⟨g1, t1⟩ := r1
          obtain ⟨rr2, hr2⟩ : ∃ q, orC g1 r t1 = q := ⟨_, rfl⟩
          obtain ⟨g2, r2⟩ := rr2
          have hxl : x ≤ 9223372036854775807 := by rw [← hx]; exact reachL_le HBA.out _
          have hyl : y ≤ 9223372036854775807 := by rw [← hy]; exact reachL_le HBB.out _
          have htl : t1 ≤ 9223372036854775807 := by have h := and_le (gs := g) hxl hyl (by have := HGL.out.2; omega); rw [hr1] at h; exact h
          have hg1 : Good g1 ∧ g1.length ≤ g.length + 1 := by
            have e := step_and HGL.out.1 x y
            have e2 := @and_len g x y
            rw [hr1] at e e2
            exact ⟨e.good, e2⟩
          have hg2 : Good g2 ∧ g2.length ≤ g1.length + 1 := by
            have e := step_or hg1.1 r t1
            have e2 := @or_len g1 r t1
            rw [hr2] at e e2
            exact ⟨e.good, e2⟩
          have HR2 := Lib.hid (show r2 ≤ 9223372036854775807 ∧ i + 1 ≤ 500 from ⟨by have h := or_le (gs := g1) HRL.out htl (by have := HGL.out.2; have := hg1.2; omega); rw [hr2] at h; exact h, by have := hcp.2; have := HI00.out; omega⟩)
          have HL2 := Lib.hid (show Good g2 ∧ g2.length + 2 * (cnt - 1) + costL la lb (List.range' (1 + k) (n - k)) ≤ 990 from ⟨hg2.1, by have := HGL.out.2; have := hg1.2; have := hg2.2; omega⟩)
          have HRU2 := Lib.hid (show (foldP (plF a b k) (List.range' (i + 1) (cnt - 1)) r2).run g2 = (gp, rp) from by
            have h := HRU.out
            rw [range_cons hcp.1, run_foldP_cons, run_plF, hdK, hx, hy, hr1] at h
            simp only at h
            rw [hr2] at h
            exact h)
          have HCA := Lib.hid (fun M U hh' => gand_c g x y p g1 t1 hr1 HGL.out.1 (by have := HGL.out.2; omega) M U hh')
          have HCO := Lib.hid (fun M U hh' => gor_c g1 r t1 p g2 r2 hr2 hg1.1 (by have := HGL.out.2; have := hg1.2; have := hcp.1; omega) HRL.out htl M U hh')
          have HIC1 := Lib.hid (show i + 1 + (cnt - 1) = mx + 1 ∨ (cnt - 1 = 0 ∧ mx < i + 1) from .inl (by omega))
          have HCP := Lib.hid hcp
          have HX := Lib.hid (And.intro hx hy)
          have HS := Lib.hid (fun (Wh : World) (hWh : Off N2 wp Wh) => (hWh.cell HGS.out.gs.q0 HGS.out.gs.nq : (fun Wh : World => Wh.cell? ⟨q, 0, none⟩ = some (.pointer (some ⟨p, 0, none⟩))) Wh))
          clear him hcp hdK hr1 hr2 hxl hyl htl hg1 hg2 hx hy hmin
          go_upto_region 9 with fail
          have hdr0 : wp.grownBy wp.drew none := ⟨rfl, rfl, rfl, Nat.le_refl _, fun _ _ _ => rfl⟩
          have hdr : Off N2 wp wp.drew := Off.of hdr0 (fun k e => by cases e)
          refine wp_region_held_drew (S := (fun Wh : World => Wh.cell? ⟨q, 0, none⟩ = some (.pointer (some ⟨p, 0, none⟩)))) (by kernel_rfl) (HS.out _ hdr) (fun hHeld => ?_)
          refine wpAnyH_take (i := 0) (oi := { dst := some 33, op := Op.move (Operand.tmp 0), type := 58, pos := "count.go:118", after := #[], guard := none }) (v := ?_) rfl (by kernel_rfl) (by kernel_rfl) (by kernel_rfl) (fun _ _ _ h => h) (Or.inl ⟨by rfl, ?_⟩) (by assumption) ?_
          rotate_left 1
          · (intro W hSW; (try dsimp only at hSW); first | (go_simp; done) | (go_simp; with_reducible rfl))
          try simp only [Act.put, List.setIfInBounds_toArray, List.set_cons_zero, List.set_cons_succ]
          refine wpAnyH_take (i := 1) (oi := { dst := some 34, op := Op.nilCheck (Operand.tmp 33), type := 0, pos := "count.go:118", after := #[{ on := 0, ground := Ground.data }], guard := none }) (v := ?_) rfl (by kernel_rfl) (by kernel_rfl) (by kernel_rfl) (fun _ _ _ h => h) (Or.inl ⟨by rfl, ?_⟩) (by assumption) ?_
          rotate_left 1
          · (intro W hSW; (try dsimp only at hSW); first | (go_simp; done) | (go_simp; with_reducible rfl))
          try simp only [Act.put, List.setIfInBounds_toArray, List.set_cons_zero, List.set_cons_succ]
          refine wpAnyH_take (i := 2) (oi := { dst := some 35, op := Op.fieldAddr 65 (Operand.tmp 34) 0, type := 0, pos := "count.go:118", after := #[{ on := 1, ground := Ground.data }], guard := none }) (v := ?_) rfl (by kernel_rfl) (by kernel_rfl) (by kernel_rfl) (fun _ _ _ h => h) (Or.inl ⟨by rfl, ?_⟩) (by assumption) ?_
          rotate_left 1
          · (intro W hSW; (try dsimp only at hSW); first | (go_simp; done) | (go_simp; with_reducible rfl))
          try simp only [Act.put, List.setIfInBounds_toArray, List.set_cons_zero, List.set_cons_succ]
          refine wpAnyH_take (i := 3) (oi := { dst := some 36, op := Op.load 63 (Operand.tmp 35), type := 63, pos := "count.go:118", after := #[{ on := 2, ground := Ground.data }], guard := none }) (v := ?_) rfl (by kernel_rfl) (by kernel_rfl) (by kernel_rfl) (fun _ _ _ h => h) (Or.inl ⟨by rfl, ?_⟩) (by assumption) ?_
          rotate_left 1
          · (intro W hSW; (try dsimp only at hSW); first | (go_simp; done) | (go_simp; with_reducible rfl))
          try simp only [Act.put, List.setIfInBounds_toArray, List.set_cons_zero, List.set_cons_succ]
          refine wpAnyH_take (i := 4) (oi := { dst := some 37, op := Op.move (Operand.tmp 9), type := 3, pos := "count.go:118", after := #[], guard := none }) (v := ?_) rfl (by kernel_rfl) (by kernel_rfl) (by kernel_rfl) (fun _ _ _ h => h) (Or.inl ⟨by rfl, ?_⟩) (by assumption) ?_
          rotate_left 1
          · (intro W hSW; (try dsimp only at hSW); first | (go_simp; done) | (go_simp; with_reducible rfl))
          try simp only [Act.put, List.setIfInBounds_toArray, List.set_cons_zero, List.set_cons_succ]
          refine wpAnyH_take (i := 5) (oi := { dst := some 38, op := Op.move (Operand.tmp 0), type := 58, pos := "count.go:118", after := #[], guard := none }) (v := ?_) rfl (by kernel_rfl) (by kernel_rfl) (by kernel_rfl) (fun _ _ _ h => h) (Or.inl ⟨by rfl, ?_⟩) (by assumption) ?_
          rotate_left 1
          · (intro W hSW; (try dsimp only at hSW); first | (go_simp; done) | (go_simp; with_reducible rfl))
          try simp only [Act.put, List.setIfInBounds_toArray, List.set_cons_zero, List.set_cons_succ]
          refine wpAnyH_take (i := 6) (oi := { dst := some 39, op := Op.nilCheck (Operand.tmp 38), type := 0, pos := "count.go:118", after := #[{ on := 5, ground := Ground.data }], guard := none }) (v := ?_) rfl (by kernel_rfl) (by kernel_rfl) (by kernel_rfl) (fun _ _ _ h => h) (Or.inl ⟨by rfl, ?_⟩) (by assumption) ?_
          rotate_left 1
          · (intro W hSW; (try dsimp only at hSW); first | (go_simp; done) | (go_simp; with_reducible rfl))
          try simp only [Act.put, List.setIfInBounds_toArray, List.set_cons_zero, List.set_cons_succ]
          refine wpAnyH_take (i := 7) (oi := { dst := some 40, op := Op.fieldAddr 65 (Operand.tmp 39) 0, type := 0, pos := "count.go:118", after := #[{ on := 6, ground := Ground.data }], guard := none }) (v := ?_) rfl (by kernel_rfl) (by kernel_rfl) (by kernel_rfl) (fun _ _ _ h => h) (Or.inl ⟨by rfl, ?_⟩) (by assumption) ?_
          rotate_left 1
          · (intro W hSW; (try dsimp only at hSW); first | (go_simp; done) | (go_simp; with_reducible rfl))
          try simp only [Act.put, List.setIfInBounds_toArray, List.set_cons_zero, List.set_cons_succ]
          refine wpAnyH_take (i := 8) (oi := { dst := some 41, op := Op.load 63 (Operand.tmp 40), type := 63, pos := "count.go:118", after := #[{ on := 7, ground := Ground.data }], guard := none }) (v := ?_) rfl (by kernel_rfl) (by kernel_rfl) (by kernel_rfl) (fun _ _ _ h => h) (Or.inl ⟨by rfl, ?_⟩) (by assumption) ?_
          rotate_left 1
          · (intro W hSW; (try dsimp only at hSW); first | (go_simp; done) | (go_simp; with_reducible rfl))
          try simp only [Act.put, List.setIfInBounds_toArray, List.set_cons_zero, List.set_cons_succ]
          refine wpAnyH_take (i := 9) (oi := { dst := some 42, op := Op.move (Operand.tmp 1), type := 33, pos := "count.go:118", after := #[], guard := none }) (v := ?_) rfl (by kernel_rfl) (by kernel_rfl) (by kernel_rfl) (fun _ _ _ h => h) (Or.inl ⟨by rfl, ?_⟩) (by assumption) ?_
          rotate_left 1
          · (intro W hSW; (try dsimp only at hSW); first | (go_simp; done) | (go_simp; with_reducible rfl))
          try simp only [Act.put, List.setIfInBounds_toArray, List.set_cons_zero, List.set_cons_succ]
          refine wpAnyH_take (i := 10) (oi := { dst := some 43, op := Op.move (Operand.tmp 10), type := 3, pos := "count.go:118", after := #[], guard := none }) (v := ?_) rfl (by kernel_rfl) (by kernel_rfl) (by kernel_rfl) (fun _ _ _ h => h) (Or.inl ⟨by rfl, ?_⟩) (by assumption) ?_
          rotate_left 1
          · (intro W hSW; (try dsimp only at hSW); first | (go_simp; done) | (go_simp; with_reducible rfl))
          try simp only [Act.put, List.setIfInBounds_toArray, List.set_cons_zero, List.set_cons_succ]
          refine wpAnyH_take (i := 12) (oi := { dst := some 45, op := Op.move (Operand.tmp 2), type := 33, pos := "count.go:118", after := #[], guard := none }) (v := ?_) rfl (by kernel_rfl) (by kernel_rfl) (by kernel_rfl) (fun _ _ _ h => h) (Or.inl ⟨by rfl, ?_⟩) (by assumption) ?_
          rotate_left 1
          · (intro W hSW; (try dsimp only at hSW); first | (go_simp; done) | (go_simp; with_reducible rfl))
          try simp only [Act.put, List.setIfInBounds_toArray, List.set_cons_zero, List.set_cons_succ]
          refine wpAnyH_take (i := 13) (oi := { dst := some 46, op := Op.move (Operand.tmp 8), type := 3, pos := "count.go:118", after := #[], guard := none }) (v := ?_) rfl (by kernel_rfl) (by kernel_rfl) (by kernel_rfl) (fun _ _ _ h => h) (Or.inl ⟨by rfl, ?_⟩) (by assumption) ?_
          rotate_left 1
          · (intro W hSW; (try dsimp only at hSW); first | (go_simp; done) | (go_simp; with_reducible rfl))
          try simp only [Act.put, List.setIfInBounds_toArray, List.set_cons_zero, List.set_cons_succ]
          refine wpAnyH_take (i := 14) (oi := { dst := some 47, op := Op.move (Operand.tmp 10), type := 3, pos := "count.go:118", after := #[], guard := none }) (v := ?_) rfl (by kernel_rfl) (by kernel_rfl) (by kernel_rfl) (fun _ _ _ h => h) (Or.inl ⟨by rfl, ?_⟩) (by assumption) ?_
          rotate_left 1
          · (intro W hSW; (try dsimp only at hSW); first | (go_simp; done) | (go_simp; with_reducible rfl))
          try simp only [Act.put, List.setIfInBounds_toArray, List.set_cons_zero, List.set_cons_succ]
          refine wpAnyH_take (i := 15) (oi := { dst := some 48, op := Op.binOp BinOp.sub 3 (Operand.tmp 46) (Operand.tmp 47) 3, type := 3, pos := "count.go:118", after := #[{ on := 13, ground := Ground.data }, { on := 14, ground := Ground.data }], guard := none }) (v := ?_) rfl (by kernel_rfl) (by kernel_rfl) (by kernel_rfl) (fun _ _ _ h => h) (Or.inl ⟨by rfl, ?_⟩) (by assumption) ?_
          rotate_left 1
          · (intro W hSW; (try dsimp only at hSW); first | (go_simp; done) | (go_simp; with_reducible rfl))
          try simp only [Act.put, List.setIfInBounds_toArray, List.set_cons_zero, List.set_cons_succ]
          refine wpAnyH_ready (rs := [11]) (by kernel_rfl) (by simp) ?_
          refine (AllReadyH.cons (o := { dst := some 44, op := Op.call { callee := Callee.value (Operand.func 42), args := #[Operand.tmp 42, Operand.tmp 43], argTypes := #[33, 3] }, type := 3, pos := "count.go:118", after := #[{ on := 9, ground := Ground.data }, { on := 10, ground := Ground.data }], guard := none }) rfl (fun K hK => ?_) AllReadyH.nil)
          rw [if_pos (by rfl)]
          go_simp
          go_at_call 42
          refine (reached_n a (i : Int) va ca _ HNA.out HX.out.1 (((HAO.out.goes HGS.out.go).off hdr (fun k hk => .inl hk)).weak) HLA.out (by omega)).mono ?_
          rintro e w9 ⟨rfl, hw9⟩
          rw [hw9]
          clear hw9 w9
          go_wp2_with fail
          refine hK.out _ _ (HS.out _ hdr) (fun hHeld => ?_)
          clear hK K
          try simp only [Act.put, List.setIfInBounds_toArray, List.set_cons_zero, List.set_cons_succ]
          refine wpAnyH_ready (rs := [16]) (by kernel_rfl) (by simp) ?_
          refine (AllReadyH.cons (o := { dst := some 49, op := Op.call { callee := Callee.value (Operand.func 42), args := #[Operand.tmp 45, Operand.tmp 48], argTypes := #[33, 3] }, type := 3, pos := "count.go:118", after := #[{ on := 12, ground := Ground.data }, { on := 15, ground := Ground.data }, { on := 11, ground := Ground.chain }], guard := none }) rfl (fun K hK => ?_) AllReadyH.nil)
          rw [if_pos (by rfl)]
          go_simp
          go_at_call 42
          refine (reached_n b dK vb cb _ HNB.out HX.out.2 (((HBO.out.goes HGS.out.go).off hdr (fun k hk => .inl hk)).weak) HLB.out HDK.out).mono ?_
          rintro e w9 ⟨rfl, hw9⟩
          rw [hw9]
          clear hw9 w9
          go_wp2_with fail
          refine hK.out _ _ (HS.out _ hdr) (fun hHeld => ?_)
          clear hK K
          try simp only [Act.put, List.setIfInBounds_toArray, List.set_cons_zero, List.set_cons_succ]
          refine wpAnyH_ready (rs := [17]) (by kernel_rfl) (by simp) ?_
          refine (AllReadyH.cons (o := { dst := some 50, op := Op.call { callee := Callee.value (Operand.func 39), args := #[Operand.tmp 41, Operand.tmp 44, Operand.tmp 49], argTypes := #[63, 3, 3] }, type := 3, pos := "count.go:118", after := #[{ on := 8, ground := Ground.data }, { on := 11, ground := Ground.data }, { on := 16, ground := Ground.data }, { on := 16, ground := Ground.chain }], guard := none }) rfl (fun K hK => ?_) AllReadyH.nil)
          rw [if_pos (by rfl)]
          go_simp
          go_at_call 39
          refine (HCA.out N2 _ _ (HGS.out.gs.gx.grown hdr0)).mono ?_
          rintro e w3 ⟨rfl, hi3, hx3, ho3⟩
          have hgo := hdr.trans ho3 (fun k _ hk => hk)
          have HX3 := Lib.hid hx3.cut
          clear hx3
          go_wp2_with fail
          refine hK.out _ _ (HS.out _ hgo) (fun hHeld => ?_)
          clear hK K
          try simp only [Act.put, List.setIfInBounds_toArray, List.set_cons_zero, List.set_cons_succ]
          refine wpAnyH_ready (rs := [18]) (by kernel_rfl) (by simp) ?_
          refine (AllReadyH.cons (o := { dst := some 51, op := Op.call { callee := Callee.value (Operand.func 38), args := #[Operand.tmp 36, Operand.tmp 37, Operand.tmp 50], argTypes := #[63, 3, 3] }, type := 3, pos := "count.go:118", after := #[{ on := 3, ground := Ground.data }, { on := 4, ground := Ground.data }, { on := 17, ground := Ground.data }, { on := 17, ground := Ground.chain }], guard := none }) rfl (fun K hK => ?_) AllReadyH.nil)
          rw [if_pos (by rfl)]
          go_simp
          go_at_call 38
          refine (HCO.out _ _ hi3 HX3.out).mono ?_
          rintro e w4 ⟨rfl, hi4, hx4, ho4⟩
          have hgo4 := hgo.trans ho4 (fun k hk hh => by rcases hh.1 with h1 | h1; exact h1; exact absurd h1 (Nat.not_le.2 hk))
          have HX4 := Lib.hid hx4.cut
          have HSZ := Lib.hid (And.intro hgo.size hgo4.size)
          clear hx4
          go_wp2_with fail
          refine hK.out _ _ (HS.out _ hgo4) (fun hHeld => ?_)
          clear hK K
          try simp only [Act.put, List.setIfInBounds_toArray, List.set_cons_zero, List.set_cons_succ]
          refine wpAnyH_take (i := 19) (oi := { dst := some 9, op := Op.assign (Operand.tmp 51), type := 3, pos := "count.go:118", after := #[{ on := 18, ground := Ground.data }, { on := 18, ground := Ground.chain }, { on := 0, ground := Ground.phase }, { on := 1, ground := Ground.phase }, { on := 2, ground := Ground.phase }, { on := 3, ground := Ground.phase }, { on := 4, ground := Ground.phase }, { on := 5, ground := Ground.phase }, { on := 6, ground := Ground.phase }, { on := 7, ground := Ground.phase }, { on := 8, ground := Ground.phase }, { on := 9, ground := Ground.phase }, { on := 10, ground := Ground.phase }, { on := 11, ground := Ground.phase }, { on := 12, ground := Ground.phase }, { on := 13, ground := Ground.phase }, { on := 14, ground := Ground.phase }, { on := 15, ground := Ground.phase }, { on := 16, ground := Ground.phase }, { on := 17, ground := Ground.phase }, { on := 18, ground := Ground.phase }], guard := none }) (v := ?_) rfl (by kernel_rfl) (by kernel_rfl) (by kernel_rfl) (fun _ _ _ h => h) (Or.inl ⟨by rfl, ?_⟩) (by assumption) ?_
          rotate_left 1
          · (intro W hSW; (try dsimp only at hSW); first | (go_simp; done) | (go_simp; with_reducible rfl))
          try simp only [Act.put, List.setIfInBounds_toArray, List.set_cons_zero, List.set_cons_succ]
          refine wpAnyH_done (by kernel_rfl) ?_ _
          have hEND := hgo4
          clear hHeld
          have HG4 := Lib.hid hgo4
          clear hdr hdr0 hEND hgo4 hgo ho3 ho4
          go_wp2_with fail
          go_roundg (cnt - 1)
          case measure => rw [HI.out]; have := HCP.out.1; omega
          case rel => exact ⟨i + 1, cnt - 1, r2, g2, grewM (grewM N2 wp.drew w3) w3 w4, rfl, rfl, rfl, HIC1.out, HRU2.out, HR2.out, HL2.out, _, HGS.out.step HX4.out HG4.out (fun k hk => by rcases hk with ⟨⟨hk, _⟩ | hk, _⟩; exact hk; exact .inr (Nat.le_trans HSZ.out.1 hk)) (fun k hk => hk.2)⟩
        · have f1 : decide (i ≤ mx) = false := decide_eq_false him
          rw [f1]
          clear f1
          have hc0 : cnt = 0 := by have := HIC.out; omega
          have HRG := Lib.hid (show r = rp ∧ g = gp from by
            have h := HRU.out
            rw [hc0] at h
            injection h with h1 h2
            exact ⟨h2, h1⟩)
          have HOW3 := Lib.hid (show wp.ownsRow w.heap.size 3 1 (.slice vo j co) j (intCells out) ∧ ∀ k, (Value.slice vo j co).ownBlock = some k → ¬ N2 k from
            ⟨HGS.out.go.1.row HOW.out.1 HOW.out.2, fun k hk hn => by
              rcases HGS.out.go.2 k hn with h1 | h1
              · exact HOW.out.2 k hk h1
              · have := (HOW.out.1.lt k hk).2; omega⟩)
          have HSZ0 := Lib.hid (Nat.le_trans HSJ.out.go.1.size HGS.out.go.1.size)
          have hk1 : IntKind.i64.wrap ((k : Int) + 1) = ((k + 1 : Nat) : Int) := by rw [IntWalk.i64_in _ (by omega)]; omega
          clear hc0 him hmin
          go_upto_region 10 with fail
          go_wp2_with (at_builtin; refine wpList_append_own_at _ rfl _ _ 33 rfl w.heap.size 3 i0 (.int .i64 0) 1 8 Try.underlying33 hi0 hz0 hz1 hz2 rfl (by decide) _ j (intCells out) rfl (HOW3.out.1.alloc _) ⟨wp.heap.size, 0, none⟩ 1 1 [.int .i64 r] rfl rfl (cell_one_new _ _ _) (fun u hu => by simp at hu; subst hu; rfl) (by unfold maxLen; omega) (by omega) (by have := HSZ0.out; simp; omega) ?_)
          intro v' w6 hown' hgrow6 _ hat6
          obtain ⟨rgA, rcA, rfl⟩ := own_shape hown'
          have haA := World.grownBy_alloc wp (.cells #[.int .i64 r] 3) none
          have hbl : ∀ x, (Value.slice vo j co).ownBlock = some x → p ≤ x ∧ q ≠ x ∧ ¬ N2 x := fun x e => by
            have h1 := (HOW3.out.1.lt x e).1
            have h2 := HPL0.out
            exact ⟨by omega, by omega, HOW3.out.2 x e⟩
          have HGS6 := Lib.hid ((HGS.out.gs.grown haA).far hgrow6 hbl)
          have HGO6 := Lib.hid (show Goes N0 w N2 w6 from ⟨Off.own ((HSJ.out.go.trans HGS.out.go).1.trans (Off.of (M := N2) haA (fun k e => by cases e)) (fun k hk h => ((HSJ.out.go.trans HGS.out.go).2 k h).resolve_right (by omega))) hgrow6 (fun x e => .inr ((HOW3.out.1.lt x e).1)), (HSJ.out.go.trans HGS.out.go).2⟩)
          have HOW6 := Lib.hid (show w6.ownsRow w.heap.size 3 1 (.slice rgA (j + 1) rcA) (j + 1) (intCells (out ++ [r])) by rw [intCells, List.map_append]; exact hown')
          have HOB6 := Lib.hid (show ∀ x, (Value.slice rgA (j + 1) rcA).ownBlock = some x → ¬ N2 x from fun x e => by
            rcases hat6 with h1 | h1
            · exact HOW3.out.2 x (by rw [← h1]; exact e)
            · rw [h1] at e
              injection e with e
              have h2 : wp.heap.size + 1 = x := e
              intro hn
              have := HGS.out.gs.low x hn
              omega)
          clear hown' hgrow6 haA hat6 hbl
          go_wp2_with fail
          go_roundg (n - (j + 1))
          case measure => rw [HI0.out]; have := HK.out; omega
          case rel => exact ⟨j + 1, rgA, rcA, out ++ [r], g, N2, _, rfl, by rw [HK.out]; simp, rfl, by have := HK.out; omega, by rw [HRG.out.1, HRG.out.2, HK.out]; exact HRN.out, by rw [List.length_append, HOL.out]; rfl, HGL.out.1, by rw [HK.out]; have := HGL.out.2; omega, ⟨HGS6.out, HGO6.out⟩, HOW6.out, HOB6.out⟩
    · have f1 : decide ((k : Int) ≤ (n : Int)) = false := decide_eq_false (by omega)
      have f2 : decide (k ≤ n) = false := decide_eq_false hkn
      have hjn' : j = n := by omega
      have HFIN := Lib.hid (show out = l9 ∧ gj = g9 from by
        have h := HRJ.out
        rw [hjn', Nat.sub_self] at h
        injection h with h1 h2
        exact ⟨h2, h1⟩)
      clear hk hcj hgj
      subst hjn'
      clear hkn
      go_wp2_with fail
      go_ret
      exact ⟨vo, co, N, hj, rfl, by rw [← HFIN.out.2]; exact HSJ.out.gs, HSJ.out.go, by rw [← HFIN.out.1]; exact IntsN.own HOL.out HOW.out.1 HOW.out.2, by rw [← HFIN.out.1]; exact HOL.out⟩
end Go.Proofs.Ythagoihpppppkaa

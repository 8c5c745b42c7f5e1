/- Texts of the proof: S2 W0 W1 W1c. -/
import Derived.Test.YtihaheinkpmnnaaGreatCA10
import Derived.Test.YtihaheinkpmnnaaGreatCA05
import Derived.Test.YtihaheinkpmnnaaGreatCA09
import Derived.DefersIn
import Derived.RecoverIn
namespace Go.Proofs.YtihaheinkpmnnaaGreat
set_option maxRecDepth 200000
open Go.RowKit Go.Maps
theorem contra_snoc {l : List Int} {x : Int} (h0 : x ≠ 0) : contraP (l ++ [x]) = (contraP l || l.contains (-x)) := by
  unfold contraP
  rw [Bool.eq_iff_iff]
  simp only [List.any_eq_true, Bool.or_eq_true, List.contains_iff_mem, List.mem_append, List.mem_singleton]
  constructor
  · rintro ⟨y, hy | rfl, hn | hn⟩
    · exact .inl ⟨y, hy, hn⟩
    · right; rw [← hn, Int.neg_neg]; exact hy
    · exact .inr hn
    · omega
  · rintro (⟨y, hy, hn⟩ | hn)
    · exact ⟨y, .inl hy, .inl hn⟩
    · exact ⟨x, .inr rfl, .inl hn⟩
theorem contra_mono {l m : List Int} (h : contraP l = true) : contraP (l ++ m) = true := by
  unfold contraP at h ⊢
  simp only [List.any_eq_true, List.contains_iff_mem, List.mem_append] at h ⊢
  obtain ⟨y, hy, hn⟩ := h
  exact ⟨y, .inl hy, .inl hn⟩
set_option maxHeartbeats 4000000 in
theorem contradict_calls (A : List Int) (a : Option Addr) (c : Nat) (w : World) (h : IntsW w a c A) (hl : A.length ≤ 10000) (hb : ∀ x ∈ A, x ≠ 0 ∧ -100000 ≤ x ∧ x ≤ 100000) :
    Calls Tryz.prog 89 #[.slice a A.length c] w fun e w' => e = .returned (.bool (contraP A)) ∧ w.grownBy w' none := by
  obtain ⟨n, hn⟩ : ∃ n, A.length = n := ⟨_, rfl⟩
  rw [hn] at hl ⊢
  have HH := Lib.hid (And.intro h (And.intro hn hb))
  clear h hn hb
  have hmm := @run_makeMap Tryz.prog
  have hg0 := World.grownBy_alloc w (.map #[] 0) none
  have hs0 := SetM.new w
  obtain ⟨W1, hW1⟩ : ∃ z, w.alloc (.map #[] 0) = z := ⟨_, rfl⟩
  obtain ⟨bm, hbm⟩ : ∃ z, w.heap.size = z := ⟨_, rfl⟩
  rw [hW1] at hg0 hs0
  rw [hbm] at hs0
  have HG := Lib.hid (And.intro hg0 (And.intro hs0 hbm))
  clear hg0 hs0
  go_enter Tryz.func89, Tryz.ntmps89
  go_wp2_with fail
  clear hmm hW1 hbm
  go_loopg [9] n (fun gk s9 wr => ∃ k : Nat, s9 = .int .i64 (k : Int) ∧ gk = n - k ∧ k ≤ n ∧ SetM wr bm (A.take k) ∧ contraP (A.take k) = false ∧ w.grownBy wr none)
  case atStart => exact ⟨0, rfl, rfl, Nat.zero_le _, by rw [List.take_zero]; exact HG.out.2.1, rfl, HG.out.1⟩
  case round =>
    obtain ⟨k, rfl, hgk, hk, hset, hct, hgr⟩ := hrel
    obtain ⟨wo, hwo⟩ : ∃ z, z = wr := ⟨_, rfl⟩
    rw [← hwo] at hset hgr ⊢
    clear hwo
    have HI := Lib.hid (And.intro hgk (And.intro hset (And.intro hct hgr)))
    clear hgk hset hct hgr
    by_cases hkn : k < n
    · have f1 : decide (k < n) = true := decide_eq_true hkn
      have f2 : decide ((k : Int) < (n : Int)) = true := decide_eq_true (by omega)
      have f3 : (k : Int) < (n : Int) := by omega
      obtain ⟨x, hx⟩ : ∃ x, A[k]? = some x := ⟨_, List.getElem?_eq_getElem (by rw [HH.out.2.1]; exact hkn)⟩
      have hxb := HH.out.2.2 x (List.mem_of_getElem? hx)
      obtain ⟨b, o, rfl, cx⟩ := (HH.out.1.grown HI.out.2.2.2).at hx
      have htake : A.take (k + 1) = A.take k ++ [x] := by
        have h1 := List.getElem?_eq_some_iff.1 hx
        rw [List.take_succ_eq_append_getElem h1.1, h1.2]
      have hwf : (Lit.int .i64 (-x)).wf = true := wf64 (by omega) (by omega)
      have hwf2 : (Lit.int .i64 x).wf = true := wf64 (by omega) (by omega)
      have kx : IntKind.i64.wrap (-x) = -x := IntWalk.i64_in _ (by omega)
      obtain ⟨d, hd⟩ : ∃ d, decide (-x ∈ A.take k) = d := ⟨_, rfl⟩
      have hlk := SetM.look HI.out.2.1 hwf
      rw [hd] at hlk
      have hc1 : contraP (A.take (k + 1)) = d := by
        rw [htake, contra_snoc hxb.1, HI.out.2.2.1, Bool.false_or, ← hd]
        rw [Bool.eq_iff_iff]; simp
      have HC := Lib.hid (And.intro hc1 (And.intro htake hwf2))
      have HST := Lib.hid (And.intro HI.out.2.1 (show (A.take k).length ≤ 1000000 by rw [List.length_take]; omega))
      clear hc1 htake hx hxb hd hwf hwf2
      cases d with
      | true =>
        have HT : Hid (contraP A = true) := Lib.hid (by have h := contra_mono (m := A.drop (k + 1)) HC.out.1; rwa [List.take_append_drop] at h)
        go_wp2_with fail
        go_ret
        exact ⟨by rw [HT.out]; rfl, HI.out.2.2.2⟩
      | false =>
        go_wp2_with (at_mapUpdate; refine wpList_setM rfl _ _ rfl bm (A.take k) rfl HST.out.1 HST.out.2 x rfl HC.out.2.2 ?_)
        intro w5 hset5 hgr5
        have HN := Lib.hid (show SetM w5 bm (A.take (k + 1)) ∧ w.grownBy w5 none from ⟨by rw [HC.out.2.1]; exact hset5, grown_own HI.out.2.2.2 hgr5 (fun j e => by have := Option.some.inj e; have := HG.out.2.2; omega)⟩)
        clear hset5 hgr5 hlk
        go_wp2_with fail
        go_roundg (n - (k + 1))
        case measure => rw [HI.out.1]; omega
        case rel => exact ⟨k + 1, rfl, rfl, by omega, HN.out.1, HC.out.1, HN.out.2⟩
    · have hke : k = n := by omega
      subst hke
      have f1 : decide (k < k) = false := by simp
      have HT : Hid (contraP A = false) := Lib.hid (by have h := HI.out.2.2.1; rwa [← HH.out.2.1, List.take_length] at h)
      go_wp2_with fail
      go_ret
      exact ⟨by rw [HT.out]; rfl, HI.out.2.2.2⟩
end Go.Proofs.YtihaheinkpmnnaaGreat

namespace Go.Proofs.YtihaheinkpmnnaaGreat
set_option maxRecDepth 200000
open Go.RowKit
theorem res34 (tmps : Array Value) (w : World) (b : Nat) (v : Value) (ht : tmps.getD 4 undef = .pointer (some ⟨b, 0, none⟩)) (h0 : w.cell? ⟨b, 0, none⟩ = some v) :
    (results Tryz.f91 tmps).run Tryz.prog w = .ok v w := by
  have ht' : tmps[4]?.getD undef = .pointer (some ⟨b, 0, none⟩) := by simpa using ht
  simp [results, ht', go_sem, h0]
def ixOf : Option Nat → Int
  | none => -1
  | some i => (i : Int)
theorem open_calls {K : PK} {w : World} {tr : List Int} {ns kf : Int} {R : Nat → Rw} (h : PW K w (valsP K.V tr) ns kf R) (hc : Cons tr) (hV : K.V ≤ 50000) {x : Int} (hx : InR K.V x) {tb : Nat} (hb : w.cell? ⟨tb, 0, none⟩ = some (.pointer (some ⟨K.p, 0, none⟩))) :
    Calls Tryz.prog 109 #[.int .i64 x, .pointer (some ⟨tb, 0, none⟩)] w fun e w' => e = .returned (.bool (und tr x)) ∧ w' = w := by
  have HV := Lib.hid (value_calls h hc hV hx)
  clear h
  go_enter Tryz.func109, Tryz.ntmps109
  go_wp2_with fail
  refine HV.out.mono ?_
  rintro e w1 ⟨rfl, rfl⟩
  have hu := und_val (tr := tr) (x := x)
  go_wp2_with fail
  go_ret
  exact ⟨by rw [← hu]; rfl, rfl⟩
theorem indexF_calls {K : PK} {w : World} {tr : List Int} {ns kf : Int} {R : Nat → Rw} (h : PW K w (valsP K.V tr) ns kf R) (hc : Cons tr) (hV : K.V ≤ 50000) {tb : Nat} (hb : w.cell? ⟨tb, 0, none⟩ = some (.pointer (some ⟨K.p, 0, none⟩)))
    {a : Option Addr} {c : Nat} {L : List Int} (hL : IntsW w a c L) (hr : ∀ y ∈ L, InR K.V y) (hn : L.length ≤ 100000) :
    Calls Tryz.prog 72 #[.slice a L.length c, .func (.func 109) #[] #[.pointer (some ⟨tb, 0, none⟩)]] w fun e w' => e = .returned (.int .i64 (ixOf (L.findIdx? (und tr)))) ∧ w' = w := by
  obtain ⟨n, hnn⟩ : ∃ n, L.length = n := ⟨_, rfl⟩
  have HH := Lib.hid (And.intro hL hnn)
  have HOC := Lib.hid (fun x hx => open_calls (x := x) h hc hV hx hb)
  rw [hnn] at hn ⊢
  clear h hc hb hL hnn
  go_enter Tryz.func72, Tryz.ntmps72
  go_wp2_with fail
  go_loopg [8] n (fun gk s8 w' => ∃ k : Nat, s8 = .int .i64 (k : Int) ∧ gk = n - k ∧ k ≤ n ∧ w' = w ∧ ∀ j, j < k → ∃ z, L[j]? = some z ∧ und tr z = false)
  case atStart => exact ⟨0, rfl, rfl, by omega, rfl, fun j hj => by omega⟩
  case round =>
    obtain ⟨k, rfl, hgk, hk, rfl, hbef⟩ := hrel
    have HI := Lib.hid (And.intro hgk hbef)
    clear hgk hbef
    by_cases hkn : k < n
    · have f1 : decide ((k : Int) < (n : Int)) = true := decide_eq_true (by omega)
      have f1' : decide (k < n) = true := decide_eq_true hkn
      have i0 : (0 : Int) ≤ (k : Int) := by omega
      have i1 : (k : Int) < (n : Int) := by omega
      have k1 : IntKind.i64.wrap ((k : Int) + 1) = (k : Int) + 1 := IntWalk.i64_in _ (by omega)
      obtain ⟨z, hz⟩ : ∃ z, L[k]? = some z := ⟨_, List.getElem?_eq_getElem (by rw [HH.out.2]; exact hkn)⟩
      have hzm : z ∈ L := List.mem_of_getElem? hz
      obtain ⟨b, o, rfl, hcell⟩ := HH.out.1.at hz
      have HC := Lib.hid (HOC.out z (hr z hzm))
      have HZ := Lib.hid hz
      clear hz hzm
      obtain ⟨d, hd⟩ : ∃ d, und tr z = d := ⟨_, rfl⟩
      rw [hd] at HC
      have HD := Lib.hid hd
      clear hd
      go_wp2_with fail
      refine HC.out.mono ?_
      rintro e w1 ⟨rfl, rfl⟩
      cases d with
      | true =>
        have HR : Hid (L.findIdx? (und tr) = some k) := Lib.hid (by
          rw [List.findIdx?_eq_some_iff_getElem]
          obtain ⟨hlt, e⟩ := List.getElem?_eq_some_iff.1 HZ.out
          refine ⟨hlt, by rw [e]; exact HD.out, fun j hj => ?_⟩
          obtain ⟨y, hy, hf⟩ := HI.out.2 j hj
          rw [(List.getElem?_eq_some_iff.1 hy).2, hf]; simp)
        go_wp2_with fail
        go_ret
        exact ⟨by rw [HR.out]; rfl, rfl⟩
      | false =>
        go_wp2_with fail
        go_roundg (n - (k + 1))
        case measure => rw [HI.out.1]; omega
        case rel => exact ⟨k + 1, rfl, rfl, by omega, rfl, fun j hj => by
          by_cases e : j = k
          · subst e; exact ⟨z, HZ.out, HD.out⟩
          · exact HI.out.2 j (by omega)⟩
    · have hke : k = n := by omega
      subst hke
      have f1 : decide (k < k) = false := by simp
      have HR : Hid (L.findIdx? (und tr) = none) := Lib.hid (by
        rw [List.findIdx?_eq_none_iff]
        intro x hx
        obtain ⟨j, hj, e⟩ := List.mem_iff_getElem.1 hx
        obtain ⟨y, hy, hf⟩ := HI.out.2 j (by rw [← HH.out.2]; exact hj)
        rw [← e, (List.getElem?_eq_some_iff.1 hy).2]; exact hf)
      go_wp2_with fail
      go_ret
      exact ⟨by rw [HR.out]; rfl, rfl⟩
end Go.Proofs.YtihaheinkpmnnaaGreat

namespace Go.Proofs.YtihaheinkpmnnaaGreat
set_option maxRecDepth 200000
open Go.RowKit
theorem idle43w (n : Nat) (x : Value) (w : World) :
    CallsDIn Fence.wide n Tryz.prog 104 #[x] .returning w fun e u' w' => e = .returned (.tuple #[]) ∧ u' = .returning ∧ w' = w := by
  refine callsDIn_of_wpSIn Tryz.func104 rfl trivial fun c₀ cs hu => ?_
  apply wpSIn_seq
  apply wpSIn_region
  simp [wpOpsSIn, go_sem, recoverD, hu, Tryz.ntmps104, Exit.thenS, Fence.wide]
  refine wpSIn_cond (t := false) (by simp [Act.eval, Array.replicate]) ?_
  simp only [Bool.false_eq_true, if_false]
  refine wpSIn_of_wpIn rfl (wpIn_skip ?_)
  cases c₀
  simp_all [bodyPostS, results]
/-- What a run leaves. -/
structure PropR (B : Nat) (w : World) (p : Nat) (ca : Option Addr) (cn cc : Nat) (tr rs : List Int) (ns kf : Int) : Prop where
  low : B ≤ p
  f1 : kf ≠ -2 → w.cell? ⟨p, 1, none⟩ = some (.slice ca cn cc)
  f2 : ∃ a c, w.cell? ⟨p, 2, none⟩ = some (.slice a tr.length c) ∧ IRow B w a c tr
  f3 : w.cell? ⟨p, 3, none⟩ = some (.int .i64 ns)
  f4 : ∃ a c, w.cell? ⟨p, 4, none⟩ = some (.slice a rs.length c) ∧ IRow B w a c rs
  f5 : w.cell? ⟨p, 5, none⟩ = some (.int .i64 kf)
theorem IRow.low {B B' : Nat} {w : World} {a : Option Addr} {c : Nat} {l : List Int} (h : IRow B w a c l) (hB : B' ≤ B) : IRow B' w a c l := by
  refine ⟨h.1, ?_⟩
  rcases h.2 with h1 | ⟨g, cap, cur, e, hb, rest⟩
  · exact .inl h1
  · exact .inr ⟨g, cap, cur, e, by omega, rest⟩
theorem IRow.more {B : Nat} {w w' : World} {a : Option Addr} {c : Nat} {l : List Int} (h : IRow B w a c l) (hg : w.grownBy w' none) : IRow B w' a c l := own_grown h hg
theorem PropR.grown {B : Nat} {w w' : World} {p : Nat} {ca : Option Addr} {cn cc : Nat} {tr rs : List Int} {ns kf : Int} (h : PropR B w p ca cn cc tr rs ns kf) (hg : w.grownBy w' none) : PropR B w' p ca cn cc tr rs ns kf := by
  obtain ⟨h0, h1, ⟨a, c, h2, h2'⟩, h3, ⟨a4, c4, h4, h4'⟩, h5⟩ := h
  exact ⟨h0, fun e => hg.cell (h1 e) (by simp), ⟨a, c, hg.cell h2 (by simp), h2'.more hg⟩, hg.cell h3 (by simp), ⟨a4, c4, hg.cell h4 (by simp), h4'.more hg⟩, hg.cell h5 (by simp)⟩
theorem PS.propR {K : PK} {w : World} {B : Nat} {tr vs : List Int} {ns kf : Int} {R : Nat → Rw} (h : PW K w vs ns kf R) (ht : (R 0).l = tr) (hB : B ≤ K.B) : PropR B w K.p K.ca K.cn K.cc tr (R 1).l ns kf := by
  refine ⟨Nat.le_trans hB h.low, fun _ => h.f1, ⟨(R 0).a, (R 0).c, by rw [← ht]; exact h.f2, by rw [← ht]; exact IRow.low (h.rows 0 (by omega)) hB⟩, h.f3, ⟨(R 1).a, (R 1).c, h.f4, IRow.low (h.rows 1 (by omega)) hB⟩, h.f5⟩
/-- The two boxes at the beginning. -/
theorem boxes34 (w : World) (u0 u1 : Value) {W : World} (hW : (w.alloc (.cells #[u0, u1] 24)).alloc (.cells #[.pointer none] 114) = W) :
    W.heap.size = w.heap.size + 2 ∧ W.cell? ⟨w.heap.size, 0, none⟩ = some u0 ∧ W.cell? ⟨w.heap.size, 1, none⟩ = some u1 ∧ W.cell? ⟨w.heap.size + 1, 0, none⟩ = some (.pointer none) ∧ W.frozen? ⟨w.heap.size + 1, 0, none⟩ = false ∧ w.grownBy W none := by
  subst hW
  exact ⟨by simp, by go_simp, by go_simp, by go_simp, by go_simp, World.grownBy.trans (World.grownBy_alloc w _ none) (World.grownBy_alloc _ _ none)⟩
theorem contra34 (w : World) (tb : Nat) (ht : tb < w.heap.size) {W : World} (hW : w.alloc (.cells #[.int .i64 0, .slice none 0 0, .slice none 0 0, .int .i64 0, .slice none 0 0, .int .i64 (-2), .slice none 0 0, .slice none 0 0, .slice none 0 0, .slice none 0 0, .slice none 0 0, .slice none 0 0] 113) = W) (v : Value) (ca : Option Addr) (cn cc : Nat) {B : Nat} (hB : B ≤ w.heap.size) :
    PropR B (W.setCell ⟨tb, 0, none⟩ v) w.heap.size ca cn cc [] [] 0 (-2) := by
  subst hW
  have hne : tb ≠ w.heap.size := by omega
  have hrow : ∀ U : World, IRow B U none 0 [] := fun U => ⟨by simp, .inl ⟨rfl, rfl⟩⟩
  have hc : ∀ (o : Nat) (u : Value), (w.alloc (.cells #[.int .i64 0, .slice none 0 0, .slice none 0 0, .int .i64 0, .slice none 0 0, .int .i64 (-2), .slice none 0 0, .slice none 0 0, .slice none 0 0, .slice none 0 0, .slice none 0 0, .slice none 0 0] 113)).cell? ⟨w.heap.size, o, none⟩ = some u →
      ((w.alloc (.cells #[.int .i64 0, .slice none 0 0, .slice none 0 0, .int .i64 0, .slice none 0 0, .int .i64 (-2), .slice none 0 0, .slice none 0 0, .slice none 0 0, .slice none 0 0, .slice none 0 0, .slice none 0 0] 113)).setCell ⟨tb, 0, none⟩ v).cell? ⟨w.heap.size, o, none⟩ = some u := fun o u h => (grown_set _ tb 0 v).cell h (by simp; omega)
  refine ⟨hB, fun e => absurd rfl e, ⟨none, 0, hc _ _ (by go_simp), hrow _⟩, hc _ _ (by go_simp), ⟨none, 0, hc _ _ (by go_simp), hrow _⟩, hc _ _ (by go_simp)⟩
/-- The result box and what lay before: as they were. -/
def Bx (w : World) (K : PK) (tb : Nat) (W : World) : Prop := W.cell? ⟨tb, 0, none⟩ = some (.pointer (some ⟨K.p, 0, none⟩)) ∧ w.grownBy W none ∧ W.frozen? ⟨tb, 0, none⟩ = false
theorem Bx.kp {w W W' : World} {K : PK} {tb : Nat} (h : Bx w K tb W) (ht : tb < K.B) (hw : w.heap.size ≤ K.B) (hk : Kp K.B W W') : Bx w K tb W' := by
  obtain ⟨⟨h1, h2, h3⟩, h4, h5⟩ := hk
  have hlt := lies_lt h.1
  simp only at hlt
  exact ⟨(World.cell?_of_block (h5 tb hlt (.inl ht))).trans h.1, ⟨h1.trans h.2.1.os, h2.trans h.2.1.tape, h3.trans h.2.1.output, Nat.le_trans h.2.1.size h4, fun k hk _ => (h5 k (Nat.lt_of_lt_of_le hk h.2.1.size) (.inl (by omega))).trans (h.2.1.block k hk (by simp))⟩, (World.frozen?_of_block (a := ⟨tb, 0, none⟩) (h5 tb hlt (.inl ht))).trans h.2.2⟩
theorem Bx.own {w : World} {K : PK} {tb : Nat} (ht : tb < K.B) (hw : w.heap.size ≤ K.B) {W W' : World} (h : Bx w K tb W) {vs : List Int} {ns kf : Int} {R : Nat → Rw} (hp : PW K W vs ns kf R) (ho : Off (PM K R) W W') : Bx w K tb W' := h.kp ht hw (kp_off hp ho)
/-- What may be turned behind the back: no cells, and nothing old. -/
theorem Bx.from_ {w W W' : World} {K : PK} {tb N : Nat} {row : Option Nat} (h : Bx w K tb W) (hN : w.heap.size ≤ N) (ht : tb < N) (hg : W.grownBy W' row) (hr : ∀ r, row = some r → N ≤ r) : Bx w K tb W' :=
  ⟨hg.cell h.1 (fun e => by have := hr tb e.symm; omega), grown_own h.2.1 hg (fun k e => Nat.le_trans hN (hr k e)), (World.frozen?_of_block (a := ⟨tb, 0, none⟩) (hg.block tb (lies_lt h.1) (fun e => by have := hr tb e.symm; omega))).trans h.2.2⟩
theorem PW.from_ {K : PK} {W W' : World} {vs : List Int} {ns kf : Int} {R : Nat → Rw} {row : Option Nat} (h : PW K W vs ns kf R) (hg : W.grownBy W' row) (hr : ∀ r, row = some r → ∃ o : Obj, W.heap[r]? = some o ∧ o.isCells = false) : PW K W' vs ns kf R :=
  h.kept fun k hk => hg.block k (h.below k hk).2.1 fun e => by
    obtain ⟨o, ho, hc⟩ := hr k e.symm
    have := (h.below k hk).2.2 o ho
    rw [this] at hc; cases hc
theorem JC.from_ {K : PK} {C : List (List Int)} {ns : Int} {RES : List Int × List Int × Int} {w : World} {tb N : Nat} {rest : List Nat} {b : Gh} {W W' : World} {row : Option Nat} (h : JC K C ns RES (Bx w K tb) rest b W) (hN : w.heap.size ≤ N) (ht : tb < N) (hg : W.grownBy W' row)
    (hr : ∀ r, row = some r → N ≤ r ∧ ∃ o : Obj, W.heap[r]? = some o ∧ o.isCells = false) : JC K C ns RES (Bx w K tb) rest b W' := by
  obtain ⟨⟨R, hps, h1⟩, h2, h3, h4⟩ := h
  exact ⟨⟨R, { hps with pw := hps.pw.from_ hg (fun r e => (hr r e).2) }, h1⟩, h2, h3, h4.from_ hN ht hg (fun r e => (hr r e).1)⟩
/-- The end of the run. -/
def Fin34 (w : World) (K : PK) (tb : Nat) (ns : Int) (RES : List Int × List Int × Int) (W : World) : Prop := ∃ R vs, PW K W vs ns RES.2.2 R ∧ (R 0).l = RES.1 ∧ (R 1).l = RES.2.1 ∧ Bx w K tb W
theorem Fin34.from_ {K : PK} {ns : Int} {RES : List Int × List Int × Int} {w : World} {tb N : Nat} {W W' : World} {row : Option Nat} (h : Fin34 w K tb ns RES W) (hN : w.heap.size ≤ N) (ht : tb < N) (hg : W.grownBy W' row)
    (hr : ∀ r, row = some r → N ≤ r ∧ ∃ o : Obj, W.heap[r]? = some o ∧ o.isCells = false) : Fin34 w K tb ns RES W' := by
  obtain ⟨R, vs, h1, h2, h3, h4⟩ := h
  exact ⟨R, vs, h1.from_ hg (fun r e => (hr r e).2), h2, h3, h4.from_ hN ht hg (fun r e => (hr r e).1)⟩
theorem JZ.fin {K : PK} {C : List (List Int)} {ns : Int} {RES : List Int × List Int × Int} {w : World} {tb : Nat} {b : Gh} {W : World} (h : JZ K C ns RES (Bx w K tb) b W) : Fin34 w K tb ns RES W := by
  obtain ⟨⟨⟨R, hps, h1⟩, _, _, h4⟩, h5⟩ := h
  rw [h5]
  exact ⟨R, _, hps.pw, hps.t, h1, h4⟩
theorem leave34 {Q : Ending → World → Prop} {tmps : Array Value} {b : Nat} {v : Value} {W : World} (ht : tmps.getD 4 undef = .pointer (some ⟨b, 0, none⟩)) (hc : W.cell? ⟨b, 0, none⟩ = some v) (h : Q (.returned v) W) :
    LeavesInM Fence.wide 3 Tryz.prog Tryz.f91 tmps Q [{ target := .fn (.func 104) #[.pointer (some ⟨b, 0, none⟩)], args := #[] }] .returning W := by
  refine ⟨by simp, .inr ⟨fun h => (by cases h), .func 104, #[.pointer (some ⟨b, 0, none⟩)], 104, #[.pointer (some ⟨b, 0, none⟩)], rfl, by simp [go_sem], fun _ _ => trivial, (idle43w _ _ _).mono ?_⟩⟩
  rintro e u' w' ⟨rfl, rfl, rfl⟩
  exact ⟨_, res34 _ _ b v ht hc, h⟩
/-- The end: the result is stored where it lies; the mark, the deferred closure. -/
theorem end34 {Q : Ending → World → Prop} {tmps : Array Value} {w W : World} {K : PK} {tb D : Nat} {ns : Int} {RES : List Int × List Int × Int} (hfin : Fin34 w K tb ns RES W) (hd : W.heap[D]? = some (.deferred (some []))) (hne : tb ≠ D) (htb : tb < K.B) (hw : w.heap.size ≤ K.B)
    (hwt : w.heap.size ≤ tb) (hwD : w.heap.size ≤ D) (ht : tmps.getD 4 undef = .pointer (some ⟨tb, 0, none⟩))
    (hQ : ∀ W', PropR w.heap.size W' K.p K.ca K.cn K.cc RES.1 RES.2.1 ns RES.2.2 → w.grownBy W' none → Q (.returned (.pointer (some ⟨K.p, 0, none⟩))) W') :
    LeavesInM Fence.wide 3 Tryz.prog Tryz.f91 tmps Q [{ target := .collected D, args := #[] }, { target := .fn (.func 104) #[.pointer (some ⟨tb, 0, none⟩)], args := #[] }] .returning (W.setCell ⟨tb, 0, none⟩ (.pointer (some ⟨K.p, 0, none⟩))) := by
  obtain ⟨R, vs, h1, h2, h3, h4, h5, h6⟩ := hfin
  have hpw1 : PW K (W.setCell ⟨tb, 0, none⟩ (.pointer (some ⟨K.p, 0, none⟩))) vs ns RES.2.2 R := h1.kept fun k hk => Below.heap_setCell _ _ _ _ (fun (e : k = tb) => by have := (h1.below k hk).1; omega)
  have hd1 : (W.setCell ⟨tb, 0, none⟩ (.pointer (some ⟨K.p, 0, none⟩))).heap[D]? = some (.deferred (some [])) := (Below.heap_setCell _ _ _ _ (fun (e : D = tb) => hne e.symm)).trans hd
  have hc1 : (W.setCell ⟨tb, 0, none⟩ (.pointer (some ⟨K.p, 0, none⟩))).cell? ⟨tb, 0, none⟩ = some (.pointer (some ⟨K.p, 0, none⟩)) := World.cell?_setCell_same _ _ _ h4
  have hg1 := grown_own h5 (grown_set W tb 0 (.pointer (some ⟨K.p, 0, none⟩))) (fun k e => by have := Option.some.inj e; omega)
  obtain ⟨W1, hW1⟩ : ∃ z, W.setCell ⟨tb, 0, none⟩ (.pointer (some ⟨K.p, 0, none⟩)) = z := ⟨_, rfl⟩
  rw [hW1] at hpw1 hd1 hc1 hg1 ⊢
  refine ⟨by simp, .inl ⟨D, _, rfl, run_takeDeferred hd1, ?_⟩⟩
  have hgp := grownBy_putObj' W1 D (.deferred none)
  have hpw2 : PW K (W1.putObj D (.deferred none)) vs ns RES.2.2 R := hpw1.from_ hgp (fun r e => by cases e; exact ⟨_, hd1, rfl⟩)
  refine leave34 ht (hgp.cell hc1 (by simp; exact hne)) (hQ _ ?_ (grown_own hg1 hgp (fun k e => by have := Option.some.inj e; omega)))
  rw [← h3]
  exact PS.propR hpw2 h2 hw
end Go.Proofs.YtihaheinkpmnnaaGreat

namespace Go.Proofs.YtihaheinkpmnnaaGreat
set_option maxRecDepth 200000
open Go.RowKit
theorem prop_ge (C : List (List Int)) : ∀ (n : Nat) (tr rs : List Int), rs.length ≤ (prop C n tr rs).2.1.length ∧ (prop C n tr rs).2.1.length ≤ rs.length + n
  | 0, tr, rs => by unfold prop; simp
  | n + 1, tr, rs => by
    unfold prop
    cases C.findIdx? (hot tr) with
    | none => simp
    | some i =>
      simp only
      cases (C.getD i []).find? (und tr) with
      | none => simp
      | some x =>
        have := prop_ge C n (tr ++ [x]) (rs ++ [(i : Int)])
        simp only [List.length_append, List.length_singleton] at this
        simp only
        omega
theorem find_of_ix {L : List Int} {p : Int → Bool} {j : Nat} (h : L.findIdx? p = some j) : ∃ x, L[j]? = some x ∧ L.find? p = some x ∧ p x = true := by
  rw [List.findIdx?_eq_some_iff_getElem] at h
  obtain ⟨hj, hp, hn⟩ := h
  refine ⟨L[j], List.getElem?_eq_getElem hj, ?_, hp⟩
  rw [List.find?_eq_some_iff_getElem]
  exact ⟨hp, j, hj, rfl, fun k hk => by simpa using hn k hk⟩
theorem find_no_ix {L : List Int} {p : Int → Bool} (h : L.findIdx? p = none) : L.find? p = none := by
  rw [List.findIdx?_eq_none_iff] at h
  rw [List.find?_eq_none]
  exact fun x hx => by rw [h x hx]; simp
theorem prop_stop {C : List (List Int)} {n i : Nat} {tr rs : List Int} (hn : 0 < n) (h : C.findIdx? (hot tr) = some i) (hf : (C.getD i []).find? (und tr) = none) : prop C n tr rs = (tr, rs, (i : Int)) := by
  obtain ⟨k, rfl⟩ : ∃ k, n = k + 1 := ⟨n - 1, by omega⟩
  unfold prop; rw [h]; simp only; rw [hf]
theorem prop_go {C : List (List Int)} {n i : Nat} {tr rs : List Int} {x : Int} (h : C.findIdx? (hot tr) = some i) (hf : (C.getD i []).find? (und tr) = some x) : prop C (n + 1) tr rs = prop C n (tr ++ [x]) (rs ++ [(i : Int)]) := by
  rw [show prop C (n + 1) tr rs = _ from by unfold prop; rw [h]]
  simp only; rw [hf]
theorem PSr.drew {K : PK} {C : List (List Int)} {w : World} {tr : List Int} {rest : List Nat} {ns kf : Int} {R : Nat → Rw} (h : PSr K C w tr rest ns kf R) : PSr K C w.drew tr rest ns kf R := { h with pw := h.pw.drew }
theorem PSr.reason {K : PK} {C : List (List Int)} {w w' : World} {tr : List Int} {rest : List Nat} {ns kf : Int} {R : Nat → Rw} {x : Rw} (h : PSr K C w tr rest ns kf R) (hp : PW K w' (valsP K.V tr) ns kf (upd R 1 x)) : PSr K C w' tr rest ns kf (upd R 1 x) :=
  ⟨hp, by rw [upd_other (by decide)]; exact h.t, by rw [upd_other (by decide)]; exact h.s, by rw [upd_other (by decide)]; exact h.o, by rw [upd_other (by decide), upd_other (by decide)]; exact h.occ, by rw [upd_other (by decide)]; exact h.cl, by rw [upd_other (by decide)]; exact h.q, by rw [upd_other (by decide)]; exact h.ql, h.cons, h.free⟩
theorem Bx.drew {w W : World} {K : PK} {tb : Nat} (h : Bx w K tb W) : Bx w K tb W.drew := ⟨h.1, World.grownBy.trans h.2.1 (grown_drew _ _), h.2.2⟩
theorem keeps_trans {W W1 W2 : World} (h1 : KeepsOthers W W1) (h2 : KeepsOthers W1 W2) : KeepsOthers W W2 := ⟨Nat.le_trans h1.1 h2.1, fun k o hk ho => h2.2 k o (h1.2 k o hk ho) ho⟩
theorem keeps_drew (W : World) : KeepsOthers W W.drew := ⟨Nat.le_refl _, fun _ _ hk _ => hk⟩
end Go.Proofs.YtihaheinkpmnnaaGreat

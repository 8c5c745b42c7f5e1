/- Texts of the proof: SV. -/
import Derived.Test.YtihaheinkpmnnaaGreatCA21
import Derived.Test.YtihaheinkpmnnaaGreatCA22
import Derived.Test.YtihaheinkpmnnaaGreatCA10
namespace Go.Proofs.YtihaheinkpmnnaaGreat
set_option maxRecDepth 200000
open Go.RowKit Go.Shelf Go.Maps
theorem addKey_uq : ∀ (S : List Int), (S.map (Lit.int .i64)).foldl Maps.addKey [] = (uq S).map (Lit.int .i64) := by
  refine snoc_ind (by simp [uq]) (fun S x ih => ?_)
  rw [List.map_append, List.foldl_append, ih, uq_snoc]
  simp only [List.map_singleton, List.foldl_cons, List.foldl_nil]
  unfold Maps.addKey
  by_cases hx : x ∈ uq S
  · rw [if_pos hx, if_pos]
    exact List.any_eq_true.2 ⟨_, List.mem_map.2 ⟨x, hx, rfl⟩, Go.WideAt.sameKey_self (by trivial)⟩
  · rw [if_neg hx, if_neg, List.map_append, List.map_singleton]
    intro h
    obtain ⟨y, hy, hs⟩ := List.any_eq_true.1 h
    obtain ⟨z, hz, rfl⟩ := List.mem_map.1 hy
    have := Go.WideAt.sameKey_eq hs
    injection this with _ e
    exact hx (e ▸ hz)
theorem size_setB (S : List Int) : Maps.size (Maps.setOf (.lit (.bool true) : DataW Unit) (S.map (Lit.int .i64))) = (uq S).length := by
  rw [Maps.size_setOf _ _ (isKey_ints S), addKey_uq, List.length_map]
theorem nodup_of_len {α : Type} [DecidableEq α] : ∀ {l m : List α}, m.Nodup → (∀ x ∈ m, x ∈ l) → l.length ≤ m.length → l.Nodup
  | [], _, _, _, _ => List.nodup_nil
  | a :: l, m, hn, h, hl => by
    have ha : a ∉ l := fun ha => by
      have := sub_len (l := m) (m := l) hn fun x hx => by
        rcases List.mem_cons.1 (h x hx) with rfl | h2
        · exact ha
        · exact h2
      rw [List.length_cons] at hl; omega
    refine List.nodup_cons.2 ⟨ha, nodup_of_len (m := m.erase a) (hn.erase a) (fun x hx => ?_) ?_⟩
    · have h1 := (List.Nodup.mem_erase_iff hn).1 hx
      rcases List.mem_cons.1 (h x h1.2) with e | h2
      · exact absurd e h1.1
      · exact h2
    · rw [List.length_cons] at hl
      by_cases hm : a ∈ m
      · rw [List.length_erase_of_mem hm]; omega
      · rw [List.erase_of_not_mem hm]; omega
/-- The set of the variables of a permutation is as great as it is long just where none comes twice. -/
theorem seen_len (S : List Int) : ((uq (S.map fun x => (x.natAbs : Int))).length = S.length) ↔ (S.map Int.natAbs).Nodup := by
  have e : (S.map fun x => (x.natAbs : Int)) = (S.map Int.natAbs).map (fun n : Nat => (n : Int)) := by rw [List.map_map]; rfl
  have hnd : (S.map Int.natAbs).Nodup ↔ (S.map fun x => (x.natAbs : Int)).Nodup := by
    rw [e]
    unfold List.Nodup
    rw [List.pairwise_map (f := fun n : Nat => (n : Int))]
    exact ⟨fun h => h.imp fun h2 h3 => h2 (by omega), fun h => h.imp fun h2 h3 => h2 (by rw [h3])⟩
  rw [hnd]
  obtain ⟨l, hl⟩ : ∃ l, (S.map fun x => (x.natAbs : Int)) = l := ⟨_, rfl⟩
  have hlen : l.length = S.length := by rw [← hl]; simp
  rw [hl, ← hlen]
  have h1 : (uq l).length ≤ l.length := sub_len (nodup_uq l) fun x hx => (mem_uq l x).1 hx
  constructor
  · intro h
    exact nodup_of_len (nodup_uq l) (fun x hx => (mem_uq l x).1 hx) (by omega)
  · intro h
    have := sub_len h fun x hx => (mem_uq l x).2 hx
    omega
theorem grown_in {w w1 w2 : World} {b : Nat} {r : Option Nat} (h : w.grownBy w1 (some b)) (h2 : w1.grownBy w2 r) (hr : ∀ k, r = some k → w.heap.size ≤ k ∨ k = b) : w.grownBy w2 (some b) :=
  ⟨h2.os.trans h.os, h2.tape.trans h.tape, h2.output.trans h.output, Nat.le_trans h.size h2.size, fun k hk hne => by
    have hkb : k ≠ b := fun e => hne (by rw [e])
    rw [h2.block k (Nat.lt_of_lt_of_le hk h.size) (fun e => by rcases hr k e.symm with h3 | h3 <;> omega)]
    exact h.block k hk hne⟩
theorem OwnP.keep {w w' : World} {p : Nr} (h : OwnP w p) {row : Option Nat} (hg : w.grownBy w' row) (hr : ∀ g, row = some g → ∃ cur e fr, w.heap[g]? = some (.cells cur e fr) ∧ e ≠ 3) : OwnP w' p := by
  refine ⟨h.1.kept hg ?_, h.2⟩
  rcases h.1.2 with ⟨e, _⟩ | ⟨g, cap, cu, e, _, hb, _⟩
  · rw [e]; exact .inl rfl
  · rw [e]; refine .inr (fun h2 => ?_)
    obtain ⟨cur, e2, fr, h3, h4⟩ := hr g h2.symm
    rw [hb] at h3; cases h3; exact h4 rfl
theorem row34 {w : World} {B n : Nat} {v : Value} {xs : List Value} (h : w.ownsRow B 34 1 v n xs) : ∀ g, v.ownBlock = some g → ∃ cur e fr, w.heap[g]? = some (.cells cur e fr) ∧ e ≠ 3 := by
  intro g hg
  rcases h.2 with ⟨rfl, _⟩ | ⟨g', cap, cur, rfl, _, hb, _⟩
  · cases hg
  · cases hg; exact ⟨cur, 34, _, hb, by decide⟩
theorem info34 : (Tryz.prog.info? 34).map (fun i => (i.zero, i.size, i.bytes)) = some (some (.slice none 0 0), 1, 24) := by kernel_rfl
def absL (S : List Int) : List Int := S.map fun x => (x.natAbs : Int)
set_option maxHeartbeats 16000000 in
theorem symValid_calls (V : Nat) (C : List (List Int)) (ca : Option Addr) (cc : Nat) (S : List Int) (sa : Option Addr) (sc : Nat) (w : World) (h : ClsW w ca cc C) (hS : IntsW w sa sc S) (hV : V ≤ 10000) (hC : C.length ≤ 10000) (hL : ∀ c ∈ C, c.length ≤ 10000) (hsl : S.length ≤ 10000) :
    Calls Tryz.prog 17 #[.agg #[.int .i64 (V : Int), .slice ca C.length cc], .slice sa S.length sc] w fun e w' => e = .returned (.bool (symB V C S)) ∧ w.grownBy w' none := by
  obtain ⟨cn, hcn⟩ : ∃ n, C.length = n := ⟨_, rfl⟩
  obtain ⟨sn, hsn⟩ : ∃ n, S.length = n := ⟨_, rfl⟩
  obtain ⟨bf, hbf⟩ : ∃ z, w.heap.size = z := ⟨_, rfl⟩
  obtain ⟨W2, hW2⟩ : ∃ z, (w.alloc (.cells #[.int .i64 (V : Int), .slice ca cn cc] 24)).alloc (.cells #[.slice sa sn sc] 34) = z := ⟨_, rfl⟩
  have hw2 : w.grownBy W2 none ∧ W2.heap.size = bf + 2 ∧ W2.cell? ⟨bf, 0, none⟩ = some (.int .i64 (V : Int)) ∧ W2.cell? ⟨bf, 1, none⟩ = some (.slice ca cn cc) ∧ W2.cell? ⟨bf + 1, 0, none⟩ = some (.slice sa sn sc) := by
    rw [← hW2, ← hbf]
    clear hW2
    exact ⟨(World.grownBy_alloc _ _ none).trans (World.grownBy_alloc _ _ none), by simp, by go_simp, by go_simp, by go_simp⟩
  obtain ⟨g2, s2, c0, c1, c2⟩ := hw2
  have HH := Lib.hid (And.intro h (And.intro hS (And.intro hL (And.intro hcn hsn))))
  have HG2 := Lib.hid (And.intro g2 (And.intro s2 hbf))
  have HCW : Hid (∀ W (L : List Int) (a : Option Addr) (c n : Nat), IntsW W a c L → L.length = n → n ≤ 10000 → Calls Tryz.prog 35 #[.slice a n c, .int .i64 (V : Int)] W fun e w' => e = .returned (.bool (L.all (inRb V))) ∧ W.grownBy w' none) := Lib.hid (fun W L a c n h1 h2 h3 => by
    subst h2; exact cwithin_calls V L a c W h1 (by omega) ⟨by omega, by omega⟩)
  rw [hcn] at hC ⊢
  rw [hsn] at hsl ⊢
  clear h hS hL g2 s2 hcn hsn
  have hmm := @run_makeMap Tryz.prog
  by_cases hlen : sn = V
  rotate_left
  · have f1 : ((sn : Int) != (V : Int)) = true := by simpa using (show (sn : Int) ≠ (V : Int) by omega)
    have f1' : (sn != V) = true := by simpa using hlen
    have HR : Hid (symB V C S = false) := Lib.hid (by unfold symB; rw [HH.out.2.2.2.2, decide_eq_false (by omega)]; rfl)
    rw [HR.out]
    clear hlen
    go_enter Tryz.func17, Tryz.ntmps17
    go_wp2_with fail
    go_ret
    exact ⟨rfl, HG2.out.1⟩
  · obtain ⟨bin, hbin⟩ : ∃ b, S.all (inRb V) = b := ⟨_, rfl⟩
    have f1 : ((sn : Int) != (V : Int)) = false := by simp [hlen]
    have f1' : (sn != V) = false := by simpa using hlen
    have HC1 := Lib.hid (HCW.out W2 S sa sc sn (HH.out.2.1.grown HG2.out.1) HH.out.2.2.2.2 hsl)
    rw [hbin] at HC1
    have HBI := Lib.hid hbin
    have HLEN := Lib.hid hlen
    clear hbin hlen
    go_enter Tryz.func17, Tryz.ntmps17
    go_wp2_with fail
    clear hW2 hbf
    refine HC1.out.mono ?_
    rintro e w3 ⟨rfl, g3⟩
    have HG3 := Lib.hid (HG2.out.1.trans g3)
    have d0 := g3.cell c0 (by simp)
    have d1 := g3.cell c1 (by simp)
    have d2 := g3.cell c2 (by simp)
    have HS3 : Hid (bf + 2 ≤ w3.heap.size) := Lib.hid (by have := HG2.out.2.1; have := g3.size; omega)
    clear g3 c0 c1 c2 HC1
    cases bin with
    | false =>
      have HR : Hid (symB V C S = false) := Lib.hid (by unfold symB; rw [HBI.out, Bool.false_and, Bool.and_false])
      go_wp2_with fail
      go_ret
      exact ⟨by rw [HR.out]; rfl, HG3.out⟩
    | true =>
      have HSR : Hid (∀ y ∈ S, InR V y) := Lib.hid (fun y hy => inRb_iff.1 (List.all_eq_true.1 HBI.out y hy))
      obtain ⟨bm, hbm⟩ : ∃ z, w3.heap.size = z := ⟨_, rfl⟩
      obtain ⟨W4, hW4⟩ : ∃ z, w3.alloc (.map #[] 0) = z := ⟨_, rfl⟩
      have hm4 : SetM W4 bm [] ∧ w3.grownBy W4 none := by rw [← hW4, ← hbm]; exact ⟨SetM.new w3, World.grownBy_alloc _ _ none⟩
      have e0 := hm4.2.cell d0 (by simp)
      have e1 := hm4.2.cell d1 (by simp)
      have e2 := hm4.2.cell d2 (by simp)
      have HM4 := Lib.hid (And.intro hm4.1 (And.intro (HG3.out.trans hm4.2) hbm))
      go_wp2_with fail
      clear hmm hW4 hbm hm4 d0 d1 d2
      go_loopg [7, 26] sn (fun gk _s7 s26 wr => ∃ k : Nat, s26 = .int .i64 (k : Int) ∧ gk = sn - k ∧ k ≤ sn ∧ SetM wr bm (absL (S.take k)) ∧ w.grownBy wr none ∧ wr.cell? ⟨bf, 0, none⟩ = some (.int .i64 (V : Int)) ∧ wr.cell? ⟨bf, 1, none⟩ = some (.slice ca cn cc) ∧ wr.cell? ⟨bf + 1, 0, none⟩ = some (.slice sa sn sc))
      case atStart => exact ⟨0, rfl, rfl, by omega, HM4.out.1, HM4.out.2.1, e0, e1, e2⟩
      case round =>
        obtain ⟨k, rfl, hgk, hk, hset, hgr, p0, p1, p2⟩ := hrel
        have HI := Lib.hid (And.intro hgk (And.intro hset (And.intro hgr (And.intro p0 (And.intro p1 p2)))))
        clear hgk hset hgr e0 e1 e2
        by_cases hkn : k < sn
        · have f2 : decide ((k : Int) < (sn : Int)) = true := decide_eq_true (by omega)
          have f2' : decide (k < sn) = true := decide_eq_true hkn
          have i0 : (0 : Int) ≤ (k : Int) := by omega
          have i1 : (k : Int) < (sn : Int) := by omega
          have k1 : IntKind.i64.wrap ((k : Int) + 1) = (k : Int) + 1 := IntWalk.i64_in _ (by omega)
          obtain ⟨x, hx⟩ : ∃ z, S[k]? = some z := ⟨_, List.getElem?_eq_getElem (by rw [HH.out.2.2.2.2]; exact hkn)⟩
          obtain ⟨bz, oz, rfl, hcell⟩ := (HH.out.2.1.grown HI.out.2.2.1).at hx
          have hxr := HSR.out x (List.mem_of_getElem? hx)
          have HX := Lib.hid (And.intro hx hxr)
          have hng : IntKind.i64.wrap (-x) = -x := IntWalk.i64_in _ (by have := hxr.2.1; have := hxr.2.2; omega)
          have hmx : max x (-x) = (x.natAbs : Int) := by omega
          have hwf : (Lit.int .i64 (x.natAbs : Int)).wf = true := wf64 (by omega) (by have := hxr.2.1; have := hxr.2.2; omega)
          have HW := Lib.hid (And.intro HI.out.2.1 hwf)
          clear hx hxr hwf
          go_wp2_with (at_mapUpdate; refine wpList_setM rfl _ _ rfl bm (absL (S.take k)) rfl HW.out.1 (by unfold absL; simp; omega) (x.natAbs : Int) rfl HW.out.2 ?_)
          intro w5 hset5 hgr5
          have hbmf : bf + 2 ≤ bm := by have := HM4.out.2.2; have := HS3.out; omega
          have hN : SetM w5 bm (absL (S.take (k + 1))) ∧ w.grownBy w5 none ∧ w5.cell? ⟨bf, 0, none⟩ = some (.int .i64 (V : Int)) ∧ w5.cell? ⟨bf, 1, none⟩ = some (.slice ca cn cc) ∧ w5.cell? ⟨bf + 1, 0, none⟩ = some (.slice (some ⟨bz, oz, none⟩) sn sc) := by
            refine ⟨?_, grown_own HI.out.2.2.1 hgr5 (fun j e => by cases e; have := HG2.out.2.2; omega), hgr5.cell HI.out.2.2.2.1 (by simp; omega), hgr5.cell HI.out.2.2.2.2.1 (by simp; omega), hgr5.cell HI.out.2.2.2.2.2 (by simp; omega)⟩
            have : S.take (k + 1) = S.take k ++ [x] := by rw [List.take_add_one, HX.out.1]; rfl
            rw [this]
            unfold absL at hset5 ⊢
            rw [List.map_append]; exact hset5
          have HN := Lib.hid hN
          clear hN hset5 hgr5 hmx hcell
          go_wp2_with fail
          go_roundg (sn - (k + 1))
          case measure => rw [HI.out.1]; omega
          case rel => exact ⟨k + 1, rfl, rfl, by omega, HN.out.1, HN.out.2.1, HN.out.2.2.1, HN.out.2.2.2.1, HN.out.2.2.2.2⟩
        · have hke : k = sn := by omega
          subst hke
          have f2 : decide ((k : Int) < (k : Int)) = false := decide_eq_false (by omega)
          have f2' : decide (k < k) = false := by simp
          have hset : SetM wr bm (absL S) := by
            have := HI.out.2.1
            rwa [List.take_of_length_le (by rw [HH.out.2.2.2.2]; exact Nat.le_refl _)] at this
          have hsz : Maps.size (Maps.setOf (.lit (.bool true) : DataW Unit) ((absL S).map (Lit.int .i64))) = (uq (absL S)).length := size_setB _
          obtain ⟨un, hun⟩ : ∃ z, (uq (absL S)).length = z := ⟨_, rfl⟩
          have HUN := Lib.hid hun
          have hlm := hset.1.len Tryz.underlying50 3
          rw [hsz, hun] at hlm
          clear hsz hun hset
          by_cases hnd : un = V
          rotate_left
          · have f3 : ((un : Int) != (V : Int)) = true := by simpa using (show (un : Int) ≠ (V : Int) by omega)
            have f3' : (un != V) = true := by simpa using hnd
            have HR : Hid (symB V C S = false) := Lib.hid (by
              have : ¬ (S.map Int.natAbs).Nodup := fun h => hnd (by have := (seen_len S).2 h; have := HUN.out; unfold absL at this; have := HLEN.out; have := HH.out.2.2.2.2; omega)
              unfold symB; rw [decide_eq_false this]; simp)
            clear hnd
            go_wp2_with fail
            go_ret
            exact ⟨by rw [HR.out]; rfl, HI.out.2.2.1⟩
          · have f3 : ((un : Int) != (V : Int)) = false := by simp [hnd]
            have f3' : (un != V) = false := by simpa using hnd
            have HND : Hid ((S.map Int.natAbs).Nodup) := Lib.hid ((seen_len S).1 (by have := HUN.out; unfold absL at this; have := HLEN.out; have := HH.out.2.2.2.2; omega))
            clear hnd
            obtain ⟨b8, hb8⟩ : ∃ z, wr.heap.size = z := ⟨_, rfl⟩
            obtain ⟨W5, hW5⟩ : ∃ z, wr.alloc (.cells #[.slice none 0 0] 22) = z := ⟨_, rfl⟩
            have hw5 : wr.grownBy W5 none ∧ W5.heap[b8]? = some (.cells #[.slice none 0 0] 22 (0, 0)) ∧ W5.heap.size = b8 + 1 := by
              rw [← hW5, ← hb8]; exact ⟨World.grownBy_alloc _ _ none, World.alloc_heap_new wr _, by simp⟩
            have r0 := hw5.1.cell p0 (by simp)
            have r1 := hw5.1.cell p1 (by simp)
            have r2 := hw5.1.cell p2 (by simp)
            have H5 := Lib.hid (And.intro hw5 (And.intro r0 (And.intro r1 r2)))
            have HGW : Hid (w.grownBy W5 none) := Lib.hid (HI.out.2.2.1.trans hw5.1)
            have HB8 : Hid (bf + 2 ≤ b8) := Lib.hid (by have := HI.out.2.2.1.size; have := World.block_lt_of_cell? wr _ p2; simp only at this; omega)
            clear hw5
            go_wp2_with fail
            clear hW5 hb8 p0 p1 p2 hlm
            obtain ⟨i0, hi0, hz0, hz1, hz2⟩ := info_parts info34
            go_loopg [10, 44] cn (fun gk _s10 s44 wr => ∃ k : Nat, s44 = .int .i64 (k : Int) ∧ gk = cn - k ∧ k ≤ cn ∧ ∃ (v : Value) (ps : List Nr), wr.heap[b8]? = some (.cells #[v] 22 (0, 0)) ∧ wr.ownsRow (b8 + 1) 34 1 v k (ps.map encP) ∧ (∀ p ∈ ps, OwnP wr p) ∧ ps.map (·.2.2) = (C.take k).map normL ∧ (C.take k).all (fun c => c.all (inRb V)) = true ∧ W5.grownBy wr (some b8) ∧ b8 < wr.heap.size)
            case atStart => exact ⟨0, rfl, rfl, by omega, _, [], H5.out.1.2.1, World.ownsRow_nil _ _ _ _, (fun p hp => by cases hp), rfl, rfl, grown_refl _ _, by have := H5.out.1.2.2; omega⟩
            case round =>
              obtain ⟨k, rfl, hgk, hk, v, ps, hv, hrow, hps, hmap, hall, hgr, hsz⟩ := hrel
              have HJ := Lib.hid (And.intro hv (And.intro hrow (And.intro hps (And.intro hmap (And.intro hall (And.intro hgr (And.intro hgk hsz)))))))
              have u0 := hgr.cell r0 (by have := HB8.out; simp; omega)
              have u1 := hgr.cell r1 (by have := HB8.out; simp; omega)
              clear hv hrow hps hmap hall hgr hsz hgk r0 r1 r2
              have hcv : wr.cell? ⟨b8, 0, none⟩ = some v ∧ wr.frozen? ⟨b8, 0, none⟩ = false := ⟨by simp [World.cell?, HJ.out.1], by simp [World.frozen?, HJ.out.1]⟩
              have hwg : w.grownBy wr none := grown_own HGW.out HJ.out.2.2.2.2.2.1 (fun j e => by cases e; have := HB8.out; have := HG2.out.2.2; omega)
              have HWG := Lib.hid hwg
              by_cases hkn : k < cn
              · have f4 : decide ((k : Int) < (cn : Int)) = true := decide_eq_true (by omega)
                have f4' : decide (k < cn) = true := decide_eq_true hkn
                have j0 : (0 : Int) ≤ (k : Int) := by omega
                have j1 : (k : Int) < (cn : Int) := by omega
                have k1 : IntKind.i64.wrap ((k : Int) + 1) = (k : Int) + 1 := IntWalk.i64_in _ (by omega)
                obtain ⟨z, hz⟩ : ∃ z, C[k]? = some z := ⟨_, List.getElem?_eq_getElem (by rw [HH.out.2.2.2.1]; exact hkn)⟩
                obtain ⟨bz, oz, az, cz, rfl, hcell, hiz⟩ := (HH.out.1.grown hwg).at hz
                have HZ := Lib.hid (And.intro hz hiz)
                have hzl : z.length ≤ 10000 := HH.out.2.2.1 z (List.mem_of_getElem? hz)
                obtain ⟨zn, hzn⟩ : ∃ x, z.length = x := ⟨_, rfl⟩
                have HCZ := Lib.hid (HCW.out wr z az cz zn hiz hzn (by omega))
                obtain ⟨bz2, hbz2⟩ : ∃ b, z.all (inRb V) = b := ⟨_, rfl⟩
                rw [hbz2] at HCZ
                rw [hzn] at hcell
                have HBZ := Lib.hid (And.intro hbz2 (And.intro hzn hzl))
                clear hz hiz hbz2 hzn hwg hzl
                go_wp2_with fail
                refine HCZ.out.mono ?_
                rintro e w7 ⟨rfl, g7⟩
                cases bz2 with
                | false =>
                  have HR : Hid (symB V C S = false) := Lib.hid (by
                    have : C.all (fun c => c.all (inRb V)) = false := List.all_eq_false.2 ⟨z, List.mem_of_getElem? HZ.out.1, by rw [HBZ.out.1]; decide⟩
                    unfold symB; rw [this]; simp)
                  have HE := Lib.hid (HWG.out.trans g7)
                  clear g7
                  go_wp2_with fail
                  go_ret
                  exact ⟨by rw [HR.out]; rfl, HE.out⟩
                | true =>
                  have HG7 := Lib.hid g7
                  clear g7 hcv u0 u1 hcell
                  go_wp2_with fail
                  have hdr : w7.grownBy w7.drew none := grown_drew w7 none
                  have HROW : Hid (w7.ownsRow (b8 + 1) 34 1 v k (ps.map encP)) := Lib.hid (own_grown HJ.out.2.1 HG7.out)
                  have HT : Hid (∀ W, w7.grownBy W none → W.cell? ⟨b8, 0, none⟩ = some v ∧ W.frozen? ⟨b8, 0, none⟩ = false) := Lib.hid (fun W hg => by
                    have h1 := ((HG7.out.trans hg).block b8 HJ.out.2.2.2.2.2.2.2 (by simp)).trans HJ.out.1
                    exact ⟨by simp [World.cell?, h1], by simp [World.frozen?, h1]⟩)
                  have HT2 : Hid (∀ W W', w7.grownBy W none → W.grownBy W' v.ownBlock → W'.cell? ⟨b8, 0, none⟩ = some v ∧ W'.frozen? ⟨b8, 0, none⟩ = false) := Lib.hid (fun W W' hg hg' => by
                    have hne : some b8 ≠ v.ownBlock := fun e => by have := own_low' HROW.out _ e.symm; omega
                    have h0 := HG7.out.trans hg
                    have h1 := (h0.block b8 HJ.out.2.2.2.2.2.2.2 (by simp)).trans HJ.out.1
                    have h2 := (hg'.block b8 (Nat.lt_of_lt_of_le HJ.out.2.2.2.2.2.2.2 h0.size) hne).trans h1
                    exact ⟨by simp [World.cell?, h2], by simp [World.frozen?, h2]⟩)
                  have HBS : Hid (∀ W, w7.grownBy W none → b8 + 1 ≤ W.heap.size) := Lib.hid (fun W hg => by have := (HG7.out.trans hg).size; have := HJ.out.2.2.2.2.2.2.2; omega)
                  have HNZ : Hid (∀ W, w7.grownBy W none → Calls Tryz.prog 36 #[.slice az zn cz] W fun e w' => ∃ (pa : Option Addr) (pc : Nat) (pl : List Int) (ln : Nat), e = .returned (.slice pa ln pc) ∧ Hid (pl = normL z ∧ pl.length = ln ∧ OwnP w' (pa, pc, pl)) ∧ W.grownBy w' none) := Lib.hid (fun W hg => by
                    have := normal_own (L := z) (by have := HBZ.out.2.2; omega) W (HZ.out.2.grown (HG7.out.trans hg))
                    rw [HBZ.out.2.1] at this
                    exact this.mono fun e w' ⟨⟨pa, pc, pl⟩, h1, h2, h3, h4, _⟩ => ⟨pa, pc, pl, _, h1, Lib.hid ⟨h2, rfl, h3⟩, h4⟩)
                  refine wp_region_gone_drew (S := (fun _ => True)) (T := (fun Wh : World => Wh.cell? ⟨b8, 0, none⟩ = some v ∧ Wh.frozen? ⟨b8, 0, none⟩ = false)) (m := 5) (by kernel_rfl) ⟨trivial, HT.out _ hdr⟩ (fun hHeld => ?_)
                  refine wpAnyG_takeT (i := 0) (oi := { dst := some 53, op := Op.load 22 (Operand.tmp 8), type := 22, pos := "checker.go:172", after := #[], guard := none }) (v := ?_) rfl rfl (by kernel_rfl) (by decide) (by kernel_rfl) (by kernel_rfl) (by kernel_rfl) (by kernel_rfl) (fun _ _ _ h => h) (Or.inl ⟨by rfl, ?_⟩) (by assumption) ?_
                  rotate_left 1
                  · (intro W hSW; (try dsimp only at hSW); first | (go_simp; done) | (go_simp; with_reducible rfl))
                  try simp only [Act.put, List.setIfInBounds_toArray, List.set_cons_zero, List.set_cons_succ]
                  refine wpAnyG_take (i := 1) (oi := { dst := some 54, op := Op.move (Operand.tmp 10), type := 34, pos := "checker.go:172", after := #[], guard := none }) (v := ?_) rfl (by decide) (by kernel_rfl) (by kernel_rfl) (by kernel_rfl) (fun _ _ _ h => h) (Or.inl ⟨by rfl, ?_⟩) (by assumption) ?_
                  rotate_left 1
                  · (intro W hSW; (try dsimp only at hSW); first | (go_simp; done) | (go_simp; with_reducible rfl))
                  try simp only [Act.put, List.setIfInBounds_toArray, List.set_cons_zero, List.set_cons_succ]
                  refine wpAnyG_ready (rs := [2]) (by kernel_rfl) (by simp) ?_
                  refine (AllReadyG.cons (o := { dst := some 55, op := Op.call { callee := Callee.value (Operand.func 36), args := #[Operand.tmp 54], argTypes := #[34] }, type := 34, pos := "checker.go:172", after := #[{ on := 1, ground := Ground.data }], guard := none }) rfl (fun K hK => ?_) AllReadyG.nil)
                  rw [if_pos (by rfl)]
                  go_simp
                  go_at_call 36
                  refine (HNZ.out _ hdr).mono ?_
                  rintro e wc1 ⟨pa, pc, pl, ln, rfl, YP, gc1⟩
                  have hgr1 := World.grownBy.trans hdr gc1
                  go_wp2_with fail
                  refine hK.out _ _ ⟨trivial, .inr (HT.out _ hgr1)⟩ (fun hHeld => ?_)
                  clear hK K
                  try simp only [Act.put, List.setIfInBounds_toArray, List.set_cons_zero, List.set_cons_succ]
                  refine wpAnyG_ready (rs := [3]) (by kernel_rfl) (by simp) ?_
                  refine (AllReadyG.cons (o := { dst := some 56, op := Op.buildSlice 22 1 #[(0, Operand.tmp 55)], type := 22, pos := "checker.go:172", after := #[{ on := 2, ground := Ground.data }], guard := none }) rfl (fun K hK => ?_) AllReadyG.nil)
                  rw [if_pos (by rfl)]
                  go_simp
                  have haA : ∀ r, wc1.grownBy (wc1.alloc (.cells #[.slice pa ln pc] 34)) r := fun r => World.grownBy_alloc wc1 _ r
                  have hnA : ∀ j u, [Value.slice pa ln pc][j]? = some u → (wc1.alloc (.cells #[.slice pa ln pc] 34)).cell? ((⟨wc1.heap.size, 0, none⟩ : Addr).add j) = some u := cell_one_new wc1 _ _
                  obtain ⟨WA, hWA⟩ : ∃ WA, wc1.alloc (.cells #[.slice pa ln pc] 34) = WA := ⟨_, rfl⟩
                  rw [hWA] at haA hnA ⊢
                  clear hWA
                  refine hK.out _ _ ⟨trivial, .inr (HT.out _ (hgr1.trans (haA none)))⟩ (fun hHeld => ?_)
                  clear hK K
                  try simp only [Act.put, List.setIfInBounds_toArray, List.set_cons_zero, List.set_cons_succ]
                  refine wpAnyG_ready (rs := [4]) (by kernel_rfl) (by simp) ?_
                  refine (AllReadyG.cons (o := { dst := some 57, op := Op.call { callee := Callee.builtin Builtin.append, args := #[Operand.tmp 53, Operand.tmp 56], argTypes := #[22, 22] }, type := 22, pos := "checker.go:172", after := #[{ on := 0, ground := Ground.data }, { on := 3, ground := Ground.data }, { on := 2, ground := Ground.chain }], guard := none }) rfl (fun K hK => ?_) AllReadyG.nil)
                  refine ready_append_g 22 34 (.tmp 53) (.tmp 56) rfl rfl Tryz.underlying22 hi0 hz0 hz1 hz2 rfl (by decide) (by omega) (b8 + 1) v k (ps.map encP) rfl (own_grown HROW.out (hgr1.trans (haA none))) ⟨wc1.heap.size, 0, none⟩ [Value.slice pa ln pc] rfl rfl hnA (fun u hu => by simp at hu; subst hu; rfl) (by omega) (HBS.out _ (hgr1.trans (haA none))) (fun v' w6 hown' hgrow6 hat6 => ?_)
                  obtain ⟨rgA, rcA, rfl⟩ := own_shape hown'
                  have hT6 := HT2.out _ _ (hgr1.trans (haA none)) hgrow6
                  refine hK.out _ _ ⟨trivial, .inr hT6⟩ (fun hHeld => ?_)
                  clear hK K
                  try simp only [Act.put, List.setIfInBounds_toArray, List.set_cons_zero, List.set_cons_succ]
                  refine wpAnyG_ready (rs := [5]) (by kernel_rfl) (by simp) ?_
                  refine (AllReadyG.cons (o := { dst := none, op := Op.store 22 (Operand.tmp 8) (Operand.tmp 57), type := 0, pos := "checker.go:172", after := #[{ on := 4, ground := Ground.data }, { on := 4, ground := Ground.chain }, { on := 0, ground := Ground.phase }, { on := 1, ground := Ground.phase }, { on := 2, ground := Ground.phase }, { on := 3, ground := Ground.phase }, { on := 4, ground := Ground.phase }], guard := none }) rfl (fun K hK => ?_) AllReadyG.nil)
                  rw [if_pos (by rfl)]
                  obtain ⟨s1, s2⟩ := hT6
                  go_simp
                  refine hK.out _ _ ⟨trivial, .inl (by rfl)⟩ (fun hHeld => ?_)
                  clear hK K
                  try simp only [Act.put, List.setIfInBounds_toArray, List.set_cons_zero, List.set_cons_succ]
                  refine wpAnyG_done (by kernel_rfl) ?_ _
                  have HE : Hid (∃ (v' : Value) (ps' : List Nr), (w6.setCell ⟨b8, 0, none⟩ (.slice rgA (k + 1) rcA)).heap[b8]? = some (.cells #[v'] 22 (0, 0)) ∧ (w6.setCell ⟨b8, 0, none⟩ (.slice rgA (k + 1) rcA)).ownsRow (b8 + 1) 34 1 v' (k + 1) (ps'.map encP) ∧ (∀ p ∈ ps', OwnP (w6.setCell ⟨b8, 0, none⟩ (.slice rgA (k + 1) rcA)) p) ∧ ps'.map (·.2.2) = (C.take (k + 1)).map normL ∧ (C.take (k + 1)).all (fun c => c.all (inRb V)) = true ∧ W5.grownBy (w6.setCell ⟨b8, 0, none⟩ (.slice rgA (k + 1) rcA)) (some b8) ∧ b8 < (w6.setCell ⟨b8, 0, none⟩ (.slice rgA (k + 1) rcA)).heap.size) := Lib.hid (by
                    have hA := hgr1.trans (haA none)
                    have hne : some b8 ≠ v.ownBlock := fun e => by have := own_low' HROW.out _ e.symm; omega
                    have h0 := HG7.out.trans hA
                    have hlt := HJ.out.2.2.2.2.2.2.2
                    have h1 := (h0.block b8 hlt (by simp)).trans HJ.out.1
                    have h2 := (hgrow6.block b8 (Nat.lt_of_lt_of_le hlt h0.size) hne).trans h1
                    have hset : w6.grownBy (w6.setCell ⟨b8, 0, none⟩ (.slice rgA (k + 1) rcA)) (some b8) := grown_set w6 b8 0 _
                    have hrowA : WA.ownsRow (b8 + 1) 34 1 v k (ps.map encP) := own_grown HROW.out hA
                    have htk : C.take (k + 1) = C.take k ++ [z] := by rw [List.take_add_one, HZ.out.1]; rfl
                    have hlow6 := own_low' hown'
                    refine ⟨_, ps ++ [(pa, pc, pl)], heap_setCell_one h2, ?_, ?_, ?_, ?_, ?_, ?_⟩
                    · have := hown'.kept hset (.inr (fun e => by have := hlow6 _ e; omega))
                      rw [List.map_append]
                      have e5 : [(pa, pc, pl)].map encP = [Value.slice pa ln pc] := by simp [encP, YP.out.2.1]
                      rw [e5]; exact this
                    · have keep6 : ∀ q, OwnP WA q → OwnP (w6.setCell ⟨b8, 0, none⟩ (.slice rgA (k + 1) rcA)) q := fun q hq =>
                        (hq.keep hgrow6 (row34 hrowA)).keep hset (fun g e => by cases e; exact ⟨_, 22, _, h2, by decide⟩)
                      intro q hq
                      rcases List.mem_append.1 hq with hq | hq
                      · exact keep6 q ((HJ.out.2.2.1 q hq).grown h0)
                      · rw [List.mem_singleton.1 hq]; exact keep6 _ (YP.out.2.2.grown (haA none))
                    · rw [htk, List.map_append, List.map_append, HJ.out.2.2.2.1]
                      simp [YP.out.1]
                    · rw [htk, List.all_append, HJ.out.2.2.2.2.1]
                      simp only [List.all_cons, List.all_nil, Bool.and_true, Bool.true_and]
                      exact HBZ.out.1
                    · have hw5s : W5.heap.size = b8 + 1 := H5.out.1.2.2
                      refine grown_in (grown_in (grown_in HJ.out.2.2.2.2.2.1 h0 (fun k e => by cases e)) hgrow6 (fun j e => .inl ?_)) hset (fun j e => .inr (by cases e; rfl))
                      have := own_low' HROW.out _ e; omega
                    · exact Nat.lt_of_lt_of_le hlt (Nat.le_trans h0.size (Nat.le_trans hgrow6.size hset.size)))
                  clear hHeld hdr gc1 hgr1 haA hnA hown' hgrow6 hat6 s1 s2
                  go_wp2_with fail
                  go_roundg (cn - (k + 1))
                  case measure => rw [HJ.out.2.2.2.2.2.2.1]; omega
                  case rel =>
                    obtain ⟨v', ps', t1, t2, t3, t4, t5, t6, t7⟩ := HE.out
                    exact ⟨k + 1, rfl, rfl, by omega, v', ps', t1, t2, t3, t4, t5, t6, t7⟩
              · have hke : k = cn := by omega
                subst hke
                have f4 : decide ((k : Int) < (k : Int)) = false := decide_eq_false (by omega)
                have f4' : decide (k < k) = false := by simp
                have hCk : C.take k = C := List.take_of_length_le (by rw [HH.out.2.2.2.1]; exact Nat.le_refl _)
                have HSY : Hid (symB V C S = C.all (fun c => C.any (fun d => eqS d (imgL S c)))) := Lib.hid (by
                  have h5 := HJ.out.2.2.2.2.1
                  rw [hCk] at h5
                  unfold symB
                  rw [decide_eq_true (by have := HLEN.out; have := HH.out.2.2.2.2; omega), HBI.out, decide_eq_true HND.out, h5]
                  simp only [Bool.true_and])
                have HW3 : Hid (wr.cell? ⟨bf + 1, 0, none⟩ = some (.slice sa S.length sc)) := Lib.hid (by
                  rw [HH.out.2.2.2.2]
                  exact HJ.out.2.2.2.2.2.1.cell H5.out.2.2.2 (by have := HB8.out; simp; omega))
                have HMP : Hid (ps.map (·.2.2) = C.map normL) := Lib.hid (by have := HJ.out.2.2.2.1; rwa [hCk] at this)
                clear hCk
                have hmf : ∀ (fn : Fn) (first cap : Array Value) (w : World), (Instr.makeFunc fn first cap).run Tryz.prog w = .ok (.func fn first cap) w := fun _ _ _ _ => rfl
                obtain ⟨cv1, _⟩ := hcv
                rcases HJ.out.2.1.2 with ⟨rfl, h0⟩ | ⟨g, cap, cur, rfl, hB, hg, hrest⟩
                · subst h0
                  have hC0 : C = [] := List.eq_nil_of_length_eq_zero HH.out.2.2.2.1
                  have HRS : Hid (symB V C S = true) := Lib.hid (by rw [HSY.out, hC0]; rfl)
                  have HCT := Lib.hid (contains39_calls (F := fun _ => true) (p0 := .pointer (some ⟨b8, 0, none⟩)) (p1 := .pointer (some ⟨bf + 1, 0, none⟩)) (HH.out.1.grown hwg) (by rw [hC0]; decide) (fun z a c W hz => by rw [hC0] at hz; cases hz))
                  rw [HH.out.2.2.2.1] at HCT
                  have hCa : C.any (fun _ => true) = false := by rw [hC0]; rfl
                  rw [hCa] at HCT
                  clear hC0 hCa hwg
                  go_wp2_with fail
                  refine (sort37_none wr).mono ?_
                  rintro e w9 ⟨rfl, hw9⟩
                  rw [hw9]
                  clear hw9
                  go_wp2_with fail
                  refine HCT.out.mono ?_
                  rintro e w10 ⟨rfl, g10⟩
                  have HE := Lib.hid (HWG.out.trans g10)
                  clear g10
                  go_wp2_with fail
                  go_ret
                  exact ⟨by rw [HRS.out]; rfl, HE.out⟩
                · have HSO := Lib.hid (sort37_calls wr (b8 + 1) g cap k ps ⟨HJ.out.2.1, HJ.out.2.2.1⟩ (by omega))
                  have HGB : Hid (b8 + 1 ≤ g) := Lib.hid hB
                  clear hB hg hrest hwg
                  go_wp2_with fail
                  refine HSO.out.mono ?_
                  rintro e w9 ⟨rfl, ps', hper, hsrt, hrp, g9⟩
                  have hne : ∀ j : Nat, j ≤ b8 → some j ≠ some g := fun j hj e => by cases e; have := HGB.out; omega
                  have x0 := g9.cell u0 (hne _ (by have := HB8.out; simp only; omega))
                  have x1 := g9.cell u1 (hne _ (by have := HB8.out; simp only; omega))
                  have x3 := g9.cell HW3.out (hne _ (by have := HB8.out; simp only; omega))
                  have x8 := g9.cell cv1 (hne _ (Nat.le_refl _))
                  have hw9 : w.grownBy w9 none := grown_own HWG.out g9 (fun j e => by cases e; have := HGB.out; have := HB8.out; have := HG2.out.2.2; omega)
                  have HCT := Lib.hid (contains39_calls (F := fun z => !decide (∃ p ∈ ps', p.2.2 = normL (imgL S z))) (p0 := .pointer (some ⟨b8, 0, none⟩)) (p1 := .pointer (some ⟨bf + 1, 0, none⟩)) (HH.out.1.grown hw9) (by rw [HH.out.2.2.2.1]; omega) (fun z a c W hz hgW hiz =>
                    sym1_calls W b8 (bf + 1) (b8 + 1) g cap k ps' (hrp.grown hgW) (by omega) hsrt S sa sc (HH.out.2.1.grown (hw9.trans hgW)) (hgW.cell x8 (by simp)) (hgW.cell x3 (by simp)) (by have := HH.out.2.2.2.2; omega)
                      (fun y hy => by obtain ⟨y0, y1, y2⟩ := HSR.out y hy; omega) z a c hiz (HH.out.2.2.1 z hz) (fun x hx => by
                        have h5 := HJ.out.2.2.2.2.1
                        rw [List.take_of_length_le (by rw [HH.out.2.2.2.1]; exact Nat.le_refl _)] at h5
                        have := inRb_iff.1 (List.all_eq_true.1 (List.all_eq_true.1 h5 z hz) x hx)
                        have e6 : S.length = V := by have := HLEN.out; have := HH.out.2.2.2.2; omega
                        rw [e6]; exact this)))
                  have HRS : Hid ((!C.any (fun z => !decide (∃ p ∈ ps', p.2.2 = normL (imgL S z)))) = symB V C S) := Lib.hid (by
                    rw [HSY.out, Bool.eq_iff_iff, Bool.not_eq_true', List.any_eq_false, List.all_eq_true]
                    have key : ∀ z, decide (∃ p ∈ ps', p.2.2 = normL (imgL S z)) = C.any (fun d => eqS d (imgL S z)) := fun z => by
                      rw [Bool.eq_iff_iff, decide_eq_true_eq, List.any_eq_true]
                      constructor
                      · rintro ⟨p, hp, e⟩
                        have h1 : p.2.2 ∈ C.map normL := by rw [← HMP.out]; exact List.mem_map.2 ⟨p, hper.mem_iff.1 hp, rfl⟩
                        obtain ⟨d, hd, e2⟩ := List.mem_map.1 h1
                        exact ⟨d, hd, eqS_norm.2 (by rw [e2, e])⟩
                      · rintro ⟨d, hd, e⟩
                        have h1 : normL d ∈ ps.map (·.2.2) := by rw [HMP.out]; exact List.mem_map.2 ⟨d, hd, rfl⟩
                        obtain ⟨p, hp, e2⟩ := List.mem_map.1 h1
                        exact ⟨p, hper.mem_iff.2 hp, by rw [e2]; exact eqS_norm.1 e⟩
                    constructor
                    · intro h z hz
                      have := h z hz
                      rw [key] at this
                      simpa using this
                    · intro h z hz
                      rw [key, h z hz]; simp)
                  rw [HH.out.2.2.2.1] at HCT
                  obtain ⟨ans, hans⟩ : ∃ b, C.any (fun z => !decide (∃ p ∈ ps', p.2.2 = normL (imgL S z))) = b := ⟨_, rfl⟩
                  rw [hans] at HCT HRS
                  have HW9 := Lib.hid hw9
                  clear hper hsrt hrp g9 hne hw9 hans x3
                  go_wp2_with fail
                  refine HCT.out.mono ?_
                  rintro e w10 ⟨rfl, g10⟩
                  have HE := Lib.hid (HW9.out.trans g10)
                  clear g10
                  go_wp2_with fail
                  go_ret
                  exact ⟨by rw [← HRS.out]; rfl, HE.out⟩
end Go.Proofs.YtihaheinkpmnnaaGreat

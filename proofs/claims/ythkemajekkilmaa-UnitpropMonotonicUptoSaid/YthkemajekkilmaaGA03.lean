/- Stage 20, joined: O1, J1, B2, N2, N4, N5, N3. -/
import Derived.Test.YthkemajekkilmaaGA02
import Derived.RangeFuncCalls
import Derived.OrdersHeld
import Derived.Deep.RegionHeld
import Derived.Maps.AppendAt
import Derived.Test.YthkemajekkilmaaGA00
/- The occurrences of a formula's literals are given one after the other. -/
namespace Go.Proofs.Ythkemajekkilmaa
open Go.RowKit Go.Shelf
attribute [local go_sem] Oper.semAt_some
theorem agree_cell {w0 W : World} (h : ∀ b, b < w0.heap.size → W.heap[b]? = w0.heap[b]?) {ad : Addr} {v : Value} (hc : w0.cell? ad = some v) : W.cell? ad = some v := by
  rw [World.cell?_of_block (h ad.block (lies_lt hc))]; exact hc
theorem ix_calls' (V : Nat) (x : Int) (h : InR V x) (hV : V ≤ 1000) (w : World) : Calls Try.prog 55 #[.int .i64 x] w fun e w' => e = .returned (.int .i64 (ixL' x : Int)) ∧ w' = w := by
  have := ix_calls x w (by obtain ⟨_, _, _⟩ := h; omega)
  have e : ixL x = (ixL' x : Int) := by obtain ⟨_, _, _⟩ := h; unfold ixL ixL'; split <;> omega
  rwa [e] at this
def ocV (x : Int × Nat) : Array Value := #[.int .i64 x.1, .int .i64 (x.2 : Int)]
set_option maxHeartbeats 16000000 in
set_option maxRecDepth 100000 in
theorem occ_gives (V : Nat) (C : List (List Int)) (p : Nat) (ca : Option Addr) (cc sz : Nat) (w0 w : World) (hz0 : w0.heap.size = sz) (hsz : sz ≤ w.heap.size) (hag : ∀ b, b < w0.heap.size → w.heap[b]? = w0.heap[b]?) (hs : ClsW w0 ca cc C)
    (c0 : w.cell? ⟨p, 0, none⟩ = some (.int .i64 (V : Int))) (c1 : w.cell? ⟨p, 1, none⟩ = some (.slice ca C.length cc)) (hV : V ≤ 1000) (hC : C.length ≤ 1000) (hL : ∀ c ∈ C, c.length ≤ 1000) (hR : Ran V C) :
    GivesG ocV Fence.wide Try.prog 54 #[.pointer (some ⟨p, 0, none⟩)] #[] (fun b => b < sz) (occs C) w := by
  intro nn l J Safe hcap hJ hY h0
  obtain ⟨n, hn⟩ : ∃ m, C.length = m := ⟨_, rfl⟩
  rw [hn] at hC c1
  have HAG := Lib.hid (show ∀ W, Low sz Safe w W → ∀ b, b < w0.heap.size → W.heap[b]? = w0.heap[b]? from fun W hW b hb => (hW b (by omega)).1.trans (hag b hb))
  have HXY := Lib.hid (And.intro hs (And.intro hn (And.intro hL hR)))
  have HSZ := Lib.hid hsz
  have HH := Lib.hid (And.intro hJ hY)
  have hlow : Low sz Safe w w := fun b hb => ⟨rfl, hcap b hb⟩
  have HL := Lib.hid (And.intro hlow h0)
  obtain ⟨M, hM⟩ : ∃ M, 2 * V + 2 = M := ⟨_, rfl⟩
  have k3 : IntKind.i64.wrap (2 * (V : Int)) = 2 * (V : Int) := IntWalk.i64_in _ (by omega)
  have k4 : IntKind.i64.wrap (2 * (V : Int) + 2) = (M : Int) := by rw [IntWalk.i64_in _ (by omega)]; omega
  have k5 : ∀ U : World, (Instr.makeSlice 25 (.int .i64 (M : Int)) (.int .i64 (M : Int))).run Try.prog U = .ok (.slice (some ⟨U.heap.size, 0, none⟩) M M) (U.alloc (.cells (madeCells #[.int .i64 0] M) 3)) := fun U => mk25 U M (by omega)
  have HM := Lib.hid hM
  have hlp := lies_lt c0
  clear hs hag hz0 hn hsz hJ hY h0 hcap hlow hL hR hM
  refine callsIn_of_wp Try.func54 rfl trivial ?_ rfl
  simp only [Try.ntmps54, List.size_toArray, List.length_cons, List.length_nil, Nat.reduceAdd, Nat.reduceSub, Array.replicate_succ, Array.replicate_zero, List.push_toArray, List.append_toArray, List.nil_append, List.cons_append]
  have hg1 := World.grownBy_alloc w (.cells (madeCells #[.int .i64 0] M) 3) none
  have HO1 : Hid ((w.alloc (.cells (madeCells #[.int .i64 0] M) 3)).ownsRow w.heap.size 3 1 (.slice (some ⟨w.heap.size, 0, none⟩) M M) M (List.replicate M (.int .i64 0))) := Lib.hid (made_own w w.heap.size M (.int .i64 0) 3 (Nat.le_refl _) (by have := HM.out; omega))
  have c1' := hg1.cell c1 (by simp)
  obtain ⟨W0, hW0⟩ : ∃ z, w.alloc (.cells (madeCells #[.int .i64 0] M) 3) = z := ⟨_, rfl⟩
  obtain ⟨L, hLb⟩ : ∃ z, w.heap.size = z := ⟨_, rfl⟩
  rw [hW0] at hg1 HO1 c1'
  rw [hLb] at HO1
  have hls : L < W0.heap.size := by rw [← hW0, ← hLb]; simp
  have HL0 : Hid (Low sz Safe w W0 ∧ J [] W0 ∧ Safe W0 L) := Lib.hid ⟨HL.out.1.grown HH.out.1 HL.out.2 hg1 HSZ.out, HH.out.1.keep _ _ _ HL.out.2 (.of_none hg1), HH.out.1.fresh _ _ _ _ HL.out.2 (.of_none hg1) (by omega) hls⟩
  have HLB := Lib.hid hLb
  clear hg1 hLb hls
  gi_wp2_with fail
  rw [HLB.out]
  clear k3 k4 k5 c0 c1 c1' hW0 hlp
  gi_loopg [23] n (fun g s23 wr => ∃ k : Nat, s23 = .int .i64 (k : Int) ∧ g = n - k ∧ k ≤ n ∧ (Low sz Safe w wr ∧ J (occsTo C k) wr ∧ Safe wr L) ∧ ∃ la, wr.ownsRow L 3 1 (.slice (some ⟨L, 0, none⟩) M M) M (intCells la) ∧ LastOk V k [] la)
  case atStart => exact ⟨0, rfl, rfl, Nat.zero_le _, HL0.out, List.replicate M 0, by have := HO1.out; rwa [intCells, List.map_replicate], by have := LastOk.start V; rwa [HM.out] at this⟩
  case round =>
    obtain ⟨k, rfl, hgk, hk, hj, la, hrow, hla⟩ := hrel
    obtain ⟨wo, hwo⟩ : ∃ z, z = wr := ⟨_, rfl⟩
    rw [← hwo] at hj hrow ⊢
    clear hwo
    have HI := Lib.hid (And.intro hgk (And.intro hj (And.intro hrow hla)))
    clear hgk hj hrow hla
    by_cases hkn : k < n
    · have f1 : decide (k < n) = true := decide_eq_true hkn
      have f2 : decide ((k : Int) < (n : Int)) = true := decide_eq_true (by omega)
      have f3 : (k : Int) < (n : Int) := by omega
      obtain ⟨c, hc⟩ : ∃ c, C[k]? = some c := ⟨_, List.getElem?_eq_getElem (by rw [HXY.out.2.1]; exact hkn)⟩
      obtain ⟨b, o, a', c', rfl, h4, h5⟩ := HXY.out.1.at hc
      have hCm := List.mem_of_getElem? hc
      obtain ⟨m, hm⟩ : ∃ m, c.length = m := ⟨_, rfl⟩
      have hm1 : m ≤ 1000 := by have := HXY.out.2.2.1 c hCm; omega
      have HCK : Hid (C.getD k [] = c ∧ c.length = m ∧ (∀ y ∈ c, InR V y)) := Lib.hid ⟨by rw [List.getD_eq_getElem?_getD, hc]; rfl, hm, HXY.out.2.2.2 c hCm⟩
      rw [hm] at h4
      have h4' := agree_cell (HAG.out _ HI.out.2.1.1) h4
      have H5 := Lib.hid h5
      clear hc hCm hm h4 h5
      gi_wp2_with fail
      clear f1 f2 f3 h4'
      gi_loopg [30] m (fun g s30 wr => ∃ j : Nat, s30 = .int .i64 (j : Int) ∧ g = m - j ∧ j ≤ m ∧ (Low sz Safe w wr ∧ J (occsTo C k ++ occC C k (c.take j)) wr ∧ Safe wr L) ∧ ∃ la, wr.ownsRow L 3 1 (.slice (some ⟨L, 0, none⟩) M M) M (intCells la) ∧ LastOk V k (c.take j) la)
      case atStart => exact ⟨0, rfl, rfl, Nat.zero_le _, by rw [List.take_zero, occC_nil, List.append_nil]; exact HI.out.2.1, la, HI.out.2.2.1, by rw [List.take_zero]; exact HI.out.2.2.2⟩
      case round =>
        obtain ⟨j, rfl, hgj, hj, hjj, lb, hrow, hlb⟩ := hrel
        obtain ⟨wj, hwo⟩ : ∃ z, z = wr := ⟨_, rfl⟩
        rw [← hwo] at hjj hrow ⊢
        clear hwo
        have HJ := Lib.hid (And.intro hgj (And.intro hjj (And.intro hrow hlb)))
        clear hgj hjj hrow hlb
        by_cases hjm : j < m
        · have f1 : decide (j < m) = true := decide_eq_true hjm
          have f2 : decide ((j : Int) < (m : Int)) = true := decide_eq_true (by omega)
          have f3 : (j : Int) < (m : Int) := by omega
          obtain ⟨x, hx⟩ : ∃ x, c[j]? = some x := ⟨_, List.getElem?_eq_getElem (by rw [HCK.out.2.1]; exact hjm)⟩
          have hxr := HCK.out.2.2 x (List.mem_of_getElem? hx)
          obtain ⟨b', o', rfl, hcx⟩ := H5.out.at hx
          have hcx' := agree_cell (HAG.out _ HJ.out.2.1.1) hcx
          have htake : c.take (j + 1) = c.take j ++ [x] := by
            have h1 := List.getElem?_eq_some_iff.1 hx
            rw [List.take_succ_eq_append_getElem h1.1, h1.2]
          obtain ⟨ix, hix⟩ : ∃ z, ixL' x = z := ⟨_, rfl⟩
          have HIX : Hid (∀ U, Calls Try.prog 55 #[.int .i64 x] U fun e w' => e = .returned (.int .i64 (ix : Int)) ∧ w' = U) := Lib.hid (by rw [← hix]; exact ix_calls' V x hxr hV)
          have hixM : ix < M := by have h1 := ix_lt hxr; have h2 := HM.out; omega
          have hlbl : lb.length = M := by rw [HJ.out.2.2.2.len]; exact HM.out
          have hcl : wj.cell? ⟨L, ix, none⟩ = some (.int .i64 (at_ lb ix)) := irow_cell (B := L) (c := M) (l := lb) (by unfold IRow; rw [hlbl]; exact HJ.out.2.2.1) (by omega)
          have hfl : wj.frozen? ⟨L, ix, none⟩ = false := World.ownsRow.frozenAt HJ.out.2.2.1 ix
          have i1 : (ix : Int) < (M : Int) := by omega
          have HT := Lib.hid (And.intro htake (And.intro hix hxr))
          obtain ⟨z, hz⟩ : ∃ z, at_ lb ix = z := ⟨_, rfl⟩
          rw [hz] at hcl
          have hiff := HJ.out.2.2.2.iff x hxr
          rw [hix, hz] at hiff
          have kk : IntKind.i64.wrap ((k : Int) + 1) = (k : Int) + 1 := IntWalk.i64_in _ (by omega)
          by_cases hseen : x ∈ c.take j
          · have e1 : (z == (k : Int) + 1) = true := by rw [beq_iff_eq]; exact hiff.2 hseen
            have HS := Lib.hid hseen
            clear hx hxr hcx htake hix hlbl hz hiff hseen hfl
            gi_wp2_with fail
            refine ⟨trivial, fun h => (by cases h), (callsIn_wide.2 (HIX.out _)).mono ?_⟩
            rintro e w9 ⟨rfl, hw9⟩
            rw [hw9]
            clear hw9 w9
            gi_wp2_with fail
            gi_roundg (m - (j + 1))
            case measure => rw [HJ.out.1]; omega
            case rel => exact ⟨j + 1, rfl, rfl, by omega, by rw [HT.out.1, occC_old HS.out]; exact HJ.out.2.1, lb, HJ.out.2.2.1, by rw [HT.out.1]; exact HJ.out.2.2.2.old HS.out⟩
          · have e1 : (z == (k : Int) + 1) = false := by rw [beq_eq_false_iff_ne]; exact fun h => hseen (hiff.1 h)
            have hHS : J (occsTo C k ++ occC C k (c.take j)) (wj.setCell ⟨L, ix, none⟩ (.int .i64 ((k : Int) + 1))) := HH.out.1.keep _ _ _ HJ.out.2.1.2.1 ⟨some L, grown_set _ _ _ _, fun r e => by cases e; have := HLB.out; omega⟩
            have hSf : ∀ b, Safe wj b → Safe (wj.setCell ⟨L, ix, none⟩ (.int .i64 ((k : Int) + 1))) b := fun b hb => HH.out.1.safe _ _ _ b HJ.out.2.1.2.1 ⟨some L, grown_set _ _ _ _, fun r e => by cases e; have := HLB.out; omega⟩ hb
            have hrow' := (World.ownsRow.stored HJ.out.2.2.1 ix (.int .i64 ((k : Int) + 1))).1
            rw [intCells, ← List.map_set] at hrow'
            have hlow' : Low sz Safe w (wj.setCell ⟨L, ix, none⟩ (.int .i64 ((k : Int) + 1))) := fun b hb => by
              obtain ⟨h1, h2⟩ := HJ.out.2.1.1 b hb
              exact ⟨(Below.heap_setCell _ _ _ _ (by have := HLB.out; have := HSZ.out; simp only; omega)).trans h1, hSf b h2⟩
            have hlb' := HJ.out.2.2.2.put hxr
            rw [hix] at hlb'
            have hpre : (occsTo C k ++ occC C k (c.take j)) ++ [(x, k)] <+: occs C := by
              have h1 := occs_pre (C := C) (k := k) (by rw [HXY.out.2.1]; exact hkn) (l := c.take (j + 1)) (m := c.drop (j + 1)) (by rw [HCK.out.1, List.take_append_drop])
              rwa [htake, occC_new hseen, ← List.append_assoc] at h1
            obtain ⟨WS, hWS⟩ : ∃ z, wj.setCell ⟨L, ix, none⟩ (.int .i64 ((k : Int) + 1)) = z := ⟨_, rfl⟩
            rw [hWS] at hHS hrow' hlow' hSf
            obtain ⟨fn, tmps, assign, body, hy, hRI⟩ := HH.out.2 _ (x, k) _ hHS hpre
            simp only [ocV] at hy
            have HRI := Lib.hid hRI
            have HN := Lib.hid (And.intro hrow' (And.intro hlow' (And.intro hlb' (And.intro (hSf L HJ.out.2.1.2.2) (And.intro hpre hseen)))))
            clear hRI hrow' hlow' hlb' hSf hpre hseen hHS hx hxr hcx htake hix hlbl hz hiff
            gi_wp2_with fail
            refine ⟨trivial, fun h => (by cases h), (callsIn_wide.2 (HIX.out _)).mono ?_⟩
            rintro e w9 ⟨rfl, hw9⟩
            rw [hw9]
            clear hw9 w9
            gi_wp2_with fail
            refine ⟨trivial, fun h => (by cases h), (callsIn_wide.2 (HIX.out _)).mono ?_⟩
            rintro e w9 ⟨rfl, hw9⟩
            rw [hw9]
            clear hw9 w9
            gi_wp2_with fail
            clear hy
            refine ⟨fun h => (by cases h), ?_⟩
            refine HRI.out.mono ?_
            rintro e W3 ⟨rfl, hJ3, hs3⟩
            have H3 := Lib.hid (And.intro hJ3 (And.intro (HN.out.2.1.saved hs3) (hs3 L HN.out.2.2.2.1)))
            clear hJ3 hs3
            gi_wp2_with fail
            gi_roundg (m - (j + 1))
            case measure => rw [HJ.out.1]; omega
            case rel =>
              refine ⟨j + 1, rfl, rfl, by omega, ⟨H3.out.2.1, ?_, H3.out.2.2.2⟩, _, ?_, by rw [HT.out.1]; exact HN.out.2.2.1⟩
              · rw [HT.out.1, occC_new HN.out.2.2.2.2.2, ← List.append_assoc]; exact H3.out.1
              · refine ⟨HN.out.1.1, ?_⟩
                rcases HN.out.1.2 with ⟨h1, _⟩ | ⟨g, cap, cur, h1, h2, h3, h4⟩
                · cases h1
                · refine .inr ⟨g, cap, cur, h1, h2, ?_, h4⟩
                  have : g = L := by injection h1 with h1; injection h1 with h1; injection h1 with h1; exact h1.symm
                  subst this
                  exact H3.out.2.2.1.trans h3
        · have hje : j = m := by omega
          subst hje
          have f1 : decide (j < j) = false := by simp
          gi_wp2_with fail
          gi_roundg (n - (k + 1))
          case measure => rw [HI.out.1]; omega
          case rel =>
            refine ⟨k + 1, rfl, rfl, by omega, ⟨HJ.out.2.1.1, ?_, HJ.out.2.1.2.2⟩, lb, HJ.out.2.2.1, HJ.out.2.2.2.next⟩
            have h1 := HJ.out.2.1.2.1
            rw [← HCK.out.2.1, List.take_length] at h1
            rw [occsTo_succ, HCK.out.1]
            exact h1
    · have hke : k = n := by omega
      subst hke
      have f1 : decide (k < k) = false := by simp
      gi_wp2_with fail
      go_end0
      refine ⟨⟨_, rfl⟩, ?_⟩
      have := HI.out.2.1.2.1
      unfold occs
      rw [HXY.out.2.1]
      exact this
end Go.Proofs.Ythkemajekkilmaa
/- A region that draws, in a round of a loop over an iterator: it goes as outside. -/
namespace Go.Proofs.Ythkemajekkilmaa
open Go.RowKit

theorem wpOpIn_of {l n : Nat} {P : Program} {ops : Array Oper} {Q : Exit → Act → World → Prop} {i : Nat} {K K' : Act → World → Prop} {a : Act} {w : World} (hd : ∀ (j : Nat) (o : Oper), ops[j]? = some o → ∀ c, o.op ≠ .defer c) (hout : ¬ LetsOut Q) (hK : ∀ a w, K a w → K' a w) (h : wpOp P ops Q i K a w) :
    wpOpIn (Fence.wide.inRound l) n P ops Q i K' a w := by
  unfold wpOp at h
  unfold wpOpIn
  split
  · rename_i hi
    rw [hi] at h
    exact hK _ _ h
  · rename_i o ho
    rw [ho] at h
    simp only at h
    split
    · rename_i hw
      rw [if_pos hw] at h
      rcases h with h | h
      · refine ⟨fun _ _ => trivial, ?_⟩
        rw [Oper.semAt_eq _ _ _ (hd i o ho)]
        unfold Oper.wp at h
        generalize (execOp a.eval o).run P w = r at h ⊢
        cases r with
        | ok x w' =>
          cases x with
          | value v => exact hK _ _ h
          | skip => exact hK _ _ h
          | defer d => exact hK _ _ h
          | enter f args =>
            refine ⟨fun e => (by cases e), CallsIn.inRound l (callsIn_wide.2 (Calls.mono h fun e w'' he => ?_))⟩
            cases e with
            | returned v => exact hK _ _ he
            | panicked c => exact he
            | outgrown => exact he
          | row r args =>
            refine ⟨fun e => (by cases e), ?_⟩
            exact fun c cs _ => by
              obtain ⟨v, w2, hr, hs⟩ := h c cs
              exact ⟨v, w2, hK _ _ hr, (stepsIn_wide).2 hs⟩
          | _ => exact h.elim
        | halt x w' =>
          cases x with
          | panic u => exact h
          | _ => exact h.elim
      · exact absurd h.2 hout
    · rename_i hw
      rw [if_neg hw] at h
      exact ⟨fun _ _ => trivial, hK _ _ h⟩
theorem wpAnyIn_of {l n : Nat} {P : Program} {md : Region.Mode} {ops : Array Oper} {Q : Exit → Act → World → Prop} (hd : ∀ (j : Nat) (o : Oper), ops[j]? = some o → ∀ c, o.op ≠ .defer c) (hout : ¬ LetsOut Q) :
    ∀ (fuel : Nat) (listed : Array Bool) (a : Act) (w : World), wpAny P md ops Q fuel listed a w → wpAnyIn (Fence.wide.inRound l) n P md ops Q fuel listed a w
  | 0, _, _, _, h => h
  | fuel + 1, _, _, _, h => ⟨h.1, fun i hi => wpOpIn_of hd hout (fun a' w' h' => wpAnyIn_of hd hout fuel _ a' w' h') (h.2 i hi)⟩
/-- No operation is a defer statement. -/
def noDefer (ops : Array Oper) : Bool := ops.toList.all fun o => match o.op with | .defer _ => false | _ => true
theorem noDefer_spec {ops : Array Oper} (h : noDefer ops = true) : ∀ (j : Nat) (o : Oper), ops[j]? = some o → ∀ c, o.op ≠ .defer c := by
  intro j o ho c e
  have h1 := List.all_eq_true.1 h o (by rw [← Array.getElem?_toList] at ho; exact List.mem_of_getElem? ho)
  rw [e] at h1
  cases h1
/-- A region under a held condition, in a round. -/
theorem wpIn_region_held_round {l n : Nat} {P : Program} {id : Nat} {ops : Array Oper} {Q : Exit → Act → World → Prop} {S : World → Prop} {a : Act} {w : World} (hm : P.follows .mixedOrders = true) (hd : noDefer ops = true) (hout : ¬ LetsOut Q) (hS : S w.drew)
    (h : S w.drew → wpAnyH P .any ops Q S ops.size (Array.replicate ops.size false) a w.drew) : (Code.region id ops true).wpIn (Fence.wide.inRound l) n P Q a w :=
  wpIn_region_any hm (wpAnyIn_of (noDefer_spec hd) hout _ _ _ _ (wpAny_of_held _ _ _ _ (h hS)))
end Go.Proofs.Ythkemajekkilmaa
/- Lists of occurrences, plain: counted, summed up, filled. -/
namespace Go.Proofs.Ythkemajekkilmaa
abbrev Oc := Int × Nat
def key (x : Oc) : Nat := ixL' x.1
def cntE (m : Nat) (l : List Oc) : Nat := l.countP fun x => key x == m
def cntL (m : Nat) (l : List Oc) : Nat := l.countP fun x => decide (key x < m)
def sel (m : Nat) (l : List Oc) : List Nat := (l.filter fun x => key x == m).map (·.2)
theorem sel_len (m : Nat) (l : List Oc) : (sel m l).length = cntE m l := by
  unfold sel cntE; rw [List.length_map, List.countP_eq_length_filter]
theorem cntE_snoc (m : Nat) (l : List Oc) (x : Oc) : cntE m (l ++ [x]) = cntE m l + (if key x = m then 1 else 0) := by
  unfold cntE; rw [List.countP_append]; simp [List.countP_cons]
theorem sel_snoc (m : Nat) (l : List Oc) (x : Oc) : sel m (l ++ [x]) = sel m l ++ (if key x = m then [x.2] else []) := by
  unfold sel
  rw [List.filter_append, List.map_append]
  by_cases h : key x = m <;> simp [h]
theorem cntL_succ (m : Nat) (l : List Oc) : cntL (m + 1) l = cntL m l + cntE m l := by
  unfold cntL cntE
  induction l with
  | nil => rfl
  | cons a l ih =>
    rw [List.countP_cons, List.countP_cons, List.countP_cons, ih]
    by_cases h1 : key a = m
    · simp [h1]; omega
    · by_cases h2 : key a < m
      · have : key a < m + 1 := by omega
        simp [h1, h2, this]; omega
      · have : ¬ key a < m + 1 := by omega
        simp [h1, h2, this]
theorem cntL_zero (l : List Oc) : cntL 0 l = 0 := by unfold cntL; rw [List.countP_eq_zero]; simp
theorem cntL_mono {m m' : Nat} (h : m ≤ m') (l : List Oc) : cntL m l ≤ cntL m' l := by
  unfold cntL
  exact List.countP_mono_left fun x _ hx => by simp at hx ⊢; omega
theorem cntL_len (m : Nat) (l : List Oc) : cntL m l ≤ l.length := List.countP_le_length
theorem cntL_all {m : Nat} {l : List Oc} (h : ∀ x ∈ l, key x < m) : cntL m l = l.length := by
  unfold cntL; rw [List.countP_eq_length]; simpa using h
theorem cntE_pre {m : Nat} {l l' : List Oc} (h : l <+: l') : cntE m l ≤ cntE m l' := by
  obtain ⟨t, rfl⟩ := h
  unfold cntE; rw [List.countP_append]; omega
/-- Counted: cell m + 1 counts the occurrences with the key m. -/
def CntOk (M : Nat) (pre : List Oc) (s : List Int) : Prop := s.length = M ∧ at_ s 0 = 0 ∧ ∀ m, m + 1 < M → at_ s (m + 1) = (cntE m pre : Int)
theorem CntOk.start (M : Nat) : CntOk M [] (List.replicate M 0) := by
  have e : ∀ m, at_ (List.replicate M 0) m = 0 := fun m => by unfold at_; rw [List.getD_eq_getElem?_getD, List.getElem?_replicate]; split <;> rfl
  exact ⟨by simp, e 0, fun m _ => by rw [e]; rfl⟩
theorem CntOk.step {M : Nat} {pre : List Oc} {s : List Int} (h : CntOk M pre s) {x : Oc} (hx : key x + 1 < M) : CntOk M (pre ++ [x]) (s.set (key x + 1) (at_ s (key x + 1) + 1)) := by
  obtain ⟨h1, h2, h3⟩ := h
  have hl : key x + 1 < s.length := by omega
  refine ⟨by rw [List.length_set]; exact h1, by rw [at_set hl, if_neg (by omega)]; exact h2, fun m hm => ?_⟩
  rw [at_set hl, cntE_snoc]
  by_cases e : m = key x
  · subst e; rw [if_pos rfl, if_pos rfl, h3 _ hm]; rfl
  · rw [if_neg (by omega), if_neg (fun e2 => e e2.symm), h3 _ hm]; rfl
/-- Summed up below k. -/
def SumOk (M : Nat) (l : List Oc) (k : Nat) (s : List Int) : Prop := s.length = M ∧ (∀ m, m < k → m < M → at_ s m = (cntL m l : Int)) ∧ ∀ m, k ≤ m + 1 → m + 1 < M → at_ s (m + 1) = (cntE m l : Int)
theorem SumOk.start {M : Nat} {l : List Oc} {s : List Int} (h : CntOk M l s) : SumOk M l 1 s := by
  obtain ⟨h1, h2, h3⟩ := h
  exact ⟨h1, fun m hm _ => by have : m = 0 := by omega
                              subst this; rw [h2, cntL_zero]; rfl, fun m _ hm => h3 m hm⟩
theorem SumOk.step {M : Nat} {l : List Oc} {k : Nat} {s : List Int} (h : SumOk M l (k + 1) s) (hk : k + 1 < M) : SumOk M l (k + 2) (s.set (k + 1) (at_ s (k + 1) + at_ s k)) := by
  obtain ⟨h1, h2, h3⟩ := h
  have hl : k + 1 < s.length := by omega
  refine ⟨by rw [List.length_set]; exact h1, fun m hm hM => ?_, fun m hm hM => ?_⟩
  · rw [at_set hl]
    by_cases e : m = k + 1
    · subst e; rw [if_pos rfl, h3 k (Nat.le_refl _) hM, h2 k (by omega) (by omega), cntL_succ]; omega
    · rw [if_neg e, h2 m (by omega) hM]
  · rw [at_set hl, if_neg (by omega), h3 m (by omega) hM]
/-- The lists are filled with a part of the occurrences. -/
structure FillOk (M : Nat) (l pre : List Oc) (nx cl : List Int) : Prop where
  nlen : nx.length = M
  clen : cl.length = l.length
  nx : ∀ m, m < M → at_ nx m = ((cntL m l + cntE m pre : Nat) : Int)
  cl : ∀ m, m < M → ∀ (j i : Nat), (sel m pre)[j]? = some i → cl[cntL m l + j]? = some (i : Int)
theorem FillOk.start {M : Nat} {l : List Oc} {s : List Int} (h : SumOk M l M s) : FillOk M l [] s (List.replicate l.length 0) :=
  ⟨h.1, by simp, fun m hm => by rw [h.2.1 m hm hm]; rfl, fun m _ j i hj => by simp [sel] at hj⟩
theorem FillOk.step {M : Nat} {l pre : List Oc} {nx cl : List Int} {x : Oc} (h : FillOk M l pre nx cl) (hx : key x + 1 < M) (hp : pre ++ [x] <+: l) :
    cntL (key x) l + cntE (key x) pre < l.length ∧ FillOk M l (pre ++ [x]) (nx.set (key x) (at_ nx (key x) + 1)) (cl.set (cntL (key x) l + cntE (key x) pre) (x.2 : Int)) := by
  have hE : cntE (key x) (pre ++ [x]) ≤ cntE (key x) l := cntE_pre hp
  rw [cntE_snoc, if_pos rfl] at hE
  have hS := cntL_succ (key x) l
  have hL := cntL_len (key x + 1) l
  have hlt : cntL (key x) l + cntE (key x) pre < l.length := by omega
  have hnl : key x < nx.length := by rw [h.nlen]; omega
  refine ⟨hlt, by rw [List.length_set]; exact h.nlen, by rw [List.length_set]; exact h.clen, fun m hm => ?_, fun m hm j i hj => ?_⟩
  · rw [at_set hnl, cntE_snoc]
    by_cases e : m = key x
    · subst e; rw [if_pos rfl, if_pos rfl, h.nx _ hm]; omega
    · rw [if_neg e, if_neg (fun e2 => e e2.symm), h.nx _ hm]; rfl
  · rw [sel_snoc] at hj
    rw [List.getElem?_set]
    by_cases e : key x = m
    · subst e
      rw [if_pos rfl] at hj
      by_cases hj1 : j < (sel (key x) pre).length
      · rw [List.getElem?_append_left hj1] at hj
        rw [sel_len] at hj1
        rw [if_neg (by omega)]
        exact h.cl _ hm j i hj
      · have hjl := (List.getElem?_eq_some_iff.1 hj).1
        simp only [List.length_append, List.length_singleton] at hjl
        have hje : j = (sel (key x) pre).length := by omega
        rw [List.getElem?_append_right (by omega), hje, Nat.sub_self] at hj
        simp at hj
        rw [hje, sel_len, if_pos rfl, h.clen, if_pos hlt, hj]
    · rw [if_neg e, List.append_nil] at hj
      have hj1 : j < cntE m pre := by rw [← sel_len]; exact (List.getElem?_eq_some_iff.1 hj).1
      have hE2 : cntE m pre ≤ cntE m l := cntE_pre ((List.prefix_append pre [x]).trans hp)
      have hS2 := cntL_succ m l
      rw [if_neg, h.cl m hm j i hj]
      intro e2
      rcases Nat.lt_or_gt_of_ne e with h1 | h1
      · have := cntL_mono (show key x + 1 ≤ m by omega) l; omega
      · have := cntL_mono (show m + 1 ≤ key x by omega) l; omega
/-- The occurrences of one literal are the clauses with it. -/
theorem sel_occs {V : Nat} {C : List (List Int)} {x : Int} (_hx : InR V x) : sel (ixL' x) (occs C) = with_ C x := by
  have h1 : ∀ (i : Nat) (l : List Int), sel (ixL' x) (occC C i l) = if x ∈ l then [i] else [] := by
    intro i l
    refine snoc_ind (P := fun l => sel (ixL' x) (occC C i l) = if x ∈ l then [i] else []) rfl (fun l y ih => ?_) l
    by_cases hy : y ∈ l
    · rw [occC_old hy, ih]
      by_cases hxl : x ∈ l
      · simp [hxl]
      · have : x ≠ y := fun e => hxl (e ▸ hy)
        simp [hxl, this]
    · rw [occC_new hy, sel_snoc, ih]
      by_cases e : y = x
      · subst e; simp [hy, key]
      · have : key (y, i) ≠ ixL' x := fun h => e (ix_inj h)
        have e' : x ≠ y := fun h => e h.symm
        simp [this, e']
  have h2 : ∀ k, sel (ixL' x) (occsTo C k) = (List.range k).filter fun i => (C.getD i []).contains x := by
    intro k
    induction k with
    | zero => rfl
    | succ k ih =>
      rw [occsTo_succ, List.range_succ, List.filter_append, ← ih]
      unfold sel
      rw [List.filter_append, List.map_append]
      congr 1
      have := h1 k (C.getD k [])
      unfold sel at this
      rw [this]
      by_cases h : x ∈ C.getD k [] <;> simp [List.filter_cons]
  exact h2 C.length
theorem occs_key {V : Nat} {C : List (List Int)} (hR : Ran V C) : ∀ x ∈ occs C, key x < 2 * V + 2 ∧ x.2 < C.length ∧ InR V x.1 := by
  intro x hx
  unfold occs occsTo at hx
  rw [List.mem_flatMap] at hx
  obtain ⟨i, hi, hx⟩ := hx
  rw [List.mem_range] at hi
  unfold occC at hx
  rw [List.mem_map] at hx
  obtain ⟨y, hy, rfl⟩ := hx
  have hc : C.getD i [] ∈ C := by rw [List.getD_eq_getElem?_getD, List.getElem?_eq_getElem hi]; exact List.getElem_mem hi
  have := hR _ hc y ((mem_uq _ y).1 hy)
  exact ⟨ix_lt this, hi, this⟩
/-- How many occurrences lie in a clause. -/
def cntC (i : Nat) (l : List Oc) : Nat := l.countP fun x => x.2 == i
theorem cntC_snoc (i : Nat) (l : List Oc) (x : Oc) : cntC i (l ++ [x]) = cntC i l + (if x.2 = i then 1 else 0) := by
  unfold cntC; rw [List.countP_append]; simp [List.countP_cons]
theorem cntC_occs {C : List (List Int)} {i : Nat} (hi : i < C.length) : cntC i (occs C) = (uq (C.getD i [])).length := by
  have h1 : ∀ k (l : List Int), cntC i (occC C k l) = if k = i then (uq l).length else 0 := by
    intro k l
    unfold cntC occC
    rw [List.countP_map]
    by_cases e : k = i
    · subst e; rw [if_pos rfl, List.countP_eq_length.2]; intro a _; simp
    · rw [if_neg e, List.countP_eq_zero]; intro a _; simpa using e
  have h2 : ∀ k, cntC i (occsTo C k) = if i < k then (uq (C.getD i [])).length else 0 := by
    intro k
    induction k with
    | zero => rfl
    | succ k ih =>
      have : cntC i (occsTo C k ++ occC C k (C.getD k [])) = cntC i (occsTo C k) + cntC i (occC C k (C.getD k [])) := by unfold cntC; rw [List.countP_append]
      rw [occsTo_succ, this, ih, h1]
      by_cases e : k = i
      · subst e; simp
      · by_cases h : i < k
        · simp [h, e, (by omega : i < k + 1)]
        · rw [if_neg h, if_neg e, if_neg (by omega)]
  unfold occs
  rw [h2, if_pos hi]
def OpnOk (n : Nat) (pre : List Oc) (o : List Int) : Prop := o.length = n ∧ ∀ i, i < n → at_ o i = (cntC i pre : Int)
theorem OpnOk.start (n : Nat) : OpnOk n [] (List.replicate n 0) := by
  have e : ∀ m, at_ (List.replicate n 0) m = 0 := fun m => by unfold at_; rw [List.getD_eq_getElem?_getD, List.getElem?_replicate]; split <;> rfl
  exact ⟨by simp, fun i _ => by rw [e]; rfl⟩
theorem OpnOk.step {n : Nat} {pre : List Oc} {o : List Int} (h : OpnOk n pre o) {x : Oc} (hx : x.2 < n) : OpnOk n (pre ++ [x]) (o.set x.2 (at_ o x.2 + 1)) := by
  refine ⟨by rw [List.length_set]; exact h.1, fun i hi => ?_⟩
  rw [at_set (by rw [h.1]; exact hx), cntC_snoc]
  by_cases e : i = x.2
  · subst e; rw [if_pos rfl, if_pos rfl, h.2 _ hx]; rfl
  · rw [if_neg e, if_neg (fun e2 => e e2.symm), h.2 i hi]; rfl
theorem OpnOk.done {C : List (List Int)} {o : List Int} (h : OpnOk C.length (occs C) o) : o = opnsP C [] := by
  refine ext_getD (by rw [h.1]; simp [opnsP]) fun j hj => ?_
  rw [h.1] at hj
  have := h.2 j hj
  unfold at_ at this
  rw [this, cntC_occs hj]
  unfold opnsP
  rw [getD_map hj]
  unfold opnN
  rw [List.countP_eq_length.2 (fun y _ => by simp [und])]
theorem occs_len {C : List (List Int)} (hL : ∀ c ∈ C, c.length ≤ 100) (k : Nat) (hk : k ≤ C.length) : (occsTo C k).length ≤ k * 100 := by
  induction k with
  | zero => simp [occsTo]
  | succ k ih =>
    rw [occsTo_succ, List.length_append]
    have hc : C.getD k [] ∈ C := by rw [List.getD_eq_getElem?_getD, List.getElem?_eq_getElem (by omega)]; exact List.getElem_mem _
    have h1 := hL _ hc
    have h2 : (uq (C.getD k [])).length ≤ (C.getD k []).length := by
      refine snoc_ind (P := fun l => (uq l).length ≤ l.length) (by simp [uq]) (fun l x ih => ?_) _
      rw [uq_snoc]; split <;> simp <;> omega
    have h3 : (occC C k (C.getD k [])).length = (uq (C.getD k [])).length := by unfold occC; simp
    have := ih (by omega)
    omega
end Go.Proofs.Ythkemajekkilmaa
/- The loops over the occurrences: what lies where. -/
namespace Go.Proofs.Ythkemajekkilmaa
open Go.RowKit
/-- What an iterator's loop leaves alone: what came in, and what has come since. -/
def SafeN (lo N : Nat) (W : World) (b : Nat) : Prop := b < W.heap.size ∧ (b < lo ∨ N ≤ b)
theorem NS.quiet {W1 : World} {DS : List Nat} {K : PK} {tb N : Nat} {vs : List Int} {R : Nat → Rw} {w w' : World} (h : NS W1 DS K tb vs R w) (hp : ∀ k, PM K R k → k < N) (ht : tb < N) (h1 : W1.heap.size ≤ N) (hd : ∀ D ∈ DS, D < N) (hq : Quiet N w w') : NS W1 DS K tb vs R w' := by
  obtain ⟨row, hg, hr⟩ := hq
  have hb : ∀ k, k < N → k < w.heap.size → w'.heap[k]? = w.heap[k]? := fun k hk hks => hg.block k hks (fun e => by have := hr k e.symm; omega)
  refine ⟨h.pw.kept fun k hk => hb k (hp k hk) (h.pw.below k hk).2.1, ?_, h.tbm, h.tbl, h.B, ?_, fun D hD => (hb D (hd D hD) (Array.getElem?_eq_some_iff.1 (h.ds D hD)).1).trans (h.ds D hD)⟩
  · have hl := lies_lt h.tb0
    rw [World.cell?_of_block (hb tb ht hl)]; exact h.tb0
  · exact ⟨hg.os.trans h.grown.os, hg.tape.trans h.grown.tape, hg.output.trans h.grown.output, Nat.le_trans h.grown.size hg.size, fun k hk _ => (hb k (by omega) (Nat.lt_of_lt_of_le hk h.grown.size)).trans (h.grown.block k hk (by simp))⟩
/-- The first loop: the row of starts is counted up. -/
structure LI (W1 : World) (DS : List Nat) (K : PK) (tb : Nat) (vs : List Int) (R : Nat → Rw) (g M N : Nat) (s : List Int) (W : World) : Prop where
  ns : NS W1 DS K tb vs (upd R 4 ⟨(R 4).a, (R 4).c, s⟩) W
  len : s.length = M
  len0 : (R 4).l.length = M
  at_ : (R 4).a = some ⟨g, 0, none⟩
  low : ∀ k, PM K R k → k < N
  tlow : tb < N
  wlow : W1.heap.size ≤ N
  dlow : ∀ D ∈ DS, D < N
  nlow : N ≤ W.heap.size
  pos : 0 < M
theorem NS.mark {W1 : World} {DS : List Nat} {K : PK} {tb : Nat} {vs : List Int} {R : Nat → Rw} {w : World} {D : Nat} (h : NS W1 DS K tb vs R w) (hd : w.heap[D]? = some (.deferred (some []))) : NS W1 (D :: DS) K tb vs R w := by
  refine ⟨h.pw, h.tb0, h.tbm, h.tbl, h.B, h.grown, fun D' h' => ?_⟩
  rcases List.mem_cons.1 h' with e | h'
  · rw [e]; exact hd
  · exact h.ds D' h'
section
variable {W1 : World} {DS : List Nat} {K : PK} {tb : Nat} {vs : List Int} {R : Nat → Rw} {g M N : Nat} {s : List Int} {W : World}
theorem LI.start (h : NS W1 DS K tb vs R W) (hl : (R 4).l = List.replicate M 0) (ha : (R 4).a = some ⟨g, 0, none⟩) (hM : 0 < M) : LI W1 DS K tb vs R g M W.heap.size (List.replicate M 0) W :=
  ⟨by rw [← hl, upd_self]; exact h, by simp, by rw [hl]; simp, ha, fun k hk => (h.pw.below k hk).2.1, lies_lt h.tb0, h.grown.size, fun D hD => (Array.getElem?_eq_some_iff.1 (h.ds D hD)).1, Nat.le_refl _, hM⟩
theorem LI.mark {D : Nat} (h : LI W1 DS K tb vs R g M N s W) (hd : W.heap[D]? = some (.deferred (some []))) : LI W1 (D :: DS) K tb vs R g M W.heap.size s W :=
  ⟨h.ns.mark hd, h.len, h.len0, h.at_, fun k hk => Nat.lt_of_lt_of_le (h.low k hk) h.nlow, Nat.lt_of_lt_of_le h.tlow h.nlow, Nat.le_trans h.wlow h.nlow, fun D' h' => (Array.getElem?_eq_some_iff.1 ((h.ns.mark hd).ds D' h')).1, Nat.le_refl _, h.pos⟩
theorem LI.pm (h : LI W1 DS K tb vs R g M N s W) : ∀ k, PM K (upd R 4 ⟨(R 4).a, (R 4).c, s⟩) k → k < N := fun k hk => by
  rcases PM.upd (K := K) (R := R) (i := 4) (x := ⟨(R 4).a, (R 4).c, s⟩) (N := k + 1) (by omega) (.inl (by unfold Rw.blk; simp only [Rw.val, h.len, h.len0])) k hk with h1 | h1
  · exact h.low k h1
  · omega
theorem LI.quiet {W' : World} (h : LI W1 DS K tb vs R g M N s W) (hq : Quiet N W W') : LI W1 DS K tb vs R g M N s W' :=
  ⟨h.ns.quiet h.pm h.tlow h.wlow h.dlow hq, h.len, h.len0, h.at_, h.low, h.tlow, h.wlow, h.dlow, Nat.le_trans h.nlow hq.size, h.pos⟩
theorem LI.drew (h : LI W1 DS K tb vs R g M N s W) : LI W1 DS K tb vs R g M N s W.drew := h.quiet (.of_none (grown_drew _ _))
theorem LI.row (h : LI W1 DS K tb vs R g M N s W) : IRow K.B W (some ⟨g, 0, none⟩) (R 4).c s := by
  have := h.ns.pw.rows 4 (by omega)
  rw [upd_same] at this
  simp only [h.at_] at this
  exact this
theorem LI.c4 (h : LI W1 DS K tb vs R g M N s W) {j : Nat} (hj : j < M) : W.cell? ⟨g, j, none⟩ = some (.int .i64 (Go.Proofs.Ythkemajekkilmaa.at_ s j)) := irow_cell h.row (by rw [h.len]; exact hj)
theorem LI.z4 (h : LI W1 DS K tb vs R g M N s W) (j : Nat) : W.frozen? ⟨g, j, none⟩ = false := World.ownsRow.frozenAt h.row j
theorem LI.f9 (h : LI W1 DS K tb vs R g M N s W) : W.cell? ⟨K.p, 9, none⟩ = some (.slice (some ⟨g, 0, none⟩) M (R 4).c) := by
  have := h.ns.pw.f9
  rw [upd_same] at this
  simp only [Rw.val, h.at_, h.len] at this
  exact this
theorem LI.put (h : LI W1 DS K tb vs R g M N s W) (j : Nat) (z : Int) : LI W1 DS K tb vs R g M N (s.set j z) (W.setCell ⟨g, j, none⟩ (.int .i64 z)) := by
  have h1 := h.ns.pw.store (i := 4) (by omega) (by rw [upd_same]; exact h.at_) j z
  rw [upd_upd, upd_same] at h1
  have hb : (upd R 4 ⟨(R 4).a, (R 4).c, s⟩ 4).blk = some g := by rw [upd_same]; unfold Rw.blk; simp only [Rw.val, h.at_, Value.ownBlock]
  have hgt : g ≠ tb := fun e => h.ns.tbm (.inr (.inr ⟨4, by omega, by rw [hb, e]⟩))
  have hgB := (h.ns.pw.below g (.inr (.inr ⟨4, by omega, hb⟩))).1
  have hgr := grown_set W g j (.int .i64 z)
  refine ⟨⟨h1, ?_, ?_, h.ns.tbl, h.ns.B, ?_, fun D hD => (Below.heap_setCell _ _ _ _ (fun e => by have h2 := h.ns.ds D hD; simp only at e; have h3 := (h.ns.pw.below g (.inr (.inr ⟨4, by omega, hb⟩))).2.2; rw [e] at h2; exact absurd (h3 _ h2) (by simp [Obj.isCells]))).trans (h.ns.ds D hD)⟩, by rw [List.length_set]; exact h.len, h.len0, h.at_, h.low, h.tlow, h.wlow, h.dlow, Nat.le_trans h.nlow hgr.size, h.pos⟩
  · exact hgr.cell h.ns.tb0 (fun e => hgt (Option.some.inj e).symm)
  · intro hh
    refine h.ns.tbm ?_
    rcases hh with e | e | ⟨i, hi, e⟩
    · exact .inl e
    · exact .inr (.inl e)
    · refine .inr (.inr ⟨i, hi, ?_⟩)
      unfold upd at e ⊢
      split at e <;> rename_i hi4
      · rw [if_pos hi4]; unfold Rw.blk at e ⊢; simp only [Rw.val, List.length_set] at e ⊢; exact e
      · rw [if_neg hi4]; exact e
  · exact grown_own h.ns.grown hgr (fun k e => by have := Option.some.inj e; have := h.ns.B; omega)
theorem LI.saved {lo : Nat} (h : LI W1 DS K tb vs R g M N s W) (hlo : lo ≤ W1.heap.size) (j : Nat) (v : Value) : Saved (SafeN lo N) W (W.setCell ⟨g, j, none⟩ v) := by
  have hb : (upd R 4 ⟨(R 4).a, (R 4).c, s⟩ 4).blk = some g := by rw [upd_same]; unfold Rw.blk; simp only [Rw.val, h.at_, Value.ownBlock]
  have hm := h.pm g (.inr (.inr ⟨4, by omega, hb⟩))
  have hgB := (h.ns.pw.below g (.inr (.inr ⟨4, by omega, hb⟩))).1
  rintro b ⟨h1, h2⟩
  refine ⟨Below.heap_setCell _ _ _ _ (fun e => ?_), Nat.lt_of_lt_of_le h1 (grown_set W g j v).size, h2⟩
  simp only at e
  have := h.ns.B
  rcases h2 with h2 | h2 <;> omega
theorem pm_of4 (ha : (R 4).a = some ⟨g, 0, none⟩) (_h : LI W1 DS K tb vs R g M N s W) : PM K (upd R 4 ⟨(R 4).a, (R 4).c, s⟩) g := .inr (.inr ⟨4, by omega, by rw [upd_same]; unfold Rw.blk; simp only [Rw.val, ha, Value.ownBlock]⟩)
theorem LI.abide {lo : Nat} (_hlo : lo ≤ N) : AbideG N (fun pre W => ∃ s, LI W1 DS K tb vs R g M N s W ∧ CntOk M pre s) (SafeN lo N) := by
  refine ⟨?_, ?_, ?_⟩
  · rintro pre A A' ⟨s, h, hc⟩ hq; exact ⟨s, h.quiet hq, hc⟩
  · rintro pre A A' b ⟨s, h, _⟩ hq ⟨h1, h2⟩; exact ⟨Nat.lt_of_lt_of_le h1 hq.size, h2⟩
  · rintro pre A A' b ⟨s, h, _⟩ hq h1 h2; exact ⟨h2, .inr (by have := h.nlow; omega)⟩
end
end Go.Proofs.Ythkemajekkilmaa
/- The loop that fills the lists: what lies where. -/
namespace Go.Proofs.Ythkemajekkilmaa
open Go.RowKit
def fillR (R : Nat → Rw) (cl o : List Int) : Nat → Rw := upd (upd R 5 ⟨(R 5).a, (R 5).c, cl⟩) 3 ⟨(R 3).a, (R 3).c, o⟩
theorem fillR3 (R : Nat → Rw) (cl o : List Int) : fillR R cl o 3 = ⟨(R 3).a, (R 3).c, o⟩ := upd_same _ _ _
theorem fillR5 (R : Nat → Rw) (cl o : List Int) : fillR R cl o 5 = ⟨(R 5).a, (R 5).c, cl⟩ := by unfold fillR; rw [upd_other (by decide), upd_same]
theorem fillRo (R : Nat → Rw) (cl o : List Int) {j : Nat} (h3 : j ≠ 3) (h5 : j ≠ 5) : fillR R cl o j = R j := by unfold fillR; rw [upd_other h3, upd_other h5]
theorem fillR_set3 (R : Nat → Rw) (cl o o' : List Int) : upd (fillR R cl o) 3 ⟨(fillR R cl o 3).a, (fillR R cl o 3).c, o'⟩ = fillR R cl o' := by
  rw [fillR3]; unfold fillR; rw [upd_upd]
theorem fillR_set5 (R : Nat → Rw) (cl cl' o : List Int) : upd (fillR R cl o) 5 ⟨(fillR R cl o 5).a, (fillR R cl o 5).c, cl'⟩ = fillR R cl' o := by
  rw [fillR5]; unfold fillR
  rw [upd_comm (upd R 5 _) (i := 3) (k := 5) (by decide), upd_upd, upd_comm R (i := 5) (k := 3) (by decide)]
theorem fillR_self (R : Nat → Rw) {cl o : List Int} (hc : (R 5).l = cl) (ho : (R 3).l = o) : fillR R cl o = R := by
  unfold fillR; rw [← hc, ← ho, upd_self, upd_self]
theorem fillR_blk (R : Nat → Rw) {cl o : List Int} (hc : cl.length = (R 5).l.length) (ho : o.length = (R 3).l.length) (j : Nat) : (fillR R cl o j).blk = (R j).blk := by
  by_cases h3 : j = 3
  · subst h3; rw [fillR3]; unfold Rw.blk; simp only [Rw.val, ho]
  · by_cases h5 : j = 5
    · subst h5; rw [fillR5]; unfold Rw.blk; simp only [Rw.val, hc]
    · rw [fillRo _ _ _ h3 h5]
theorem fillR_pm {K : PK} (R : Nat → Rw) {cl o : List Int} (hc : cl.length = (R 5).l.length) (ho : o.length = (R 3).l.length) (k : Nat) : PM K (fillR R cl o) k ↔ PM K R k := by
  unfold PM
  simp only [fillR_blk R hc ho]
/-- The row of what is next, and its box. -/
structure NX (W1 : World) (K : PK) (tb : Nat) (R : Nat → Rw) (gn tn M cN : Nat) (nx : List Int) (W : World) : Prop where
  row : W.ownsRow W1.heap.size 3 1 (.slice (some ⟨gn, 0, none⟩) M cN) M (intCells nx)
  len : nx.length = M
  box : W.cell? ⟨tn, 0, none⟩ = some (.slice (some ⟨gn, 0, none⟩) M cN)
  pmg : ¬ PM K R gn
  pmt : ¬ PM K R tn
  gt : gn ≠ tb ∧ tn ≠ tb ∧ gn ≠ tn
  tl : W1.heap.size ≤ tn
structure LJ (W1 : World) (DS : List Nat) (K : PK) (tb : Nat) (vs : List Int) (R : Nat → Rw) (gn tn M cN N : Nat) (cl o nx : List Int) (W : World) : Prop where
  ns : NS W1 DS K tb vs (fillR R cl o) W
  nx : NX W1 K tb R gn tn M cN nx W
  clen : cl.length = (R 5).l.length
  olen : o.length = (R 3).l.length
  low : ∀ k, PM K R k → k < N
  tlow : tb < N
  glow : gn < N ∧ tn < N
  wlow : W1.heap.size ≤ N
  dlow : ∀ D ∈ DS, D < N
  nlow : N ≤ W.heap.size
section
variable {W1 : World} {DS : List Nat} {K : PK} {tb : Nat} {vs : List Int} {R : Nat → Rw} {gn tn M cN N : Nat} {cl o nx : List Int} {W : World}
theorem LJ.pm (h : LJ W1 DS K tb vs R gn tn M cN N cl o nx W) (k : Nat) : PM K (fillR R cl o) k ↔ PM K R k := fillR_pm R h.clen h.olen k
theorem NX.quiet {W' : World} (h : NX W1 K tb R gn tn M cN nx W) (hg : gn < N) (ht : tn < N) (hq : Quiet N W W') : NX W1 K tb R gn tn M cN nx W' := by
  obtain ⟨row, hgr, hr⟩ := hq
  refine ⟨?_, h.len, ?_, h.pmg, h.pmt, h.gt, h.tl⟩
  · refine World.ownsRow.kept h.row hgr (.inr ?_)
    simp only [Value.ownBlock]; intro e
    have := hr gn e.symm; omega
  · refine hgr.cell h.box (fun e => ?_)
    have := hr tn e.symm; omega
theorem LJ.quiet {W' : World} (h : LJ W1 DS K tb vs R gn tn M cN N cl o nx W) (hq : Quiet N W W') : LJ W1 DS K tb vs R gn tn M cN N cl o nx W' :=
  ⟨h.ns.quiet (fun k hk => h.low k ((h.pm k).1 hk)) h.tlow h.wlow h.dlow hq, h.nx.quiet h.glow.1 h.glow.2 hq, h.clen, h.olen, h.low, h.tlow, h.glow, h.wlow, h.dlow, Nat.le_trans h.nlow hq.size⟩
theorem LJ.drew (h : LJ W1 DS K tb vs R gn tn M cN N cl o nx W) : LJ W1 DS K tb vs R gn tn M cN N cl o nx W.drew := h.quiet (.of_none (grown_drew _ _))
/-- A row of the propagator is stored into. -/
theorem NS.store {R : Nat → Rw} {i g j : Nat} {z : Int} (h : NS W1 DS K tb vs R W) (hi : i < 7) (ha : (R i).a = some ⟨g, 0, none⟩) : NS W1 DS K tb vs (upd R i ⟨(R i).a, (R i).c, (R i).l.set j z⟩) (W.setCell ⟨g, j, none⟩ (.int .i64 z)) := by
  have hb : (R i).blk = some g := by unfold Rw.blk; simp only [Rw.val, ha, Value.ownBlock]
  have hM : PM K R g := .inr (.inr ⟨i, hi, hb⟩)
  have hgr := grown_set W g j (.int .i64 z)
  have hbl := h.pw.below g hM
  refine ⟨h.pw.store hi ha j z, hgr.cell h.tb0 (fun e => h.tbm (by have e2 : tb = g := Option.some.inj e; rw [e2]; exact hM)), fun hh => ?_, h.tbl, h.B, grown_own h.grown hgr (fun k e => by have := Option.some.inj e; have := h.B; omega), fun D hD => (Below.heap_setCell _ _ _ _ (fun e => ?_)).trans (h.ds D hD)⟩
  · rcases PM.upd (K := K) (R := R) (i := i) (x := ⟨(R i).a, (R i).c, (R i).l.set j z⟩) (N := tb + 1) hi (.inl (by unfold Rw.blk; simp only [Rw.val, List.length_set])) tb hh with h1 | h1
    · exact h.tbm h1
    · omega
  · have h2 := h.ds D hD; simp only at e; rw [e] at h2; exact absurd (hbl.2.2 _ h2) (by simp [Obj.isCells])
theorem LJ.putC {g : Nat} (h : LJ W1 DS K tb vs R gn tn M cN N cl o nx W) (ha : (R 5).a = some ⟨g, 0, none⟩) (j : Nat) (z : Int) : LJ W1 DS K tb vs R gn tn M cN N (cl.set j z) o nx (W.setCell ⟨g, j, none⟩ (.int .i64 z)) := by
  have h1 := h.ns.store (i := 5) (j := j) (z := z) (by omega) (by rw [fillR5]; exact ha)
  rw [fillR_set5, fillR5] at h1
  have hb : (R 5).blk = some g := by unfold Rw.blk; simp only [Rw.val, ha, Value.ownBlock]
  have hM : PM K R g := .inr (.inr ⟨5, by omega, hb⟩)
  refine ⟨h1, ⟨?_, h.nx.len, ?_, h.nx.pmg, h.nx.pmt, h.nx.gt, h.nx.tl⟩, by rw [List.length_set]; exact h.clen, h.olen, h.low, h.tlow, h.glow, h.wlow, h.dlow, Nat.le_trans h.nlow (grown_set _ _ _ _).size⟩
  · exact World.ownsRow.kept h.nx.row (grown_set _ _ _ _) (.inr (by simp only [Value.ownBlock]; intro e; exact h.nx.pmg ((Option.some.inj e) ▸ hM)))
  · exact (grown_set _ _ _ _).cell h.nx.box (fun e => h.nx.pmt (by have e2 : tn = g := Option.some.inj e; rw [e2]; exact hM))
theorem LJ.putO {g : Nat} (h : LJ W1 DS K tb vs R gn tn M cN N cl o nx W) (ha : (R 3).a = some ⟨g, 0, none⟩) (j : Nat) (z : Int) : LJ W1 DS K tb vs R gn tn M cN N cl (o.set j z) nx (W.setCell ⟨g, j, none⟩ (.int .i64 z)) := by
  have h1 := h.ns.store (i := 3) (j := j) (z := z) (by omega) (by rw [fillR3]; exact ha)
  rw [fillR_set3, fillR3] at h1
  have hb : (R 3).blk = some g := by unfold Rw.blk; simp only [Rw.val, ha, Value.ownBlock]
  have hM : PM K R g := .inr (.inr ⟨3, by omega, hb⟩)
  refine ⟨h1, ⟨?_, h.nx.len, ?_, h.nx.pmg, h.nx.pmt, h.nx.gt, h.nx.tl⟩, h.clen, by rw [List.length_set]; exact h.olen, h.low, h.tlow, h.glow, h.wlow, h.dlow, Nat.le_trans h.nlow (grown_set _ _ _ _).size⟩
  · exact World.ownsRow.kept h.nx.row (grown_set _ _ _ _) (.inr (by simp only [Value.ownBlock]; intro e; exact h.nx.pmg ((Option.some.inj e) ▸ hM)))
  · exact (grown_set _ _ _ _).cell h.nx.box (fun e => h.nx.pmt (by have e2 : tn = g := Option.some.inj e; rw [e2]; exact hM))
theorem LJ.putN (h : LJ W1 DS K tb vs R gn tn M cN N cl o nx W) (j : Nat) (z : Int) : LJ W1 DS K tb vs R gn tn M cN N cl o (nx.set j z) (W.setCell ⟨gn, j, none⟩ (.int .i64 z)) := by
  have hgr := grown_set W gn j (.int .i64 z)
  have hl := h.nx.row.lt gn rfl
  have hcells : ∀ ob, W.heap[gn]? = some ob → ob.isCells = true := fun ob hob => by
    rcases h.nx.row.2 with ⟨h1, _⟩ | ⟨g, cap, cur, h1, _, hg, _⟩
    · cases h1
    · injection h1 with h1; injection h1 with h1; injection h1 with h1; subst h1; rw [hg] at hob; cases hob; rfl
  have hpm : ¬ PM K (fillR R cl o) gn := fun e => h.nx.pmg ((h.pm gn).1 e)
  refine ⟨⟨h.ns.pw.kept (fun k hk => Below.heap_setCell _ _ _ _ (fun e => hpm (by simp only at e; rw [← e]; exact hk))), hgr.cell h.ns.tb0 (fun e => h.nx.gt.1 (Option.some.inj e).symm), h.ns.tbm, h.ns.tbl, h.ns.B, grown_own h.ns.grown hgr (fun k e => by have := Option.some.inj e; omega), fun D hD => (Below.heap_setCell _ _ _ _ (fun e => ?_)).trans (h.ns.ds D hD)⟩, ⟨?_, by rw [List.length_set]; exact h.nx.len, hgr.cell h.nx.box (fun e => h.nx.gt.2.2 (Option.some.inj e).symm), h.nx.pmg, h.nx.pmt, h.nx.gt, h.nx.tl⟩, h.clen, h.olen, h.low, h.tlow, h.glow, h.wlow, h.dlow, Nat.le_trans h.nlow hgr.size⟩
  · have h2 := h.ns.ds D hD; simp only at e; rw [e] at h2; exact absurd (hcells _ h2) (by simp [Obj.isCells])
  · have := (World.ownsRow.stored h.nx.row j (.int .i64 z)).1
    rwa [intCells, ← List.map_set] at this
theorem Saved.trans {Safe : World → Nat → Prop} {A B C : World} (h1 : Saved Safe A B) (h2 : Saved Safe B C) : Saved Safe A C := fun b hb => ⟨((h2 b (h1 b hb).2).1).trans (h1 b hb).1, (h2 b (h1 b hb).2).2⟩
theorem saved_set {lo g : Nat} (hlo : lo ≤ g) (hg : g < N) (W : World) (j : Nat) (v : Value) : Saved (SafeN lo N) W (W.setCell ⟨g, j, none⟩ v) := by
  rintro b ⟨h1, h2⟩
  refine ⟨Below.heap_setCell _ _ _ _ (fun e => ?_), Nat.lt_of_lt_of_le h1 (grown_set W g j v).size, h2⟩
  simp only at e
  rcases h2 with h2 | h2 <;> omega
theorem LJ.celN (h : LJ W1 DS K tb vs R gn tn M cN N cl o nx W) {j : Nat} (hj : j < M) : W.cell? ⟨gn, j, none⟩ = some (.int .i64 (at_ nx j)) := irow_cell (B := W1.heap.size) (c := cN) (l := nx) (by unfold IRow; rw [h.nx.len]; exact h.nx.row) (by rw [h.nx.len]; exact hj)
theorem LJ.zN (h : LJ W1 DS K tb vs R gn tn M cN N cl o nx W) (j : Nat) : W.frozen? ⟨gn, j, none⟩ = false := World.ownsRow.frozenAt h.nx.row j
theorem LJ.row5 {g : Nat} (h : LJ W1 DS K tb vs R gn tn M cN N cl o nx W) (ha : (R 5).a = some ⟨g, 0, none⟩) : IRow K.B W (some ⟨g, 0, none⟩) (R 5).c cl := by
  have := h.ns.pw.rows 5 (by omega)
  rw [fillR5] at this
  simp only [ha] at this
  exact this
theorem LJ.row3 {g : Nat} (h : LJ W1 DS K tb vs R gn tn M cN N cl o nx W) (ha : (R 3).a = some ⟨g, 0, none⟩) : IRow K.B W (some ⟨g, 0, none⟩) (R 3).c o := by
  have := h.ns.pw.rows 3 (by omega)
  rw [fillR3] at this
  simp only [ha] at this
  exact this
theorem LJ.f10 {g T : Nat} (h : LJ W1 DS K tb vs R gn tn M cN N cl o nx W) (ha : (R 5).a = some ⟨g, 0, none⟩) (hT : cl.length = T) : W.cell? ⟨K.p, 10, none⟩ = some (.slice (some ⟨g, 0, none⟩) T (R 5).c) := by
  have := h.ns.pw.f10
  rw [fillR5] at this
  simp only [Rw.val, ha, hT] at this
  exact this
theorem LJ.f8 {g n : Nat} (h : LJ W1 DS K tb vs R gn tn M cN N cl o nx W) (ha : (R 3).a = some ⟨g, 0, none⟩) (hn : o.length = n) : W.cell? ⟨K.p, 8, none⟩ = some (.slice (some ⟨g, 0, none⟩) n (R 3).c) := by
  have := h.ns.pw.f8
  rw [fillR3] at this
  simp only [Rw.val, ha, hn] at this
  exact this
theorem LJ.blow {i g : Nat} (h : LJ W1 DS K tb vs R gn tn M cN N cl o nx W) (hi : i < 7) (ha : (R i).a = some ⟨g, 0, none⟩) : W1.heap.size ≤ g ∧ g < N ∧ PM K R g := by
  have hb : (R i).blk = some g := by unfold Rw.blk; simp only [Rw.val, ha, Value.ownBlock]
  have hM : PM K R g := .inr (.inr ⟨i, hi, hb⟩)
  have := (h.ns.pw.below g ((h.pm g).2 hM)).1
  have := h.ns.B
  exact ⟨by omega, h.low g hM, hM⟩
theorem LJ.abide {lo : Nat} {l : List Oc} {n : Nat} : AbideG N (fun pre W => ∃ cl o nx, LJ W1 DS K tb vs R gn tn M cN N cl o nx W ∧ FillOk M l pre nx cl ∧ OpnOk n pre o) (SafeN lo N) := by
  refine ⟨?_, ?_, ?_⟩
  · rintro pre A A' ⟨cl, o, nx, h, hc⟩ hq; exact ⟨cl, o, nx, h.quiet hq, hc⟩
  · rintro pre A A' b ⟨cl, o, nx, h, _⟩ hq ⟨h1, h2⟩; exact ⟨Nat.lt_of_lt_of_le h1 hq.size, h2⟩
  · rintro pre A A' b ⟨cl, o, nx, h, _⟩ hq h1 h2; exact ⟨h2, .inr (by have := h.nlow; omega)⟩
end
end Go.Proofs.Ythkemajekkilmaa
/- A row of the propagator gets a further element; the clauses that are falsified or unit at the start. -/
namespace Go.Proofs.Ythkemajekkilmaa
open Go.RowKit
theorem ready_append_g {ops : Array Oper} {o : Oper} {a : Act} {Q : Exit → Act → World → Prop} {K' : Act → World → Prop} {w : World} (t e : TypeId) (s x : Operand) (hgd : o.guard = none)
    (ho : o.op = .call { callee := .builtin .append, args := #[s, x], argTypes := #[t, t] }) {i0 : TypeInfo} {z : Value} {k bytes : Nat} (hund : Try.prog.underlying t = some (.slice e)) (hi0 : Try.prog.info? e = some i0) (hz0 : i0.zero = some z) (hz1 : i0.size = k) (hz2 : i0.bytes = bytes) (hzc : z.cells.size = k) (hk : 0 < k) (hb : bytes ≤ 1000000)
    (base : Nat) (v : Value) (n : Nat) (xs : List Value) (hs : a.eval s = v) (hown : w.ownsRow base e k v n xs)
    (ad : Addr) (us : List Value) (hl : us.length = k) (hx : a.eval x = .slice (some ad) 1 1) (hnews : ∀ j u, us[j]? = some u → w.cell? (ad.add j) = some u) (h1 : ∀ u ∈ us, u.oneCell' = true)
    (h63 : n ≤ 1000000) (hbase : base ≤ w.heap.size)
    (h : ∀ v' w', w'.ownsRow base e k v' (n + 1) (xs ++ us) → w.grownBy w' v.ownBlock → (v'.ownBlock = v.ownBlock ∨ v'.ownBlock = some w.heap.size) → K' (a.put o.dst v') w') :
    if Region.wanted o (yielded ops a.tmps) = true then Oper.wp Try.prog o a w K' Q else K' (a.put o.dst undef) w := by
  have hbn : (n + 1) * bytes ≤ 140737488355328 := Nat.le_trans (Nat.mul_le_mul (show n + 1 ≤ 1000001 by omega) hb) (by omega)
  obtain ⟨v', w', hr, h2, h3, h4, h5⟩ := run_append_own_at (P := Try.prog) w base t o.type e i0 z k bytes hund hi0 hz0 hz1 hz2 hzc hk v n xs hown ad 1 1 us (by rw [hl, Nat.one_mul]) hnews h1 (by unfold maxLen; omega) hbn hbase
  have hw : Region.wanted o (yielded ops a.tmps) = true := by simp only [Region.wanted, hgd]
  rw [if_pos hw]
  unfold Oper.wp execOp
  simp only [ho, resolve, invoke, builtin, Sem.run_bind, Sem.run_pure, Result.andThen_ok, List.map_toArray, List.map_cons, List.map_nil, hs, hx, hr]
  exact h v' w' h2 h3 h5
theorem NS.turned {W1 : World} {DS : List Nat} {K : PK} {tb : Nat} {vs : List Int} {R R' : Nat → Rw} {w w8 : World} (h : NS W1 DS K tb vs R w) (hp : PW K w8 vs 0 (-1) R') (ho : Off (PM K R) w w8) (hm : ∀ k, PM K R' k → PM K R k ∨ w.heap.size ≤ k) : NS W1 DS K tb vs R' w8 := by
  have hl := lies_lt h.tb0
  simp only at hl
  refine ⟨hp, ho.cell h.tb0 h.tbm, fun hh => ?_, h.tbl, h.B, ho.grown h.grown (fun k hk => by have := (h.pw.below k hk).1; have := h.B; omega), fun D hD => ?_⟩
  · rcases hm tb hh with h1 | h1
    · exact h.tbm h1
    · omega
  · have h2 := h.ds D hD
    refine (ho.block D (Array.getElem?_eq_some_iff.1 h2).1 (fun hM => ?_)).trans h2
    exact absurd ((h.pw.below D hM).2.2 _ h2) (by simp [Obj.isCells])
/-- The first clauses that are falsified or unit at the start. -/
def hotTo (C : List (List Int)) (k : Nat) : List Int := ((List.range k).filter fun i => decide (opnN [] (C.getD i []) < 2)).map fun (i : Nat) => (i : Int)
theorem hotTo_succ (C : List (List Int)) (k : Nat) : hotTo C (k + 1) = hotTo C k ++ (if opnN [] (C.getD k []) < 2 then [(k : Int)] else []) := by
  unfold hotTo
  rw [List.range_succ, List.filter_append, List.map_append]
  congr 1
  by_cases h : opnN [] (C.getD k []) < 2
  · rw [if_pos h, List.filter_cons, if_pos (decide_eq_true h)]; rfl
  · rw [if_neg h, List.filter_cons, if_neg (by rw [decide_eq_false h]; decide)]; rfl
theorem hotTo_len (C : List (List Int)) (k : Nat) : (hotTo C k).length ≤ k := by
  unfold hotTo; rw [List.length_map]; exact Nat.le_trans (List.length_filter_le _ _) (by simp)
theorem sorted_heap {l : List Int} (h : ∀ i j, i < j → j < l.length → at_ l i ≤ at_ l j) : Heap l.length l := fun k h0 hk => h _ _ (by omega) hk
theorem hotTo_sorted (C : List (List Int)) : ∀ k, (∀ y ∈ hotTo C k, y < k) ∧ ∀ i j, i < j → j < (hotTo C k).length → at_ (hotTo C k) i ≤ at_ (hotTo C k) j
  | 0 => ⟨by simp [hotTo], fun i j _ hj => by simp [hotTo] at hj⟩
  | k + 1 => by
    obtain ⟨h1, h2⟩ := hotTo_sorted C k
    rw [hotTo_succ]
    by_cases h : opnN [] (C.getD k []) < 2
    · rw [if_pos h]
      refine ⟨fun y hy => ?_, fun i j hij hj => ?_⟩
      · rcases List.mem_append.1 hy with hy | hy
        · have := h1 y hy; omega
        · rw [List.mem_singleton.1 hy]; omega
      · simp only [List.length_append, List.length_singleton] at hj
        have e : ∀ m, m < (hotTo C k).length → at_ (hotTo C k ++ [(k : Int)]) m = at_ (hotTo C k) m := fun m hm => by unfold at_; rw [List.getD_eq_getElem?_getD, List.getElem?_append_left hm, ← List.getD_eq_getElem?_getD]
        rw [e i (by omega)]
        by_cases hj2 : j < (hotTo C k).length
        · rw [e j hj2]; exact h2 i j hij hj2
        · have hje : j = (hotTo C k).length := by omega
          have : at_ (hotTo C k ++ [(k : Int)]) j = (k : Int) := by unfold at_; rw [List.getD_eq_getElem?_getD, List.getElem?_append_right (by omega), hje, Nat.sub_self]; rfl
          rw [this]
          have hil : i < (hotTo C k).length := by omega
          have hm : at_ (hotTo C k) i ∈ hotTo C k := by
            have := at_some hil; exact List.mem_of_getElem? this
          have := h1 _ hm
          omega
    · rw [if_neg h, List.append_nil]
      exact ⟨fun y hy => by have := h1 y hy; omega, h2⟩
theorem qok_start (C : List (List Int)) : QOk C [] [] (hotTo C C.length) := by
  refine ⟨sorted_heap (hotTo_sorted C C.length).2, fun y hy => ?_, fun i hi hh => .inl ?_⟩
  · unfold hotTo at hy
    rw [List.mem_map] at hy
    obtain ⟨i, h1, rfl⟩ := hy
    rw [List.mem_filter, List.mem_range] at h1
    exact ⟨i, rfl, h1.1, of_decide_eq_true h1.2⟩
  · unfold hotTo
    rw [List.mem_map]
    refine ⟨i, ?_, rfl⟩
    rw [List.mem_filter, List.mem_range]
    unfold hot at hh
    simp only [Bool.and_eq_true] at hh
    exact ⟨hi, hh.2⟩
theorem sats_start (C : List (List Int)) : satsP C [] = List.replicate C.length 0 := by
  refine ext_getD (by simp [satsP]) fun j hj => ?_
  have hjC : j < C.length := by simpa [satsP] using hj
  unfold satsP
  rw [getD_map hjC, List.getD_eq_getElem?_getD (l := List.replicate _ _), List.getElem?_replicate, if_pos hjC]
  unfold satN
  rw [List.countP_eq_zero.2 (fun y _ => by simp)]
  rfl
theorem occ_made {V M : Nat} {C : List (List Int)} {s cl nx : List Int} (hM : 2 * V + 4 = M) (hs : SumOk M (occs C) M s) (hf : FillOk M (occs C) (occs C) nx cl) : Occ V C s cl := by
  refine ⟨by rw [hs.1, hM], fun x hx => ?_⟩
  have hk := ix_lt hx
  have e : (ixL x).toNat = ixL' x := by unfold ixL ixL'; rfl
  have hw : (with_ C x).length = cntE (ixL' x) (occs C) := by rw [← sel_occs hx, sel_len]
  have g1 : s[ixL' x]? = some ((cntL (ixL' x) (occs C) : Nat) : Int) := by rw [at_some (by rw [hs.1]; omega), hs.2.1 _ (by omega) (by omega)]
  have g2 : s[ixL' x + 1]? = some ((cntL (ixL' x + 1) (occs C) : Nat) : Int) := by rw [at_some (by rw [hs.1]; omega), hs.2.1 _ (by omega) (by omega)]
  rw [e]
  refine ⟨cntL (ixL' x) (occs C), g1, by rw [g2, cntL_succ, hw], ?_, fun j i hj => ?_⟩
  · rw [hw, ← cntL_succ, hf.clen]; exact cntL_len _ _
  · rw [← sel_occs hx] at hj
    exact hf.cl _ (by omega) j i hj
end Go.Proofs.Ythkemajekkilmaa
/- A row is copied. -/
namespace Go.Proofs.Ythkemajekkilmaa
open Go.RowKit
set_option maxRecDepth 100000 in
set_option maxHeartbeats 2000000 in
theorem cloneOwn_calls (zs : List Int) (a : Option Addr) (c : Nat) (w : World) (h : IntsW w a c zs) (hl : zs.length ≤ 100000) :
    Calls Try.prog 56 #[.slice a zs.length c] w fun e w' => ∃ v', e = .returned v' ∧ w'.ownsRow w.heap.size 3 1 v' zs.length (intCells zs) ∧ w.grownBy w' none := by
  obtain ⟨n, hn⟩ : ∃ n, zs.length = n := ⟨_, rfl⟩
  rw [hn] at hl ⊢
  have HN := Lib.hid hn; clear hn
  cases a with
  | none =>
    obtain rfl : zs = [] := by
      obtain ⟨_, h | ⟨_, _, e, _⟩⟩ := h
      · exact h
      · cases e
    have q28 : ∀ (w : World) (a : Option Addr) (n c n' c' : Nat), (binOp .eql 25 (.slice a n c) (.slice none n' c')).run Try.prog w = .ok (.bool a.isNone) w := fun w a n c n' c' => Lib.run_eql_slice_nil w _ _ a n c n' c' Try.underlying25
    have hn0 : n = 0 := by rw [← HN.out]; rfl
    subst hn0
    go_enter Try.func56, Try.ntmps56
    go_wp2_with fail
    go_ret
    exact ⟨.slice none 0 0, rfl, World.ownsRow_nil _ _ _ _, grown_refl _ _⟩
  | some ad =>
    obtain ⟨i0, hi0, hz0, hz1, hz2⟩ := info_parts info3
    have HC := Lib.hid h.2; have hc := h.1; clear h
    rw [HN.out] at hc
    have q28 : ∀ (w : World) (a : Option Addr) (n c n' c' : Nat), (binOp .eql 25 (.slice a n c) (.slice none n' c')).run Try.prog w = .ok (.bool a.isNone) w := fun w a n c n' c' => Lib.run_eql_slice_nil w _ _ a n c n' c' Try.underlying25
    go_enter Try.func56, Try.ntmps56
    go_wp2_with (at_builtin; refine wpList_append_own _ rfl _ _ 25 rfl w.heap.size 3 i0 (.int .i64 0) 1 8 Try.underlying25 hi0 hz0 hz1 hz2 rfl (by decide) _ _ _ rfl (World.ownsRow_made w #[] 0 (Nat.le_refl _) (Nat.zero_le _) rfl) ad n c (intCells zs) rfl ?qc1 ?qc2 ?qc3 ?qc4 ?qc5 ?qc6 ?_)
    case qc1 => rw [intCells, List.length_map, HN.out]; omega
    case qc2 =>
      intro j u hj
      rw [intCells, List.getElem?_map] at hj
      cases hq : zs[j]? with
      | none => rw [hq] at hj; simp at hj
      | some z =>
        rw [hq] at hj
        simp only [Option.map_some, Option.some.injEq] at hj
        rcases HC.out with h0 | ⟨b, o, e, hz⟩
        · rw [h0] at hq; simp at hq
        · cases e
          have hadd : (⟨b, o, none⟩ : Addr).add j = ⟨b, o + j, none⟩ := by unfold Addr.add; split <;> simp_all
          rw [hadd, ← hj]
          exact (World.grownBy_alloc w _ none).cell (hz j z hq) (by simp)
    case qc3 => intro u hu; obtain ⟨x, _, rfl⟩ := List.mem_map.1 hu; rfl
    case qc4 => unfold maxLen; omega
    case qc5 => omega
    case qc6 => simp
    intro v' w1 hown hgrow hnil
    have hown' : w1.ownsRow w.heap.size 3 1 v' zs.length (intCells zs) := by rw [HN.out]; simpa using hown
    obtain ⟨a', c', rfl, hi⟩ := ints_span hown'
    have HR := Lib.hid hown'; clear hi hown hown' hnil
    have HG : Hid (w.grownBy w1 none) := Lib.hid (grown_own (World.grownBy_alloc w _ none) hgrow (fun k hk => by simp [Value.ownBlock] at hk; omega))
    clear hgrow
    rw [HN.out]
    go_wp2
    go_ret
    refine ⟨_, rfl, ?_, HG.out⟩
    have := HR.out
    rw [HN.out] at this
    exact this

theorem one_cell (w : World) (v : Value) (t : TypeId) : w.heap.size < (w.alloc (.cells #[v] t)).heap.size ∧ (w.alloc (.cells #[v] t)).cell? ⟨w.heap.size, 0, none⟩ = some v ∧ (w.alloc (.cells #[v] t)).frozen? ⟨w.heap.size, 0, none⟩ = false := by
  refine ⟨by simp, by go_simp, by go_simp⟩
end Go.Proofs.Ythkemajekkilmaa

/- Texts of the proof: O1 J1 B2. -/
import Derived.Test.YtihaheinkpmnnaaGreatCA06
import Derived.RangeFuncCalls
import Derived.OrdersHeld
import Derived.Deep.RegionHeld
namespace Go.Proofs.YtihaheinkpmnnaaGreat
set_option maxRecDepth 200000
open Go.RowKit Go.Shelf
attribute [local go_sem] Oper.semAt_some
theorem agree_cell {w0 W : World} (h : ∀ b, b < w0.heap.size → W.heap[b]? = w0.heap[b]?) {ad : Addr} {v : Value} (hc : w0.cell? ad = some v) : W.cell? ad = some v := by
  rw [World.cell?_of_block (h ad.block (lies_lt hc))]; exact hc
theorem ix_calls' (V : Nat) (x : Int) (h : InR V x) (hV : V ≤ 1000) (w : World) : Calls Tryz.prog 121 #[.int .i64 x] w fun e w' => e = .returned (.int .i64 (ixL' x : Int)) ∧ w' = w := by
  have := ix_calls x w (by obtain ⟨_, _, _⟩ := h; omega)
  have e : ixL x = (ixL' x : Int) := by obtain ⟨_, _, _⟩ := h; unfold ixL ixL'; split <;> omega
  rwa [e] at this
def ocV (x : Int × Nat) : Array Value := #[.int .i64 x.1, .int .i64 (x.2 : Int)]
set_option maxHeartbeats 16000000 in
set_option maxRecDepth 100000 in
theorem occ_gives (V : Nat) (C : List (List Int)) (p : Nat) (ca : Option Addr) (cc sz : Nat) (w0 w : World) (hz0 : w0.heap.size = sz) (hsz : sz ≤ w.heap.size) (hag : ∀ b, b < w0.heap.size → w.heap[b]? = w0.heap[b]?) (hs : ClsW w0 ca cc C)
    (c0 : w.cell? ⟨p, 0, none⟩ = some (.int .i64 (V : Int))) (c1 : w.cell? ⟨p, 1, none⟩ = some (.slice ca C.length cc)) (hV : V ≤ 1000) (hC : C.length ≤ 1000) (hL : ∀ c ∈ C, c.length ≤ 1000) (hR : Ran V C) :
    GivesG ocV Fence.wide Tryz.prog 120 #[.pointer (some ⟨p, 0, none⟩)] #[] (fun b => b < sz) (occs C) w := by
  intro nn l J Safe hcap hJ hY h0
  obtain ⟨n, hn⟩ : ∃ m, C.length = m := ⟨_, rfl⟩
  rw [hn] at hC c1
  have HAG := Lib.hid (show ∀ W, Low sz Safe w W → ∀ b, b < w0.heap.size → W.heap[b]? = w0.heap[b]? from fun W hW b hb => (hW b (by omega)).1.trans (hag b hb))
  have HXY := Lib.hid (And.intro hs (And.intro hn (And.intro hL hR)))
  have HSZ := Lib.hid hsz
  have HH := Lib.hid (And.intro hJ hY)
  have hlow : Low sz Safe w w := fun b hb => ⟨rfl, hcap b hb⟩
  have HL := Lib.hid (And.intro hlow h0)
  obtain ⟨M, hM⟩ : ∃ M, 2 * V + 2 = M := ⟨_, rfl⟩
  have k3 : IntKind.i64.wrap (2 * (V : Int)) = 2 * (V : Int) := IntWalk.i64_in _ (by omega)
  have k4 : IntKind.i64.wrap (2 * (V : Int) + 2) = (M : Int) := by rw [IntWalk.i64_in _ (by omega)]; omega
  have k5 : ∀ U : World, (Instr.makeSlice 34 (.int .i64 (M : Int)) (.int .i64 (M : Int))).run Tryz.prog U = .ok (.slice (some ⟨U.heap.size, 0, none⟩) M M) (U.alloc (.cells (madeCells #[.int .i64 0] M) 3)) := fun U => mk25 U M (by omega)
  have HM := Lib.hid hM
  have hlp := lies_lt c0
  clear hs hag hz0 hn hsz hJ hY h0 hcap hlow hL hR hM
  refine callsIn_of_wp Tryz.func120 rfl trivial ?_ rfl
  simp only [Tryz.ntmps120, List.size_toArray, List.length_cons, List.length_nil, Nat.reduceAdd, Nat.reduceSub, Array.replicate_succ, Array.replicate_zero, List.push_toArray, List.append_toArray, List.nil_append, List.cons_append]
  have hg1 := World.grownBy_alloc w (.cells (madeCells #[.int .i64 0] M) 3) none
  have HO1 : Hid ((w.alloc (.cells (madeCells #[.int .i64 0] M) 3)).ownsRow w.heap.size 3 1 (.slice (some ⟨w.heap.size, 0, none⟩) M M) M (List.replicate M (.int .i64 0))) := Lib.hid (made_own w w.heap.size M (.int .i64 0) 3 (Nat.le_refl _) (by have := HM.out; omega))
  have c1' := hg1.cell c1 (by simp)
  obtain ⟨W0, hW0⟩ : ∃ z, w.alloc (.cells (madeCells #[.int .i64 0] M) 3) = z := ⟨_, rfl⟩
  obtain ⟨L, hLb⟩ : ∃ z, w.heap.size = z := ⟨_, rfl⟩
  rw [hW0] at hg1 HO1 c1'
  rw [hLb] at HO1
  have hls : L < W0.heap.size := by rw [← hW0, ← hLb]; simp
  have HL0 : Hid (Low sz Safe w W0 ∧ J [] W0 ∧ Safe W0 L) := Lib.hid ⟨HL.out.1.grown HH.out.1 HL.out.2 hg1 HSZ.out, HH.out.1.keep _ _ _ HL.out.2 (.of_none hg1), HH.out.1.fresh _ _ _ _ HL.out.2 (.of_none hg1) (by omega) hls⟩
  have HLB := Lib.hid hLb
  clear hg1 hLb hls
  gi_wp2_with fail
  rw [HLB.out]
  clear k3 k4 k5 c0 c1 c1' hW0 hlp
  gi_loopg [23] n (fun g s23 wr => ∃ k : Nat, s23 = .int .i64 (k : Int) ∧ g = n - k ∧ k ≤ n ∧ (Low sz Safe w wr ∧ J (occsTo C k) wr ∧ Safe wr L) ∧ ∃ la, wr.ownsRow L 3 1 (.slice (some ⟨L, 0, none⟩) M M) M (intCells la) ∧ LastOk V k [] la)
  case atStart => exact ⟨0, rfl, rfl, Nat.zero_le _, HL0.out, List.replicate M 0, by have := HO1.out; rwa [intCells, List.map_replicate], by have := LastOk.start V; rwa [HM.out] at this⟩
  case round =>
    obtain ⟨k, rfl, hgk, hk, hj, la, hrow, hla⟩ := hrel
    obtain ⟨wo, hwo⟩ : ∃ z, z = wr := ⟨_, rfl⟩
    rw [← hwo] at hj hrow ⊢
    clear hwo
    have HI := Lib.hid (And.intro hgk (And.intro hj (And.intro hrow hla)))
    clear hgk hj hrow hla
    by_cases hkn : k < n
    · have f1 : decide (k < n) = true := decide_eq_true hkn
      have f2 : decide ((k : Int) < (n : Int)) = true := decide_eq_true (by omega)
      have f3 : (k : Int) < (n : Int) := by omega
      obtain ⟨c, hc⟩ : ∃ c, C[k]? = some c := ⟨_, List.getElem?_eq_getElem (by rw [HXY.out.2.1]; exact hkn)⟩
      obtain ⟨b, o, a', c', rfl, h4, h5⟩ := HXY.out.1.at hc
      have hCm := List.mem_of_getElem? hc
      obtain ⟨m, hm⟩ : ∃ m, c.length = m := ⟨_, rfl⟩
      have hm1 : m ≤ 1000 := by have := HXY.out.2.2.1 c hCm; omega
      have HCK : Hid (C.getD k [] = c ∧ c.length = m ∧ (∀ y ∈ c, InR V y)) := Lib.hid ⟨by rw [List.getD_eq_getElem?_getD, hc]; rfl, hm, HXY.out.2.2.2 c hCm⟩
      rw [hm] at h4
      have h4' := agree_cell (HAG.out _ HI.out.2.1.1) h4
      have H5 := Lib.hid h5
      clear hc hCm hm h4 h5
      gi_wp2_with fail
      clear f1 f2 f3 h4'
      gi_loopg [30] m (fun g s30 wr => ∃ j : Nat, s30 = .int .i64 (j : Int) ∧ g = m - j ∧ j ≤ m ∧ (Low sz Safe w wr ∧ J (occsTo C k ++ occC C k (c.take j)) wr ∧ Safe wr L) ∧ ∃ la, wr.ownsRow L 3 1 (.slice (some ⟨L, 0, none⟩) M M) M (intCells la) ∧ LastOk V k (c.take j) la)
      case atStart => exact ⟨0, rfl, rfl, Nat.zero_le _, by rw [List.take_zero, occC_nil, List.append_nil]; exact HI.out.2.1, la, HI.out.2.2.1, by rw [List.take_zero]; exact HI.out.2.2.2⟩
      case round =>
        obtain ⟨j, rfl, hgj, hj, hjj, lb, hrow, hlb⟩ := hrel
        obtain ⟨wj, hwo⟩ : ∃ z, z = wr := ⟨_, rfl⟩
        rw [← hwo] at hjj hrow ⊢
        clear hwo
        have HJ := Lib.hid (And.intro hgj (And.intro hjj (And.intro hrow hlb)))
        clear hgj hjj hrow hlb
        by_cases hjm : j < m
        · have f1 : decide (j < m) = true := decide_eq_true hjm
          have f2 : decide ((j : Int) < (m : Int)) = true := decide_eq_true (by omega)
          have f3 : (j : Int) < (m : Int) := by omega
          obtain ⟨x, hx⟩ : ∃ x, c[j]? = some x := ⟨_, List.getElem?_eq_getElem (by rw [HCK.out.2.1]; exact hjm)⟩
          have hxr := HCK.out.2.2 x (List.mem_of_getElem? hx)
          obtain ⟨b', o', rfl, hcx⟩ := H5.out.at hx
          have hcx' := agree_cell (HAG.out _ HJ.out.2.1.1) hcx
          have htake : c.take (j + 1) = c.take j ++ [x] := by
            have h1 := List.getElem?_eq_some_iff.1 hx
            rw [List.take_succ_eq_append_getElem h1.1, h1.2]
          obtain ⟨ix, hix⟩ : ∃ z, ixL' x = z := ⟨_, rfl⟩
          have HIX : Hid (∀ U, Calls Tryz.prog 121 #[.int .i64 x] U fun e w' => e = .returned (.int .i64 (ix : Int)) ∧ w' = U) := Lib.hid (by rw [← hix]; exact ix_calls' V x hxr hV)
          have hixM : ix < M := by have h1 := ix_lt hxr; have h2 := HM.out; omega
          have hlbl : lb.length = M := by rw [HJ.out.2.2.2.len]; exact HM.out
          have hcl : wj.cell? ⟨L, ix, none⟩ = some (.int .i64 (at_ lb ix)) := irow_cell (B := L) (c := M) (l := lb) (by unfold IRow; rw [hlbl]; exact HJ.out.2.2.1) (by omega)
          have hfl : wj.frozen? ⟨L, ix, none⟩ = false := World.ownsRow.frozenAt HJ.out.2.2.1 ix
          have i1 : (ix : Int) < (M : Int) := by omega
          have HT := Lib.hid (And.intro htake (And.intro hix hxr))
          obtain ⟨z, hz⟩ : ∃ z, at_ lb ix = z := ⟨_, rfl⟩
          rw [hz] at hcl
          have hiff := HJ.out.2.2.2.iff x hxr
          rw [hix, hz] at hiff
          have kk : IntKind.i64.wrap ((k : Int) + 1) = (k : Int) + 1 := IntWalk.i64_in _ (by omega)
          by_cases hseen : x ∈ c.take j
          · have e1 : (z == (k : Int) + 1) = true := by rw [beq_iff_eq]; exact hiff.2 hseen
            have HS := Lib.hid hseen
            clear hx hxr hcx htake hix hlbl hz hiff hseen hfl
            gi_wp2_with fail
            refine ⟨trivial, fun h => (by cases h), (callsIn_wide.2 (HIX.out _)).mono ?_⟩
            rintro e w9 ⟨rfl, hw9⟩
            rw [hw9]
            clear hw9 w9
            gi_wp2_with fail
            gi_roundg (m - (j + 1))
            case measure => rw [HJ.out.1]; omega
            case rel => exact ⟨j + 1, rfl, rfl, by omega, by rw [HT.out.1, occC_old HS.out]; exact HJ.out.2.1, lb, HJ.out.2.2.1, by rw [HT.out.1]; exact HJ.out.2.2.2.old HS.out⟩
          · have e1 : (z == (k : Int) + 1) = false := by rw [beq_eq_false_iff_ne]; exact fun h => hseen (hiff.1 h)
            have hHS : J (occsTo C k ++ occC C k (c.take j)) (wj.setCell ⟨L, ix, none⟩ (.int .i64 ((k : Int) + 1))) := HH.out.1.keep _ _ _ HJ.out.2.1.2.1 ⟨some L, grown_set _ _ _ _, fun r e => by cases e; have := HLB.out; omega⟩
            have hSf : ∀ b, Safe wj b → Safe (wj.setCell ⟨L, ix, none⟩ (.int .i64 ((k : Int) + 1))) b := fun b hb => HH.out.1.safe _ _ _ b HJ.out.2.1.2.1 ⟨some L, grown_set _ _ _ _, fun r e => by cases e; have := HLB.out; omega⟩ hb
            have hrow' := (World.ownsRow.stored HJ.out.2.2.1 ix (.int .i64 ((k : Int) + 1))).1
            rw [intCells, ← List.map_set] at hrow'
            have hlow' : Low sz Safe w (wj.setCell ⟨L, ix, none⟩ (.int .i64 ((k : Int) + 1))) := fun b hb => by
              obtain ⟨h1, h2⟩ := HJ.out.2.1.1 b hb
              exact ⟨(Below.heap_setCell _ _ _ _ (by have := HLB.out; have := HSZ.out; simp only; omega)).trans h1, hSf b h2⟩
            have hlb' := HJ.out.2.2.2.put hxr
            rw [hix] at hlb'
            have hpre : (occsTo C k ++ occC C k (c.take j)) ++ [(x, k)] <+: occs C := by
              have h1 := occs_pre (C := C) (k := k) (by rw [HXY.out.2.1]; exact hkn) (l := c.take (j + 1)) (m := c.drop (j + 1)) (by rw [HCK.out.1, List.take_append_drop])
              rwa [htake, occC_new hseen, ← List.append_assoc] at h1
            obtain ⟨WS, hWS⟩ : ∃ z, wj.setCell ⟨L, ix, none⟩ (.int .i64 ((k : Int) + 1)) = z := ⟨_, rfl⟩
            rw [hWS] at hHS hrow' hlow' hSf
            obtain ⟨fn, tmps, assign, body, hy, hRI⟩ := HH.out.2 _ (x, k) _ hHS hpre
            simp only [ocV] at hy
            have HRI := Lib.hid hRI
            have HN := Lib.hid (And.intro hrow' (And.intro hlow' (And.intro hlb' (And.intro (hSf L HJ.out.2.1.2.2) (And.intro hpre hseen)))))
            clear hRI hrow' hlow' hlb' hSf hpre hseen hHS hx hxr hcx htake hix hlbl hz hiff
            gi_wp2_with fail
            refine ⟨trivial, fun h => (by cases h), (callsIn_wide.2 (HIX.out _)).mono ?_⟩
            rintro e w9 ⟨rfl, hw9⟩
            rw [hw9]
            clear hw9 w9
            gi_wp2_with fail
            refine ⟨trivial, fun h => (by cases h), (callsIn_wide.2 (HIX.out _)).mono ?_⟩
            rintro e w9 ⟨rfl, hw9⟩
            rw [hw9]
            clear hw9 w9
            gi_wp2_with fail
            clear hy
            refine ⟨fun h => (by cases h), ?_⟩
            refine HRI.out.mono ?_
            rintro e W3 ⟨rfl, hJ3, hs3⟩
            have H3 := Lib.hid (And.intro hJ3 (And.intro (HN.out.2.1.saved hs3) (hs3 L HN.out.2.2.2.1)))
            clear hJ3 hs3
            gi_wp2_with fail
            gi_roundg (m - (j + 1))
            case measure => rw [HJ.out.1]; omega
            case rel =>
              refine ⟨j + 1, rfl, rfl, by omega, ⟨H3.out.2.1, ?_, H3.out.2.2.2⟩, _, ?_, by rw [HT.out.1]; exact HN.out.2.2.1⟩
              · rw [HT.out.1, occC_new HN.out.2.2.2.2.2, ← List.append_assoc]; exact H3.out.1
              · refine ⟨HN.out.1.1, ?_⟩
                rcases HN.out.1.2 with ⟨h1, _⟩ | ⟨g, cap, cur, h1, h2, h3, h4⟩
                · cases h1
                · refine .inr ⟨g, cap, cur, h1, h2, ?_, h4⟩
                  have : g = L := by injection h1 with h1; injection h1 with h1; injection h1 with h1; exact h1.symm
                  subst this
                  exact H3.out.2.2.1.trans h3
        · have hje : j = m := by omega
          subst hje
          have f1 : decide (j < j) = false := by simp
          gi_wp2_with fail
          gi_roundg (n - (k + 1))
          case measure => rw [HI.out.1]; omega
          case rel =>
            refine ⟨k + 1, rfl, rfl, by omega, ⟨HJ.out.2.1.1, ?_, HJ.out.2.1.2.2⟩, lb, HJ.out.2.2.1, HJ.out.2.2.2.next⟩
            have h1 := HJ.out.2.1.2.1
            rw [← HCK.out.2.1, List.take_length] at h1
            rw [occsTo_succ, HCK.out.1]
            exact h1
    · have hke : k = n := by omega
      subst hke
      have f1 : decide (k < k) = false := by simp
      gi_wp2_with fail
      go_end0
      refine ⟨⟨_, rfl⟩, ?_⟩
      have := HI.out.2.1.2.1
      unfold occs
      rw [HXY.out.2.1]
      exact this
end Go.Proofs.YtihaheinkpmnnaaGreat

namespace Go.Proofs.YtihaheinkpmnnaaGreat
set_option maxRecDepth 200000
open Go.RowKit

theorem wpOpIn_of {l n : Nat} {P : Program} {ops : Array Oper} {Q : Exit → Act → World → Prop} {i : Nat} {K K' : Act → World → Prop} {a : Act} {w : World} (hd : ∀ (j : Nat) (o : Oper), ops[j]? = some o → ∀ c, o.op ≠ .defer c) (hout : ¬ LetsOut Q) (hK : ∀ a w, K a w → K' a w) (h : wpOp P ops Q i K a w) :
    wpOpIn (Fence.wide.inRound l) n P ops Q i K' a w := by
  unfold wpOp at h
  unfold wpOpIn
  split
  · rename_i hi
    rw [hi] at h
    exact hK _ _ h
  · rename_i o ho
    rw [ho] at h
    simp only at h
    split
    · rename_i hw
      rw [if_pos hw] at h
      rcases h with h | h
      · refine ⟨fun _ _ => trivial, ?_⟩
        rw [Oper.semAt_eq _ _ _ (hd i o ho)]
        unfold Oper.wp at h
        generalize (execOp a.eval o).run P w = r at h ⊢
        cases r with
        | ok x w' =>
          cases x with
          | value v => exact hK _ _ h
          | skip => exact hK _ _ h
          | defer d => exact hK _ _ h
          | enter f args =>
            refine ⟨fun e => (by cases e), CallsIn.inRound l (callsIn_wide.2 (Calls.mono h fun e w'' he => ?_))⟩
            cases e with
            | returned v => exact hK _ _ he
            | panicked c => exact he
            | outgrown => exact he
          | row r args =>
            refine ⟨fun e => (by cases e), ?_⟩
            exact fun c cs _ => by
              obtain ⟨v, w2, hr, hs⟩ := h c cs
              exact ⟨v, w2, hK _ _ hr, (stepsIn_wide).2 hs⟩
          | _ => exact h.elim
        | halt x w' =>
          cases x with
          | panic u => exact h
          | _ => exact h.elim
      · exact absurd h.2 hout
    · rename_i hw
      rw [if_neg hw] at h
      exact ⟨fun _ _ => trivial, hK _ _ h⟩
theorem wpAnyIn_of {l n : Nat} {P : Program} {md : Region.Mode} {ops : Array Oper} {Q : Exit → Act → World → Prop} (hd : ∀ (j : Nat) (o : Oper), ops[j]? = some o → ∀ c, o.op ≠ .defer c) (hout : ¬ LetsOut Q) :
    ∀ (fuel : Nat) (listed : Array Bool) (a : Act) (w : World), wpAny P md ops Q fuel listed a w → wpAnyIn (Fence.wide.inRound l) n P md ops Q fuel listed a w
  | 0, _, _, _, h => h
  | fuel + 1, _, _, _, h => ⟨h.1, fun i hi => wpOpIn_of hd hout (fun a' w' h' => wpAnyIn_of hd hout fuel _ a' w' h') (h.2 i hi)⟩
/-- No operation is a defer statement. -/
def noDefer (ops : Array Oper) : Bool := ops.toList.all fun o => match o.op with | .defer _ => false | _ => true
theorem noDefer_spec {ops : Array Oper} (h : noDefer ops = true) : ∀ (j : Nat) (o : Oper), ops[j]? = some o → ∀ c, o.op ≠ .defer c := by
  intro j o ho c e
  have h1 := List.all_eq_true.1 h o (by rw [← Array.getElem?_toList] at ho; exact List.mem_of_getElem? ho)
  rw [e] at h1
  cases h1
/-- A region under a held condition, in a round. -/
theorem wpIn_region_held_round {l n : Nat} {P : Program} {id : Nat} {ops : Array Oper} {Q : Exit → Act → World → Prop} {S : World → Prop} {a : Act} {w : World} (hm : P.follows .mixedOrders = true) (hd : noDefer ops = true) (hout : ¬ LetsOut Q) (hS : S w.drew)
    (h : S w.drew → wpAnyH P .any ops Q S ops.size (Array.replicate ops.size false) a w.drew) : (Code.region id ops true).wpIn (Fence.wide.inRound l) n P Q a w :=
  wpIn_region_any hm (wpAnyIn_of (noDefer_spec hd) hout _ _ _ _ (wpAny_of_held _ _ _ _ (h hS)))
end Go.Proofs.YtihaheinkpmnnaaGreat

namespace Go.Proofs.YtihaheinkpmnnaaGreat
set_option maxRecDepth 200000
abbrev Oc := Int × Nat
def key (x : Oc) : Nat := ixL' x.1
def cntE (m : Nat) (l : List Oc) : Nat := l.countP fun x => key x == m
def cntL (m : Nat) (l : List Oc) : Nat := l.countP fun x => decide (key x < m)
def sel (m : Nat) (l : List Oc) : List Nat := (l.filter fun x => key x == m).map (·.2)
theorem sel_len (m : Nat) (l : List Oc) : (sel m l).length = cntE m l := by
  unfold sel cntE; rw [List.length_map, List.countP_eq_length_filter]
theorem cntE_snoc (m : Nat) (l : List Oc) (x : Oc) : cntE m (l ++ [x]) = cntE m l + (if key x = m then 1 else 0) := by
  unfold cntE; rw [List.countP_append]; simp [List.countP_cons]
theorem sel_snoc (m : Nat) (l : List Oc) (x : Oc) : sel m (l ++ [x]) = sel m l ++ (if key x = m then [x.2] else []) := by
  unfold sel
  rw [List.filter_append, List.map_append]
  by_cases h : key x = m <;> simp [h]
theorem cntL_succ (m : Nat) (l : List Oc) : cntL (m + 1) l = cntL m l + cntE m l := by
  unfold cntL cntE
  induction l with
  | nil => rfl
  | cons a l ih =>
    rw [List.countP_cons, List.countP_cons, List.countP_cons, ih]
    by_cases h1 : key a = m
    · simp [h1]; omega
    · by_cases h2 : key a < m
      · have : key a < m + 1 := by omega
        simp [h1, h2, this]; omega
      · have : ¬ key a < m + 1 := by omega
        simp [h1, h2, this]
theorem cntL_zero (l : List Oc) : cntL 0 l = 0 := by unfold cntL; rw [List.countP_eq_zero]; simp
theorem cntL_mono {m m' : Nat} (h : m ≤ m') (l : List Oc) : cntL m l ≤ cntL m' l := by
  unfold cntL
  exact List.countP_mono_left fun x _ hx => by simp at hx ⊢; omega
theorem cntL_len (m : Nat) (l : List Oc) : cntL m l ≤ l.length := List.countP_le_length
theorem cntL_all {m : Nat} {l : List Oc} (h : ∀ x ∈ l, key x < m) : cntL m l = l.length := by
  unfold cntL; rw [List.countP_eq_length]; simpa using h
theorem cntE_pre {m : Nat} {l l' : List Oc} (h : l <+: l') : cntE m l ≤ cntE m l' := by
  obtain ⟨t, rfl⟩ := h
  unfold cntE; rw [List.countP_append]; omega
/-- Counted: cell m + 1 counts the occurrences with the key m. -/
def CntOk (M : Nat) (pre : List Oc) (s : List Int) : Prop := s.length = M ∧ at_ s 0 = 0 ∧ ∀ m, m + 1 < M → at_ s (m + 1) = (cntE m pre : Int)
theorem CntOk.start (M : Nat) : CntOk M [] (List.replicate M 0) := by
  have e : ∀ m, at_ (List.replicate M 0) m = 0 := fun m => by unfold at_; rw [List.getD_eq_getElem?_getD, List.getElem?_replicate]; split <;> rfl
  exact ⟨by simp, e 0, fun m _ => by rw [e]; rfl⟩
theorem CntOk.step {M : Nat} {pre : List Oc} {s : List Int} (h : CntOk M pre s) {x : Oc} (hx : key x + 1 < M) : CntOk M (pre ++ [x]) (s.set (key x + 1) (at_ s (key x + 1) + 1)) := by
  obtain ⟨h1, h2, h3⟩ := h
  have hl : key x + 1 < s.length := by omega
  refine ⟨by rw [List.length_set]; exact h1, by rw [at_set hl, if_neg (by omega)]; exact h2, fun m hm => ?_⟩
  rw [at_set hl, cntE_snoc]
  by_cases e : m = key x
  · subst e; rw [if_pos rfl, if_pos rfl, h3 _ hm]; rfl
  · rw [if_neg (by omega), if_neg (fun e2 => e e2.symm), h3 _ hm]; rfl
/-- Summed up below k. -/
def SumOk (M : Nat) (l : List Oc) (k : Nat) (s : List Int) : Prop := s.length = M ∧ (∀ m, m < k → m < M → at_ s m = (cntL m l : Int)) ∧ ∀ m, k ≤ m + 1 → m + 1 < M → at_ s (m + 1) = (cntE m l : Int)
theorem SumOk.start {M : Nat} {l : List Oc} {s : List Int} (h : CntOk M l s) : SumOk M l 1 s := by
  obtain ⟨h1, h2, h3⟩ := h
  exact ⟨h1, fun m hm _ => by have : m = 0 := by omega
                              subst this; rw [h2, cntL_zero]; rfl, fun m _ hm => h3 m hm⟩
theorem SumOk.step {M : Nat} {l : List Oc} {k : Nat} {s : List Int} (h : SumOk M l (k + 1) s) (hk : k + 1 < M) : SumOk M l (k + 2) (s.set (k + 1) (at_ s (k + 1) + at_ s k)) := by
  obtain ⟨h1, h2, h3⟩ := h
  have hl : k + 1 < s.length := by omega
  refine ⟨by rw [List.length_set]; exact h1, fun m hm hM => ?_, fun m hm hM => ?_⟩
  · rw [at_set hl]
    by_cases e : m = k + 1
    · subst e; rw [if_pos rfl, h3 k (Nat.le_refl _) hM, h2 k (by omega) (by omega), cntL_succ]; omega
    · rw [if_neg e, h2 m (by omega) hM]
  · rw [at_set hl, if_neg (by omega), h3 m (by omega) hM]
/-- The lists are filled with a part of the occurrences. -/
structure FillOk (M : Nat) (l pre : List Oc) (nx cl : List Int) : Prop where
  nlen : nx.length = M
  clen : cl.length = l.length
  nx : ∀ m, m < M → at_ nx m = ((cntL m l + cntE m pre : Nat) : Int)
  cl : ∀ m, m < M → ∀ (j i : Nat), (sel m pre)[j]? = some i → cl[cntL m l + j]? = some (i : Int)
theorem FillOk.start {M : Nat} {l : List Oc} {s : List Int} (h : SumOk M l M s) : FillOk M l [] s (List.replicate l.length 0) :=
  ⟨h.1, by simp, fun m hm => by rw [h.2.1 m hm hm]; rfl, fun m _ j i hj => by simp [sel] at hj⟩
theorem FillOk.step {M : Nat} {l pre : List Oc} {nx cl : List Int} {x : Oc} (h : FillOk M l pre nx cl) (hx : key x + 1 < M) (hp : pre ++ [x] <+: l) :
    cntL (key x) l + cntE (key x) pre < l.length ∧ FillOk M l (pre ++ [x]) (nx.set (key x) (at_ nx (key x) + 1)) (cl.set (cntL (key x) l + cntE (key x) pre) (x.2 : Int)) := by
  have hE : cntE (key x) (pre ++ [x]) ≤ cntE (key x) l := cntE_pre hp
  rw [cntE_snoc, if_pos rfl] at hE
  have hS := cntL_succ (key x) l
  have hL := cntL_len (key x + 1) l
  have hlt : cntL (key x) l + cntE (key x) pre < l.length := by omega
  have hnl : key x < nx.length := by rw [h.nlen]; omega
  refine ⟨hlt, by rw [List.length_set]; exact h.nlen, by rw [List.length_set]; exact h.clen, fun m hm => ?_, fun m hm j i hj => ?_⟩
  · rw [at_set hnl, cntE_snoc]
    by_cases e : m = key x
    · subst e; rw [if_pos rfl, if_pos rfl, h.nx _ hm]; omega
    · rw [if_neg e, if_neg (fun e2 => e e2.symm), h.nx _ hm]; rfl
  · rw [sel_snoc] at hj
    rw [List.getElem?_set]
    by_cases e : key x = m
    · subst e
      rw [if_pos rfl] at hj
      by_cases hj1 : j < (sel (key x) pre).length
      · rw [List.getElem?_append_left hj1] at hj
        rw [sel_len] at hj1
        rw [if_neg (by omega)]
        exact h.cl _ hm j i hj
      · have hjl := (List.getElem?_eq_some_iff.1 hj).1
        simp only [List.length_append, List.length_singleton] at hjl
        have hje : j = (sel (key x) pre).length := by omega
        rw [List.getElem?_append_right (by omega), hje, Nat.sub_self] at hj
        simp at hj
        rw [hje, sel_len, if_pos rfl, h.clen, if_pos hlt, hj]
    · rw [if_neg e, List.append_nil] at hj
      have hj1 : j < cntE m pre := by rw [← sel_len]; exact (List.getElem?_eq_some_iff.1 hj).1
      have hE2 : cntE m pre ≤ cntE m l := cntE_pre ((List.prefix_append pre [x]).trans hp)
      have hS2 := cntL_succ m l
      rw [if_neg, h.cl m hm j i hj]
      intro e2
      rcases Nat.lt_or_gt_of_ne e with h1 | h1
      · have := cntL_mono (show key x + 1 ≤ m by omega) l; omega
      · have := cntL_mono (show m + 1 ≤ key x by omega) l; omega
/-- The occurrences of one literal are the clauses with it. -/
theorem sel_occs {V : Nat} {C : List (List Int)} {x : Int} (_hx : InR V x) : sel (ixL' x) (occs C) = with_ C x := by
  have h1 : ∀ (i : Nat) (l : List Int), sel (ixL' x) (occC C i l) = if x ∈ l then [i] else [] := by
    intro i l
    refine snoc_ind (P := fun l => sel (ixL' x) (occC C i l) = if x ∈ l then [i] else []) rfl (fun l y ih => ?_) l
    by_cases hy : y ∈ l
    · rw [occC_old hy, ih]
      by_cases hxl : x ∈ l
      · simp [hxl]
      · have : x ≠ y := fun e => hxl (e ▸ hy)
        simp [hxl, this]
    · rw [occC_new hy, sel_snoc, ih]
      by_cases e : y = x
      · subst e; simp [hy, key]
      · have : key (y, i) ≠ ixL' x := fun h => e (ix_inj h)
        have e' : x ≠ y := fun h => e h.symm
        simp [this, e']
  have h2 : ∀ k, sel (ixL' x) (occsTo C k) = (List.range k).filter fun i => (C.getD i []).contains x := by
    intro k
    induction k with
    | zero => rfl
    | succ k ih =>
      rw [occsTo_succ, List.range_succ, List.filter_append, ← ih]
      unfold sel
      rw [List.filter_append, List.map_append]
      congr 1
      have := h1 k (C.getD k [])
      unfold sel at this
      rw [this]
      by_cases h : x ∈ C.getD k [] <;> simp [List.filter_cons]
  exact h2 C.length
theorem occs_key {V : Nat} {C : List (List Int)} (hR : Ran V C) : ∀ x ∈ occs C, key x < 2 * V + 2 ∧ x.2 < C.length ∧ InR V x.1 := by
  intro x hx
  unfold occs occsTo at hx
  rw [List.mem_flatMap] at hx
  obtain ⟨i, hi, hx⟩ := hx
  rw [List.mem_range] at hi
  unfold occC at hx
  rw [List.mem_map] at hx
  obtain ⟨y, hy, rfl⟩ := hx
  have hc : C.getD i [] ∈ C := by rw [List.getD_eq_getElem?_getD, List.getElem?_eq_getElem hi]; exact List.getElem_mem hi
  have := hR _ hc y ((mem_uq _ y).1 hy)
  exact ⟨ix_lt this, hi, this⟩
/-- How many occurrences lie in a clause. -/
def cntC (i : Nat) (l : List Oc) : Nat := l.countP fun x => x.2 == i
theorem cntC_snoc (i : Nat) (l : List Oc) (x : Oc) : cntC i (l ++ [x]) = cntC i l + (if x.2 = i then 1 else 0) := by
  unfold cntC; rw [List.countP_append]; simp [List.countP_cons]
theorem cntC_occs {C : List (List Int)} {i : Nat} (hi : i < C.length) : cntC i (occs C) = (uq (C.getD i [])).length := by
  have h1 : ∀ k (l : List Int), cntC i (occC C k l) = if k = i then (uq l).length else 0 := by
    intro k l
    unfold cntC occC
    rw [List.countP_map]
    by_cases e : k = i
    · subst e; rw [if_pos rfl, List.countP_eq_length.2]; intro a _; simp
    · rw [if_neg e, List.countP_eq_zero]; intro a _; simpa using e
  have h2 : ∀ k, cntC i (occsTo C k) = if i < k then (uq (C.getD i [])).length else 0 := by
    intro k
    induction k with
    | zero => rfl
    | succ k ih =>
      have : cntC i (occsTo C k ++ occC C k (C.getD k [])) = cntC i (occsTo C k) + cntC i (occC C k (C.getD k [])) := by unfold cntC; rw [List.countP_append]
      rw [occsTo_succ, this, ih, h1]
      by_cases e : k = i
      · subst e; simp
      · by_cases h : i < k
        · simp [h, e, (by omega : i < k + 1)]
        · rw [if_neg h, if_neg e, if_neg (by omega)]
  unfold occs
  rw [h2, if_pos hi]
def OpnOk (n : Nat) (pre : List Oc) (o : List Int) : Prop := o.length = n ∧ ∀ i, i < n → at_ o i = (cntC i pre : Int)
theorem OpnOk.start (n : Nat) : OpnOk n [] (List.replicate n 0) := by
  have e : ∀ m, at_ (List.replicate n 0) m = 0 := fun m => by unfold at_; rw [List.getD_eq_getElem?_getD, List.getElem?_replicate]; split <;> rfl
  exact ⟨by simp, fun i _ => by rw [e]; rfl⟩
theorem OpnOk.step {n : Nat} {pre : List Oc} {o : List Int} (h : OpnOk n pre o) {x : Oc} (hx : x.2 < n) : OpnOk n (pre ++ [x]) (o.set x.2 (at_ o x.2 + 1)) := by
  refine ⟨by rw [List.length_set]; exact h.1, fun i hi => ?_⟩
  rw [at_set (by rw [h.1]; exact hx), cntC_snoc]
  by_cases e : i = x.2
  · subst e; rw [if_pos rfl, if_pos rfl, h.2 _ hx]; rfl
  · rw [if_neg e, if_neg (fun e2 => e e2.symm), h.2 i hi]; rfl
theorem OpnOk.done {C : List (List Int)} {o : List Int} (h : OpnOk C.length (occs C) o) : o = opnsP C [] := by
  refine ext_getD (by rw [h.1]; simp [opnsP]) fun j hj => ?_
  rw [h.1] at hj
  have := h.2 j hj
  unfold at_ at this
  rw [this, cntC_occs hj]
  unfold opnsP
  rw [getD_map hj]
  unfold opnN
  rw [List.countP_eq_length.2 (fun y _ => by simp [und])]
theorem occs_len {C : List (List Int)} (hL : ∀ c ∈ C, c.length ≤ 100) (k : Nat) (hk : k ≤ C.length) : (occsTo C k).length ≤ k * 100 := by
  induction k with
  | zero => simp [occsTo]
  | succ k ih =>
    rw [occsTo_succ, List.length_append]
    have hc : C.getD k [] ∈ C := by rw [List.getD_eq_getElem?_getD, List.getElem?_eq_getElem (by omega)]; exact List.getElem_mem _
    have h1 := hL _ hc
    have h2 : (uq (C.getD k [])).length ≤ (C.getD k []).length := by
      refine snoc_ind (P := fun l => (uq l).length ≤ l.length) (by simp [uq]) (fun l x ih => ?_) _
      rw [uq_snoc]; split <;> simp <;> omega
    have h3 : (occC C k (C.getD k [])).length = (uq (C.getD k [])).length := by unfold occC; simp
    have := ih (by omega)
    omega
end Go.Proofs.YtihaheinkpmnnaaGreat

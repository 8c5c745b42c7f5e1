/- The law of the shortest model. -/
import Derived.Test.YtbddpjofhddilaaSO
import Derived.Deep.RegionHeld3
namespace Go.Proofs.Ytbddpjofhddilaa
open Go.RowKit

/-- The first states. -/
theorem sts_take {w : World} {a : Option Addr} {c n : Nat} {L : List (List Rl)} (h : Sts w a c L) (hn : n ≤ L.length) : Sts w a c (L.take n) := by
  refine ⟨by rw [List.length_take]; have := h.1; omega, fun j l hj => ?_⟩
  rw [List.getElem?_take] at hj
  split at hj
  · exact h.2 j l hj
  · cases hj

theorem slice_pre {tb to k tc q : Nat} (h1 : q ≤ k) (h2 : k ≤ tc) : ∀ w, (Instr.slice 31 (.slice (some ⟨tb, to, none⟩) k tc) none (some (.int .i64 (q : Int))) none).run Try.prog w = .ok (.slice (some ⟨tb, to, none⟩) q tc) w := by
  intro w
  have a3 : (q : Int) ≤ (tc : Int) := by omega
  have a4 : q ≤ tc := by omega
  go_simp

set_option maxRecDepth 100000 in
set_option maxHeartbeats 20000000 in
theorem shortest_calls (hh : HeadSays) (us : List Int) (sa : Option Addr) (sc : Nat) (st : Int) (ta : Option Addr) (L : List (List Rl)) (tc : Nat) (lp : Int) (w : World) (hu : Ints w sa sc us) (hT : Sts w ta tc L) :
    Calls Try.prog 7 #[.agg #[.slice sa us.length sc, .int .i64 st, .slice ta L.length tc, .int .i64 lp]] w fun e w' => e = .returned (.bool true) ∧ w.grownBy w' none := by
  obtain ⟨n, hn⟩ : ∃ n, us.length = n := ⟨_, rfl⟩
  obtain ⟨k, hk⟩ : ∃ k, L.length = k := ⟨_, rfl⟩
  have HSM := Lib.hid (fun (W' : World) (hW' : w.grownBy W' none) => small_calls none none none none 0 0 0 0 0 0 0 [] sa us.length sc st ta L tc lp W' ⟨Nat.le_refl _, fun j f hj => by simp at hj⟩ (hT.grown hW'))
  simp only [List.length_nil] at HSM
  have HLO := Lib.hid (fun (W' : World) (sa : Option Addr) (n sc : Nat) (st : Int) (ta : Option Addr) (k tc : Nat) (lp : Int) => rLooped_calls sa n sc st ta k tc lp W')
  rw [hn, hk] at HSM
  rw [hn, hk]
  have HN := Lib.hid (And.intro hn (And.intro hk (And.intro hu hT))); clear hn hk hu hT
  have hg := World.grownBy_alloc w (.cells #[.slice sa n sc, .int .i64 st, .slice ta k tc, .int .i64 lp] 33) none
  have hc := four_cells w (.slice sa n sc) (.int .i64 st) (.slice ta k tc) (.int .i64 lp) 33
  obtain ⟨W, hW⟩ : ∃ W, w.alloc (.cells #[.slice sa n sc, .int .i64 st, .slice ta k tc, .int .i64 lp] 33) = W := ⟨_, rfl⟩
  rw [hW] at hg hc
  have HBX := Lib.hid (fun (W' : World) (g : W.grownBy W' none) => (⟨g.cell hc.1 (by simp), g.cell hc.2.1 (by simp), g.cell hc.2.2.1 (by simp), g.cell hc.2.2.2 (by simp)⟩ : Box W' w.heap.size sa n sc st ta k tc lp))
  clear hc
  have HG := Lib.hid hg; clear hg
  have HW := Lib.hid hW; clear hW
  go_enter Try.func7, Try.ntmps7
  go_wp2_with fail
  rw [HW.out]
  clear HW
  refine (hh W).mono ?_
  rintro e w0 ⟨rfl, g0⟩
  have HG0 := Lib.hid g0; clear g0
  obtain ⟨c0, c1, c2, c3⟩ := HBX.out w0 HG0.out
  go_wp2_with fail
  refine (HSM.out _ (HG.out.trans HG0.out)).mono ?_
  rintro e w1 ⟨rfl, g1⟩
  have HG1 := Lib.hid (HG0.out.trans g1); clear g1 c0 c1 c2 c3
  obtain ⟨c0, c1, c2, c3⟩ := HBX.out w1 HG1.out
  obtain ⟨B, hB⟩ : ∃ B, smallB 0 n [] L = B := ⟨_, rfl⟩
  rw [hB]
  cases B with
  | false =>
    clear hB
    go_wp2_with fail
    go_ret
    exact ⟨rfl, HG.out.trans HG1.out⟩
  | true =>
  have HF := Lib.hid (And.intro (smallB_iff.1 hB).1.2.2.2 (small_facts hB)); clear hB
  go_wp2_with fail
  refine (HLO.out _ _ _ _ _ _ _ _ _).mono ?_
  rintro e w2 ⟨rfl, g2⟩
  have HG2 := Lib.hid (HG1.out.trans g2); clear g2 c0 c1 c2 c3
  obtain ⟨c0, c1, c2, c3⟩ := HBX.out w2 HG2.out
  obtain ⟨B, hB⟩ : ∃ B, loopedB k lp = B := ⟨_, rfl⟩
  rw [hB]
  cases B with
  | false =>
    clear hB
    go_wp2_with fail
    go_ret
    exact ⟨rfl, HG.out.trans HG2.out⟩
  | true =>
  obtain ⟨hk1, hk64, hlp0, hlpk⟩ := loopedB_iff.1 hB
  have HB := Lib.hid hB; clear hB
  obtain ⟨p, rfl⟩ : ∃ p : Nat, lp = (p : Int) := ⟨lp.toNat, (Int.toNat_of_nonneg hlp0).symm⟩
  have HP : Hid (p < L.length) := Lib.hid (by rw [HN.out.2.1]; omega)
  have HU := Lib.hid (show us.length ≤ 100000 by have := HN.out.1; have := HF.out.1; omega)
  have HSH := Lib.hid (fun (W' : World) (g : W.grownBy W' none) => by
    have gg := HG.out.trans g
    have h := shorten_calls us sa sc st ta L tc p W' (HN.out.2.2.1.grown gg).weak (HN.out.2.2.2.grown gg) HU.out HP.out HF.out.2.1 HF.out.2.2
    rw [HN.out.1, HN.out.2.1] at h
    exact h)
  obtain ⟨N, hNN⟩ : ∃ N, shLoop L p + shPer L p = N := ⟨_, rfl⟩
  obtain ⟨l, hll⟩ : ∃ l, shLoop L p = l := ⟨_, rfl⟩
  obtain ⟨M, hMM⟩ : ∃ M, shSts L p = M := ⟨_, rfl⟩
  have hml : M.length = N := by rw [← hMM, sh_len, hNN]
  rw [hNN, hll, hMM, hml] at HSH
  have hNk : N ≤ k := by have := sh_len_le HP.out; rw [hMM, hml, HN.out.2.1] at this; exact this
  have hlN : l < N := by have := (sh_per_le HP.out).1; omega
  have HM := Lib.hid (And.intro hMM (And.intro hml (And.intro hll hNN)))
  have HMS : Hid (∀ r ∈ M, r.length ≤ 10 ∧ ∀ x ∈ r, x.2.length ≤ 200) := Lib.hid (by rw [← hMM]; exact sh_sts_small HP.out HF.out.2.2)
  clear hNN hll hMM hml
  go_wp2_with fail
  refine (HSH.out _ HG2.out).mono ?_
  rintro e w3 ⟨a1, q1, a2, q2, rfl, hsp, g3⟩
  have HSP := Lib.hid hsp.here; clear hsp
  obtain ⟨m0, hm0⟩ : ∃ m0, M[0]? = some m0 := ⟨_, List.getElem?_eq_getElem (by rw [HM.out.2.1]; omega)⟩
  obtain ⟨mb, mo, rfl, _⟩ := HSP.out.2.2 0 m0 hm0
  clear hm0
  have HG3 := Lib.hid (HG2.out.trans g3); clear g3 c0 c1 c2 c3
  have hgs := World.grownBy_alloc w3 (.cells #[.slice a1 n q1, .int .i64 N, .slice (some ⟨mb, mo, none⟩) N q2, .int .i64 l] 33) none
  have hcs := four_cells w3 (.slice a1 n q1) (.int .i64 N) (.slice (some ⟨mb, mo, none⟩) N q2) (.int .i64 l) 33
  obtain ⟨V, hV⟩ : ∃ V, w3.alloc (.cells #[.slice a1 n q1, .int .i64 N, .slice (some ⟨mb, mo, none⟩) N q2, .int .i64 l] 33) = V := ⟨_, rfl⟩
  rw [hV] at hgs hcs
  have HGV := Lib.hid (HG3.out.trans hgs)
  have HSV := Lib.hid (And.intro (HSP.out.1.grown hgs) (HSP.out.2.grown hgs)); clear hgs
  have HBS := Lib.hid (fun (W' : World) (g : V.grownBy W' none) => (⟨g.cell hcs.1 (by simp), g.cell hcs.2.1 (by simp), g.cell hcs.2.2.1 (by simp), g.cell hcs.2.2.2 (by simp)⟩ : Box W' w3.heap.size a1 n q1 N (some ⟨mb, mo, none⟩) N q2 l))
  clear hcs
  have hlo2 : loopedB N (l : Int) = true := loopedB_iff.2 (by omega)
  have HLS := Lib.hid (fun (W' : World) => rLooped_calls a1 n q1 N (some ⟨mb, mo, none⟩) N q2 l W')
  rw [hlo2] at HLS
  have hlM : l < M.length := by rw [HM.out.2.1]; exact hlN
  have hid := sh_idem HP.out
  rw [HM.out.1, HM.out.2.2.1] at hid
  have htr : ∀ t, trL M l t = trL L p t := by
    intro t
    have := sh_trace HP.out t
    rw [HM.out.1, HM.out.2.2.1] at this
    exact this
  have hNi : shLoop M l + shPer M l = N := by rw [← sh_len, hid.1, HM.out.2.1]
  have HST := Lib.hid (fun (W' : World) (g : V.grownBy W' none) => by
    have gg := HG.out.trans (HGV.out.trans g)
    have h := sameTrace_calls us us sa a1 sc q1 st N p l L M ta (some ⟨mb, mo, none⟩) tc q2 W' (HN.out.2.2.1.grown gg).weak (HSV.out.1.grown g).weak (HN.out.2.2.2.grown gg) (HSV.out.2.grown g) (by have := HU.out; omega) (small_lens (by rw [HN.out.2.1]; exact hk64) HF.out.2.2) (by rw [HN.out.2.1]; exact HB.out) (by rw [HM.out.2.1]; exact hlo2)
    rw [show (decide (us = us) && agreeTo L M p l (timesN L.length M.length p l)) = true from (sameB_iff HP.out hlM).2 ⟨rfl, fun t => (htr t).symm⟩, HN.out.1, HN.out.2.1, HM.out.2.1] at h
    exact h)
  have HS2 := Lib.hid (fun (W' : World) (g : V.grownBy W' none) => by
    have h := shorten_calls us a1 q1 N (some ⟨mb, mo, none⟩) M q2 l W' (HSV.out.1.grown g).weak (HSV.out.2.grown g) HU.out hlM (by rw [HM.out.2.1]; omega) HMS.out
    rw [hNi, hid.1, hid.2, HN.out.1, HM.out.2.1] at h
    exact h)
  have HRE := Lib.hid (fun (x z : Option Addr) (c d : Nat) (W' : World) (g : V.grownBy W' none) (hx : Ints W' x c us) (hz : Sts W' z d M) => by
    have h := rEqual_calls us us x a1 c q1 N N l l M M z (some ⟨mb, mo, none⟩) d q2 W' hx.weak (HSV.out.1.grown g).weak hz (HSV.out.2.grown g) (by have := HU.out; omega) (small_lens (by rw [HM.out.2.1]; omega) HMS.out)
    rw [show modelEq us us (N : Int) N l l M M = true from by simp [modelEq], HN.out.1, HM.out.2.1] at h
    exact h)
  have HSC := Lib.hid (fun (i j : Nat) (W' : World) (g : V.grownBy W' none) (hi : i < N) (hj : j < i) => by
    have gg := HG.out.trans (HGV.out.trans g)
    have htl : (M.take i).length = i := by rw [List.length_take, HM.out.2.1]; omega
    have h := sameTrace_calls us us a1 sa q1 sc i st j p (M.take i) L (some ⟨mb, mo, none⟩) ta q2 tc W' (HSV.out.1.grown g).weak (HN.out.2.2.1.grown gg).weak (sts_take (HSV.out.2.grown g) (by rw [HM.out.2.1]; omega)) (HN.out.2.2.2.grown gg) (by have := HU.out; omega) (small_lens (by rw [htl]; omega) (fun r hr => HMS.out r (List.mem_of_mem_take hr))) (by rw [htl]; exact loopedB_iff.2 (by omega)) (by rw [HN.out.2.1]; exact HB.out)
    rw [show (decide (us = us) && agreeTo (M.take i) L j p (timesN (M.take i).length L.length j p)) = false from sh_none HP.out (by rw [htl]; exact hj) (by rw [htl, HM.out.1, HM.out.2.1]; exact hi), HN.out.1, HN.out.2.1, htl] at h
    exact h)
  clear htr hNi hid hlM
  obtain ⟨c0, c1, c2, c3⟩ := HBX.out V HGV.out
  obtain ⟨d0, d1, d2, d3⟩ := HBS.out V (grown_refl _ _)
  have f0 : decide ((k : Int) < (N : Int)) = false := decide_eq_false (by omega)
  have f1 : decide (k < N) = false := decide_eq_false (by omega)
  have f2 : ((N : Int) != (N : Int)) = false := by simp
  go_wp2_with fail
  clear hV
  go_region_held3 (fun w' : World => V.grownBy w' none ∧ w'.cell? ⟨w.heap.size, 0, none⟩ = some (.slice sa n sc) ∧ w'.cell? ⟨w.heap.size, 1, none⟩ = some (.int .i64 st) ∧ w'.cell? ⟨w.heap.size, 2, none⟩ = some (.slice ta k tc) ∧ w'.cell? ⟨w.heap.size, 3, none⟩ = some (.int .i64 p) ∧ w'.cell? ⟨w3.heap.size, 0, none⟩ = some (.slice a1 n q1) ∧ w'.cell? ⟨w3.heap.size, 1, none⟩ = some (.int .i64 N) ∧ w'.cell? ⟨w3.heap.size, 2, none⟩ = some (.slice (some ⟨mb, mo, none⟩) N q2) ∧ w'.cell? ⟨w3.heap.size, 3, none⟩ = some (.int .i64 l))
    (first | exact ⟨⟨rfl, rfl, rfl, Nat.le_refl _, fun _ _ _ => rfl⟩, c0, c1, c2, c3, d0, d1, d2, d3⟩ | (go_split_ands; exact held_nextE g3 (by assumption) (by assumption) (by assumption) (by assumption) (by assumption) (by assumption) (by assumption) (by assumption) (by assumption)) | assumption | fail)
    (first | (go_at_call 22; with_reducible refine (HLS.out _).mono ?_; rintro e u1 ⟨rfl, g3⟩) | (go_at_call 28; with_reducible refine (HST.out _ ?_).mono ?_; (go_split_ands; assumption); rintro e u2 ⟨rfl, g3⟩) | (go_at_call 30; with_reducible refine (HS2.out _ ?_).mono ?_; (go_split_ands; assumption); rintro e u3 ⟨x1, y1, x2, y2, rfl, hsp, g3⟩; have hin := hsp.here) | (go_at_call 21; with_reducible refine (HRE.out _ _ _ _ _ ?_ hin.1 hin.2).mono ?_; (go_split_ands; assumption); rintro e u4 ⟨rfl, g3⟩) | fail)
  all_goals
    have h4 : V.grownBy u4 none := by go_split_ands; assumption
    have HG4 := Lib.hid h4; clear h4 c0 c1 c2 c3 d0 d1 d2 d3 f0 f1 f2
    obtain ⟨c0, c1, c2, c3⟩ := HBX.out u4 (HGV.out.trans HG4.out)
    obtain ⟨d0, d1, d2, d3⟩ := HBS.out u4 HG4.out
    go_wp2_with fail
    clear c0 c1 c2 c3 d0 d1 d2 d3
    go_loopg [5] (N - 1) (fun g s5 wr => ∃ i : Nat, s5 = .int .i64 (i : Int) ∧ g = N - i ∧ 1 ≤ i ∧ i ≤ N ∧ V.grownBy wr none)
    case atStart => exact ⟨1, rfl, rfl, Nat.le_refl _, by omega, HG4.out⟩
    case round =>
      obtain ⟨i, rfl, hgi, hi1, hi, hgr⟩ := hrel
      have HI := Lib.hid (And.intro hgi hgr); clear hgi
      obtain ⟨c0, c1, c2, c3⟩ := HBX.out wr (HGV.out.trans hgr)
      obtain ⟨d0, d1, d2, d3⟩ := HBS.out wr hgr
      clear hgr
      by_cases hin : i < N
      · have hinB : decide (i < N) = true := by simpa using hin
        go_wp2_with fail
        clear c0 c1 c2 c3 d0 d1 d2 d3
        go_loopg [6] i (fun g s6 wr => ∃ j : Nat, s6 = .int .i64 (j : Int) ∧ g = i - j ∧ j ≤ i ∧ V.grownBy wr none)
        case atStart => exact ⟨0, rfl, rfl, Nat.zero_le _, HI.out.2⟩
        case round =>
          obtain ⟨j, rfl, hgj, hj, hgr⟩ := hrel
          have HJ := Lib.hid (And.intro hgj hgr); clear hgj
          obtain ⟨c0, c1, c2, c3⟩ := HBX.out wr (HGV.out.trans hgr)
          obtain ⟨d0, d1, d2, d3⟩ := HBS.out wr hgr
          clear hgr
          by_cases hjn : j < i
          · have hjB : decide (j < i) = true := by simpa using hjn
            have hiI : (i : Int) ≤ (q2 : Int) := by have := HSV.out.2.1; rw [HM.out.2.1] at this; omega
            have hsl := slice_pre (tb := mb) (to := mo) (k := N) (tc := q2) (q := i) (by omega) (by have := HSV.out.2.1; rw [HM.out.2.1] at this; exact this)
            go_wp2_with fail
            have HS := Lib.hid (fun (W : World) (hW : wr.grownBy W none) => (⟨hW, hW.cell c0 (by simp), hW.cell c1 (by simp), hW.cell c2 (by simp), hW.cell c3 (by simp), hW.cell d0 (by simp), hW.cell d1 (by simp), hW.cell d2 (by simp), hW.cell d3 (by simp)⟩ : (fun W : World => wr.grownBy W none ∧ W.cell? ⟨w.heap.size, 0, none⟩ = some (.slice sa n sc) ∧ W.cell? ⟨w.heap.size, 1, none⟩ = some (.int .i64 st) ∧ W.cell? ⟨w.heap.size, 2, none⟩ = some (.slice ta k tc) ∧ W.cell? ⟨w.heap.size, 3, none⟩ = some (.int .i64 p) ∧ W.cell? ⟨w3.heap.size, 0, none⟩ = some (.slice a1 n q1) ∧ W.cell? ⟨w3.heap.size, 1, none⟩ = some (.int .i64 N) ∧ W.cell? ⟨w3.heap.size, 2, none⟩ = some (.slice (some ⟨mb, mo, none⟩) N q2) ∧ W.cell? ⟨w3.heap.size, 3, none⟩ = some (.int .i64 l)) W))
            clear c0 c1 c2 c3 d0 d1 d2 d3
            have hdr : wr.grownBy wr.drew none := ⟨rfl, rfl, rfl, Nat.le_refl _, fun _ _ _ => rfl⟩
            refine wp_region_held_drew (S := (fun W : World => wr.grownBy W none ∧ W.cell? ⟨w.heap.size, 0, none⟩ = some (.slice sa n sc) ∧ W.cell? ⟨w.heap.size, 1, none⟩ = some (.int .i64 st) ∧ W.cell? ⟨w.heap.size, 2, none⟩ = some (.slice ta k tc) ∧ W.cell? ⟨w.heap.size, 3, none⟩ = some (.int .i64 p) ∧ W.cell? ⟨w3.heap.size, 0, none⟩ = some (.slice a1 n q1) ∧ W.cell? ⟨w3.heap.size, 1, none⟩ = some (.int .i64 N) ∧ W.cell? ⟨w3.heap.size, 2, none⟩ = some (.slice (some ⟨mb, mo, none⟩) N q2) ∧ W.cell? ⟨w3.heap.size, 3, none⟩ = some (.int .i64 l))) (by kernel_rfl) (HS.out _ hdr) (fun hHeld => ?_)
            refine wpAnyH_take (i := 0) (oi := { dst := some 67, op := Op.fieldAddr 33 (Operand.tmp 4) 0, type := 0, pos := "law.go:124", after := #[], guard := none }) (v := ?_) rfl (by kernel_rfl) (by kernel_rfl) (by kernel_rfl) (fun _ _ _ h => h) (Or.inl ⟨by rfl, ?_⟩) (by assumption) ?_
            rotate_left 1
            · (intro W hSW; (try dsimp only at hSW); first | (go_simp; done) | (go_simp; with_reducible rfl))
            try simp only [Act.put, List.setIfInBounds_toArray, List.set_cons_zero, List.set_cons_succ]
            refine wpAnyH_take (i := 1) (oi := { dst := some 68, op := Op.load 30 (Operand.tmp 67), type := 30, pos := "law.go:124", after := #[{ on := 0, ground := Ground.data }], guard := none }) (v := ?_) rfl (by kernel_rfl) (by kernel_rfl) (by kernel_rfl) (fun _ _ _ h => h) (Or.inl ⟨by rfl, ?_⟩) (by assumption) ?_
            rotate_left 1
            · (intro W hSW; (try dsimp only at hSW); first | (go_simp; done) | (go_simp; with_reducible rfl))
            try simp only [Act.put, List.setIfInBounds_toArray, List.set_cons_zero, List.set_cons_succ]
            refine wpAnyH_take (i := 2) (oi := { dst := some 69, op := Op.fieldAddr 33 (Operand.tmp 4) 1, type := 0, pos := "law.go:124", after := #[], guard := none }) (v := ?_) rfl (by kernel_rfl) (by kernel_rfl) (by kernel_rfl) (fun _ _ _ h => h) (Or.inl ⟨by rfl, ?_⟩) (by assumption) ?_
            rotate_left 1
            · (intro W hSW; (try dsimp only at hSW); first | (go_simp; done) | (go_simp; with_reducible rfl))
            try simp only [Act.put, List.setIfInBounds_toArray, List.set_cons_zero, List.set_cons_succ]
            refine wpAnyH_take (i := 3) (oi := { dst := some 70, op := Op.load 31 (Operand.tmp 69), type := 31, pos := "law.go:124", after := #[{ on := 2, ground := Ground.data }], guard := none }) (v := ?_) rfl (by kernel_rfl) (by kernel_rfl) (by kernel_rfl) (fun _ _ _ h => h) (Or.inl ⟨by rfl, ?_⟩) (by assumption) ?_
            rotate_left 1
            · (intro W hSW; (try dsimp only at hSW); first | (go_simp; done) | (go_simp; with_reducible rfl))
            try simp only [Act.put, List.setIfInBounds_toArray, List.set_cons_zero, List.set_cons_succ]
            refine wpAnyH_take (i := 4) (oi := { dst := some 71, op := Op.move (Operand.tmp 5), type := 3, pos := "law.go:124", after := #[], guard := none }) (v := ?_) rfl (by kernel_rfl) (by kernel_rfl) (by kernel_rfl) (fun _ _ _ h => h) (Or.inl ⟨by rfl, ?_⟩) (by assumption) ?_
            rotate_left 1
            · (intro W hSW; (try dsimp only at hSW); first | (go_simp; done) | (go_simp; with_reducible rfl))
            try simp only [Act.put, List.setIfInBounds_toArray, List.set_cons_zero, List.set_cons_succ]
            refine wpAnyH_take (i := 5) (oi := { dst := some 72, op := Op.slice 31 (Operand.tmp 70) none (some (Operand.tmp 71)) none, type := 31, pos := "law.go:124", after := #[{ on := 3, ground := Ground.data }, { on := 4, ground := Ground.data }], guard := none }) (v := ?_) rfl (by kernel_rfl) (by kernel_rfl) (by kernel_rfl) (fun _ _ _ h => h) (Or.inl ⟨by rfl, ?_⟩) (by assumption) ?_
            rotate_left 1
            · (intro W hSW; (try dsimp only at hSW); first | (go_simp; done) | (go_simp; with_reducible rfl))
            try simp only [Act.put, List.setIfInBounds_toArray, List.set_cons_zero, List.set_cons_succ]
            refine wpAnyH_take (i := 6) (oi := { dst := some 73, op := Op.move (Operand.tmp 6), type := 3, pos := "law.go:124", after := #[], guard := none }) (v := ?_) rfl (by kernel_rfl) (by kernel_rfl) (by kernel_rfl) (fun _ _ _ h => h) (Or.inl ⟨by rfl, ?_⟩) (by assumption) ?_
            rotate_left 1
            · (intro W hSW; (try dsimp only at hSW); first | (go_simp; done) | (go_simp; with_reducible rfl))
            try simp only [Act.put, List.setIfInBounds_toArray, List.set_cons_zero, List.set_cons_succ]
            refine wpAnyH_take (i := 7) (oi := { dst := some 74, op := Op.build 33 #[(0, Operand.tmp 68), (1, Operand.tmp 72), (2, Operand.tmp 73)], type := 33, pos := "law.go:124", after := #[{ on := 1, ground := Ground.data }, { on := 5, ground := Ground.data }, { on := 6, ground := Ground.data }], guard := none }) (v := ?_) rfl (by kernel_rfl) (by kernel_rfl) (by kernel_rfl) (fun _ _ _ h => h) (Or.inl ⟨by rfl, ?_⟩) (by assumption) ?_
            rotate_left 1
            · (intro W hSW; (try dsimp only at hSW); first | (go_simp; done) | (go_simp; with_reducible rfl))
            try simp only [Act.put, List.setIfInBounds_toArray, List.set_cons_zero, List.set_cons_succ]
            refine wpAnyH_ready (rs := [8]) (by kernel_rfl) (by simp) ?_
            refine AllReadyH.cons (o := { dst := some 7, op := Op.alloc 33, type := 0, pos := "law.go:124", after := #[], guard := none }) rfl (fun K hK => ?_) AllReadyH.nil
            rw [if_pos (by rfl)]
            go_simp
            refine hK.out _ _ (HS.out _ (World.grownBy.trans hdr (World.grownBy_alloc _ _ none))) (fun hHeld => ?_)
            clear hK K
            try simp only [Act.put, List.setIfInBounds_toArray, List.set_cons_zero, List.set_cons_succ]
            refine wpAnyH_ready (rs := [9]) (by kernel_rfl) (by simp) ?_
            refine AllReadyH.cons (o := { dst := none, op := Op.store 33 (Operand.tmp 7) (Operand.tmp 74), type := 0, pos := "law.go:124", after := #[{ on := 8, ground := Ground.data }, { on := 7, ground := Ground.data }, { on := 0, ground := Ground.phase }, { on := 1, ground := Ground.phase }, { on := 2, ground := Ground.phase }, { on := 3, ground := Ground.phase }, { on := 4, ground := Ground.phase }, { on := 5, ground := Ground.phase }, { on := 6, ground := Ground.phase }, { on := 7, ground := Ground.phase }, { on := 8, ground := Ground.phase }], guard := none }) rfl (fun K hK => ?_) AllReadyH.nil
            rw [if_pos (by rfl)]
            go_simp
            refine hK.out _ _ (HS.out _ (World.grownBy.trans hdr (World.grownBy_alloc _ _ none))) (fun hHeld => ?_)
            clear hK K
            try simp only [Act.put, List.setIfInBounds_toArray, List.set_cons_zero, List.set_cons_succ]
            refine wpAnyH_done (by kernel_rfl) ?_ _
            have hEND := hdr
            clear hHeld
            clear hEND hdr
            have hgx : wr.grownBy (wr.alloc (.cells #[.slice a1 n q1, .int .i64 i, .slice (some ⟨mb, mo, none⟩) i q2, .int .i64 j] 33)).drew none := (World.grownBy_alloc wr (.cells #[.slice a1 n q1, .int .i64 i, .slice (some ⟨mb, mo, none⟩) i q2, .int .i64 j] 33) none).trans ⟨rfl, rfl, rfl, Nat.le_refl _, fun _ _ _ => rfl⟩
            have hcx := four_cells wr (.slice a1 n q1) (.int .i64 i) (.slice (some ⟨mb, mo, none⟩) i q2) (.int .i64 j) 33
            obtain ⟨X, hX⟩ : ∃ X, (wr.alloc (.cells #[.slice a1 n q1, .int .i64 i, .slice (some ⟨mb, mo, none⟩) i q2, .int .i64 j] 33)).drew = X := ⟨_, rfl⟩
            have e0 : X.cell? ⟨wr.heap.size, 0, none⟩ = some (.slice a1 n q1) := by rw [← hX]; exact hcx.1
            have e1 : X.cell? ⟨wr.heap.size, 1, none⟩ = some (.int .i64 i) := by rw [← hX]; exact hcx.2.1
            have e2 : X.cell? ⟨wr.heap.size, 2, none⟩ = some (.slice (some ⟨mb, mo, none⟩) i q2) := by rw [← hX]; exact hcx.2.2.1
            have e3 : X.cell? ⟨wr.heap.size, 3, none⟩ = some (.int .i64 j) := by rw [← hX]; exact hcx.2.2.2
            rw [hX] at hgx
            clear hcx
            have HX := Lib.hid (HJ.out.2.trans hgx); clear hgx
            obtain ⟨c0, c1, c2, c3⟩ := HBX.out X (HGV.out.trans HX.out)
            go_wp2_with fail
            clear hX
            refine (HSC.out i j X HX.out hin hjn).mono ?_
            rintro e x1 ⟨rfl, gx⟩
            have HX1 := Lib.hid (HX.out.trans gx); clear gx
            go_wp2_with fail
            go_roundg (i - (j + 1))
            case measure => rw [HJ.out.1]; omega
            case rel => exact ⟨j + 1, rfl, rfl, by omega, HX1.out⟩
          · have hje : j = i := by omega
            subst hje
            have hjB : decide (j < j) = false := by simp
            go_wp2_with fail
            go_roundg (N - (j + 1))
            case measure => rw [HI.out.1]; omega
            case rel => exact ⟨j + 1, rfl, rfl, by omega, by omega, HJ.out.2⟩
      · have hie : i = N := by omega
        subst hie
        have hinB : decide (i < i) = false := by simp
        go_wp2_with fail
        go_ret
        exact ⟨rfl, HG.out.trans (HGV.out.trans HI.out.2)⟩
end Go.Proofs.Ytbddpjofhddilaa

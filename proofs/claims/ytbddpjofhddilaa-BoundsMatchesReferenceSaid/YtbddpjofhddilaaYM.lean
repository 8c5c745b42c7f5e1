/- The law of the reference: bounds. -/
import Derived.Test.YtbddpjofhddilaaYG
import Derived.Test.YtbddpjofhddilaaYH
import Derived.Test.YtbddpjofhddilaaYK
import Derived.Test.YtbddpjofhddilaaYL
namespace Go.Proofs.Ytbddpjofhddilaa
open Go.RowKit

theorem meetR_few {A B : List Bd} (hl : A.length ≤ 10) (hA : ∀ x ∈ A, x.1.2.length ≤ 2000 ∧ x.2.2.length ≤ 2000) (hB : ∀ x ∈ B, x.1.2.length ≤ 2000 ∧ x.2.2.length ≤ 2000) : (meetR A B).1.length ≤ 10 ∧ ∀ x ∈ (meetR A B).1, x.1.2.length ≤ 100000 ∧ x.2.2.length ≤ 100000 := by
  rw [meetR]
  split
  · split
    · refine ⟨by rw [List.length_zipWith]; exact Nat.le_trans (Nat.min_le_left _ _) hl, fun m hm => ?_⟩
      obtain ⟨j, hj⟩ := List.getElem?_of_mem hm
      obtain ⟨x, y, hx, hy, rfl⟩ := zip_at hj
      have h1 := hA x (List.mem_of_getElem? hx)
      have h2 := hB y (List.mem_of_getElem? hy)
      exact mlen_X (by omega) (by omega)
    · exact ⟨Nat.zero_le _, fun x hx => by cases hx⟩
  · exact ⟨Nat.zero_le _, fun x hx => by cases hx⟩
theorem freeTo_few {A : List Bd} (h : ∀ x ∈ A, x.1.2.length ≤ 2000 ∧ x.2.2.length ≤ 2000) : ∀ n, (freeTo A n).length ≤ n * 4000
  | 0 => by simp [freeTo]
  | n + 1 => by
    have ih := freeTo_few h n
    rw [Nat.succ_mul]
    cases hx : A[n]? with
    | none => rw [freeTo, hx, List.append_nil]; exact Nat.le_trans ih (Nat.le_add_right _ _)
    | some x =>
      rw [freeTo_succ hx, List.length_append, freeX, List.length_map]
      have h1 := h x (List.mem_of_getElem? hx)
      exact Nat.add_le_add ih (Nat.le_trans (merge_len (fun x y => x && !y) x.2.2 x.1.2) (by omega))
theorem few_parts {A : List Bd} {L : List (List Rl)} (h : fewB A L = true) : A.length ≤ 10 ∧ L.length ≤ 10 ∧ (∀ x ∈ A, x.1.2.length ≤ 2000 ∧ x.2.2.length ≤ 2000) ∧ ∀ l ∈ L, ∀ r ∈ l, r.2.length ≤ 100000 := by
  obtain ⟨⟨h1, h2⟩, h3, h4⟩ := fewB_iff.1 h
  refine ⟨h1, h2, fun x hx => ?_, fun l hl r hr => ?_⟩
  · have h := List.all_eq_true.1 h3 x hx
    rw [fewX, Bool.and_eq_true, decide_eq_true_eq, decide_eq_true_eq] at h
    exact h
  · have h := List.all_eq_true.1 h4 l hl
    rw [fewS, Bool.and_eq_true, List.all_eq_true] at h
    have := of_decide_eq_true (h.2 r hr)
    omega
theorem rise_parts {A : List Bd} {L : List (List Rl)} (h : riseB A L = true) : ∀ x ∈ A, Up x.1.2 ∧ Up x.2.2 := fun x hx => by
  rw [riseB, Bool.and_eq_true] at h
  have h1 := List.all_eq_true.1 h.1 x hx
  rw [riseX, Bool.and_eq_true, upB_iff, upB_iff] at h1
  exact ⟨h1.1.1, h1.2.1⟩
/-- The boxes of the law's specification, scope and model. -/
structure Bx10 (g : Nat) (p0 p1 p2 p3 q0 q1 r0 r1 r2 r3 : Value) (U : World) : Prop where
  c0 : U.cell? ⟨g, 0, none⟩ = some p0
  c1 : U.cell? ⟨g, 1, none⟩ = some p1
  c2 : U.cell? ⟨g, 2, none⟩ = some p2
  c3 : U.cell? ⟨g, 3, none⟩ = some p3
  d0 : U.cell? ⟨g + 1, 0, none⟩ = some q0
  d1 : U.cell? ⟨g + 1, 1, none⟩ = some q1
  e0 : U.cell? ⟨g + 1 + 1, 0, none⟩ = some r0
  e1 : U.cell? ⟨g + 1 + 1, 1, none⟩ = some r1
  e2 : U.cell? ⟨g + 1 + 1, 2, none⟩ = some r2
  e3 : U.cell? ⟨g + 1 + 1, 3, none⟩ = some r3
theorem Bx10.grown {g : Nat} {p0 p1 p2 p3 q0 q1 r0 r1 r2 r3 : Value} {U U' : World} (h : Bx10 g p0 p1 p2 p3 q0 q1 r0 r1 r2 r3 U) (hg : U.grownBy U' none) : Bx10 g p0 p1 p2 p3 q0 q1 r0 r1 r2 r3 U' :=
  ⟨hg.cell h.c0 (by simp), hg.cell h.c1 (by simp), hg.cell h.c2 (by simp), hg.cell h.c3 (by simp), hg.cell h.d0 (by simp), hg.cell h.d1 (by simp), hg.cell h.e0 (by simp), hg.cell h.e1 (by simp), hg.cell h.e2 (by simp), hg.cell h.e3 (by simp)⟩
theorem Bx10.new (w : World) (p0 p1 p2 p3 q0 q1 r0 r1 r2 r3 : Value) : Bx10 w.heap.size p0 p1 p2 p3 q0 q1 r0 r1 r2 r3 (((w.alloc (.cells #[p0, p1, p2, p3] 27)).alloc (.cells #[q0, q1] 30)).alloc (.cells #[r0, r1, r2, r3] 33)) ∧ w.grownBy (((w.alloc (.cells #[p0, p1, p2, p3] 27)).alloc (.cells #[q0, q1] 30)).alloc (.cells #[r0, r1, r2, r3] 33)) none := by
  have h := Bx9.new w p0 p1 p2 p3 q0 q1
  have g := World.grownBy_alloc ((w.alloc (.cells #[p0, p1, p2, p3] 27)).alloc (.cells #[q0, q1] 30)) (.cells #[r0, r1, r2, r3] 33) none
  have k := h.1.grown g
  exact ⟨⟨k.c0, k.c1, k.c2, k.c3, k.d0, k.d1, by go_simp, by go_simp, by go_simp, by go_simp⟩, h.2.trans g⟩

set_option maxRecDepth 100000 in
set_option maxHeartbeats 16000000 in
theorem matches9_calls (hh : HeadSays9) (s1 : Option Addr) (ns c1 : Nat) (F : List Fd) (fa : Option Addr) (fc : Nat) (s3 : Option Addr) (n3 q3 : Nat) (s4 : Option Addr) (n4 q4 : Nat) (us : List Int) (sa : Option Addr) (sc : Nat) (st : Int)
    (A : List Bd) (aa : Option Addr) (ac : Nat) (B : List Bd) (ba : Option Addr) (bc : Nat) (ma : Option Addr) (mc mn : Nat) (ms : Int) (L : List (List Rl)) (ta : Option Addr) (tc : Nat) (lp : Int) (w : World)
    (hF : Fields w fa fc F) (hFl : (F.length : Int) ≤ 9223372036854775807) (hu : Ints w sa sc us) (hul : (us.length : Int) ≤ 9223372036854775807) (hA : Bds w aa ac A) (hB : Bds w ba bc B) (hT : Sts w ta tc L) :
    Calls Try.prog 10 #[.agg #[.slice s1 ns c1, .slice fa F.length fc, .slice s3 n3 q3, .slice s4 n4 q4], .agg #[.slice sa us.length sc, .int .i64 st], .slice aa A.length ac, .slice ba B.length bc, .agg #[.slice ma mn mc, .int .i64 ms, .slice ta L.length tc, .int .i64 lp]] w fun e w' => e = .returned (.bool true) ∧ w.grownBy w' none := by
  obtain ⟨n, hn⟩ : ∃ n, us.length = n := ⟨_, rfl⟩
  obtain ⟨f, hf⟩ : ∃ k, F.length = k := ⟨_, rfl⟩
  obtain ⟨an, han⟩ : ∃ k, A.length = k := ⟨_, rfl⟩
  obtain ⟨bn, hbn⟩ : ∃ k, B.length = k := ⟨_, rfl⟩
  obtain ⟨ln, hln⟩ : ∃ k, L.length = k := ⟨_, rfl⟩
  have HFI := Lib.hid (fun (U : World) (g : w.grownBy U none) => fitsS_calls s1 fa s3 s4 ns c1 fc n3 q3 n4 q4 F us sa sc st U (hF.grown g) (hu.grown g) hul hFl)
  rw [hn, hf] at HFI
  have HFA := Lib.hid (fun (U : World) (g : w.grownBy U none) => few_calls A aa ac ma mn mc ms L ta tc lp U (hA.grown g) (hT.grown g))
  have HFB := Lib.hid (fun (U : World) (g : w.grownBy U none) => few_calls B ba bc ma mn mc ms L ta tc lp U (hB.grown g) (hT.grown g))
  rw [han, hln] at HFA
  rw [hbn, hln] at HFB
  have HBN := Lib.hid (Bx10.new w (.slice s1 ns c1) (.slice fa f fc) (.slice s3 n3 q3) (.slice s4 n4 q4) (.slice sa n sc) (.int .i64 st) (.slice ma mn mc) (.int .i64 ms) (.slice ta ln tc) (.int .i64 lp))
  have HN := Lib.hid (And.intro hn (And.intro hf (And.intro hF (And.intro hu (And.intro hA (And.intro hB hT))))))
  have HL := Lib.hid (And.intro han (And.intro hbn hln))
  rw [hn, hf, han, hbn, hln]
  clear hn hf hF hu hFl hul hA hB hT han hbn hln
  obtain ⟨W, hW⟩ : ∃ W, ((w.alloc (.cells #[.slice s1 ns c1, .slice fa f fc, .slice s3 n3 q3, .slice s4 n4 q4] 27)).alloc (.cells #[.slice sa n sc, .int .i64 st] 30)).alloc (.cells #[.slice ma mn mc, .int .i64 ms, .slice ta ln tc, .int .i64 lp] 33) = W := ⟨_, rfl⟩
  rw [hW] at HBN
  obtain ⟨g0, hg0⟩ : ∃ g, w.heap.size = g := ⟨_, rfl⟩
  have HW := Lib.hid (And.intro hW hg0)
  rw [hg0] at HBN
  clear hW
  go_enter Try.func10, Try.ntmps10
  go_wp2_with fail
  rw [HW.out.1]
  clear hg0
  refine (hh W).mono ?_
  rintro e w0 ⟨rfl, gh⟩
  have HG := Lib.hid (HBN.out.2.trans gh)
  have HB := Lib.hid (HBN.out.1.grown gh)
  clear gh HBN HW
  have hbx := HB.out
  obtain ⟨a0, a1, a2, a3, b0, b1, m0, m1, m2, m3⟩ := hbx
  go_wp2_with fail
  clear a0 a1 a2 a3 b0 b1 m0 m1 m2 m3
  refine (HFI.out w0 HG.out).mono ?_
  rintro e w1 ⟨rfl, gh⟩
  replace HB := Lib.hid (HB.out.grown gh)
  replace HG := Lib.hid (HG.out.trans gh)
  clear gh
  clear HFI
  obtain ⟨Q, hQ⟩ : ∃ Q, fitsS ns F us st = Q := ⟨_, rfl⟩
  rw [hQ]
  cases Q with
  | false =>
    clear hQ
    go_wp2_with fail
    go_ret
    exact ⟨rfl, HG.out⟩
  | true =>
  obtain ⟨hz0, hz5, hz4, hf6, hff, hfit, hs12, hu4⟩ := fits_setup hQ
  have HNU := Lib.hid (fun (U : World) (g : w.grownBy U none) => (HN.out.2.2.2.1.grown g).nums hz0)
  have HDEF := Lib.hid (defOk (F := F) hz5 (fun f hf => (hff f hf).2))
  have hzl : (us.map Int.toNat).length = n := by rw [List.length_map]; exact HN.out.1
  have HST := Lib.hid (And.intro hz5 (And.intro hz4 (And.intro hf6 (And.intro hff (And.intro hfit hzl)))))
  clear hQ hz0 hs12 hu4 hz5 hz4 hf6 hff hfit hzl
  have hbx := HB.out
  obtain ⟨a0, a1, a2, a3, b0, b1, m0, m1, m2, m3⟩ := hbx
  go_wp2_with fail
  clear a0 a1 a2 a3 b0 b1 m0 m1 m2 m3
  refine (HFA.out w1 HG.out).mono ?_
  rintro e w2 ⟨rfl, gh⟩
  replace HB := Lib.hid (HB.out.grown gh)
  replace HG := Lib.hid (HG.out.trans gh)
  clear gh
  clear HFA
  obtain ⟨Q, hQ⟩ : ∃ Q, fewB A L = Q := ⟨_, rfl⟩
  rw [hQ]
  cases Q with
  | false =>
    clear hQ
    go_wp2_with fail
    go_ret
    exact ⟨rfl, HG.out⟩
  | true =>
  have HQA := Lib.hid hQ; clear hQ
  have hbx := HB.out
  obtain ⟨a0, a1, a2, a3, b0, b1, m0, m1, m2, m3⟩ := hbx
  go_wp2_with fail
  clear a0 a1 a2 a3 b0 b1 m0 m1 m2 m3
  refine (HFB.out w2 HG.out).mono ?_
  rintro e w3 ⟨rfl, gh⟩
  replace HB := Lib.hid (HB.out.grown gh)
  replace HG := Lib.hid (HG.out.trans gh)
  clear gh
  clear HFB
  obtain ⟨Q, hQ⟩ : ∃ Q, fewB B L = Q := ⟨_, rfl⟩
  rw [hQ]
  cases Q with
  | false =>
    clear hQ
    go_wp2_with fail
    go_ret
    exact ⟨rfl, HG.out⟩
  | true =>
  have HQB := Lib.hid hQ; clear hQ
  obtain ⟨pa1, pl1, pa2, pl2⟩ := few_parts HQA.out
  obtain ⟨pb1, _, pb2, _⟩ := few_parts HQB.out
  have HPA := Lib.hid (And.intro pa1 (And.intro pa2 (And.intro pl1 pl2)))
  have HPB := Lib.hid (And.intro pb1 pb2)
  clear pa1 pl1 pa2 pl2 pb1 pb2
  obtain ⟨DB, hDB⟩ : ∃ D, F.map (defX (us.map Int.toNat)) = D := ⟨_, rfl⟩
  have hdl : DB.length = f := by rw [← hDB, List.length_map]; exact HN.out.2.1
  have HD1 : Hid (∀ U : World, w.grownBy U none → Calls Try.prog 43 #[.agg #[.slice s1 ns c1, .slice fa f fc, .slice s3 n3 q3, .slice s4 n4 q4], .agg #[.slice sa n sc, .int .i64 st]] U (fun e w' => ∃ a c, e = .returned (.slice a f c) ∧ Bds w' a c DB ∧ U.grownBy w' none)) := Lib.hid (fun U g => by
    have h := default_calls s1 fa s3 s4 ns c1 fc n3 q3 n4 q4 F (us.map Int.toNat) sa sc st U (HN.out.2.2.1.grown g) (HNU.out U g) HST.out.1 HST.out.2.1 (by have := HST.out.2.2.1; omega) HST.out.2.2.2.1
    rw [HST.out.2.2.2.2.2, HN.out.2.1, hDB] at h
    exact h.mono fun e w' ⟨a, c, he, hs, hg⟩ => ⟨a, c, he, hs.here, hg⟩)
  have HD2 : Hid (∀ U : World, w.grownBy U none → Calls Try.prog 44 #[.agg #[.slice s1 ns c1, .slice fa f fc, .slice s3 n3 q3, .slice s4 n4 q4], .agg #[.slice sa n sc, .int .i64 st]] U (fun e w' => ∃ a c, e = .returned (.slice a f c) ∧ Bds w' a c DB ∧ U.grownBy w' none)) := Lib.hid (fun U g => by
    have h := rDefault_calls s1 fa s3 s4 ns c1 fc n3 q3 n4 q4 F (us.map Int.toNat) sa sc st U (HN.out.2.2.1.grown g) (HNU.out U g) HST.out.1 HST.out.2.1 (by have := HST.out.2.2.1; omega) HST.out.2.2.2.1 HST.out.2.2.2.2.1
    rw [HST.out.2.2.2.2.2, HN.out.2.1, hDB] at h
    refine h.mono fun e w' ⟨a, c, he, v, D, hv, hO, hD, hg⟩ => ?_
    obtain ⟨a', c', hv', hs⟩ := hO.bds
    rw [hD] at hv' hs
    rw [hv, hdl] at hv'
    injection hv' with h1 _ h2
    subst h1 h2
    exact ⟨a, c, he, hs.here, hg⟩)
  have HEQ : Hid (∀ (U : World) (a a' : Option Addr) (c c' : Nat), Bds U a c DB → Bds U a' c' DB → Calls Try.prog 42 #[.slice a f c, .slice a' f c'] U (fun e w' => e = .returned (.bool true) ∧ U.grownBy w' none)) := Lib.hid (fun U a a' c c' h h' => by
    have hd := HDEF.out
    rw [hDB] at hd
    have hl : ∀ x ∈ DB, x.1.2.length ≤ 125 ∧ x.2.2.length ≤ 125 := fun x hx => by
      obtain ⟨h1, _, h3⟩ := hd x hx
      rw [h1]
      exact ⟨Nat.zero_le _, h3⟩
    exact equalG h h' hdl hdl (by have h1 := HN.out.2.1; have h2 := HST.out.2.2.1; omega) hl hl (decide_eq_true rfl))
  obtain ⟨QV, hQV⟩ : ∃ Q, allB (validF (us.map Int.toNat)) F A = Q := ⟨_, rfl⟩
  have HV1 : Hid (∀ U : World, w.grownBy U none → Calls Try.prog 45 #[.agg #[.slice s1 ns c1, .slice fa f fc, .slice s3 n3 q3, .slice s4 n4 q4], .agg #[.slice sa n sc, .int .i64 st], .slice aa an ac] U (fun e w' => e = .returned (.bool QV) ∧ U.grownBy w' none)) := Lib.hid (fun U g => by
    have h := bValid_calls s1 fa s3 s4 ns c1 fc n3 q3 n4 q4 F (us.map Int.toNat) sa sc st A aa ac U (HN.out.2.2.1.grown g) (HNU.out U g) HST.out.1 HST.out.2.1 (HN.out.2.2.2.2.1.grown g) (by have := HST.out.2.2.1; omega) HST.out.2.2.2.1 (fun x hx => by have := HPA.out.2.1 x hx; omega)
    rw [HST.out.2.2.2.2.2, HN.out.2.1, HL.out.1, hQV] at h
    exact h)
  have HV2 : Hid (∀ U : World, w.grownBy U none → Calls Try.prog 46 #[.agg #[.slice s1 ns c1, .slice fa f fc, .slice s3 n3 q3, .slice s4 n4 q4], .agg #[.slice sa n sc, .int .i64 st], .slice aa an ac] U (fun e w' => e = .returned (.bool QV) ∧ U.grownBy w' none)) := Lib.hid (fun U g => by
    have h := rbValid_calls s1 fa s3 s4 ns c1 fc n3 q3 n4 q4 F (us.map Int.toNat) sa sc st A aa ac U (HN.out.2.2.1.grown g) (HNU.out U g) HST.out.1 HST.out.2.1 (HN.out.2.2.2.2.1.grown g) (by have := HST.out.2.2.1; omega) HST.out.2.2.2.1 HPA.out.2.1
    rw [HST.out.2.2.2.2.2, HN.out.2.1, HL.out.1, hQV] at h
    exact h)
  have hqv : (QV != QV) = false := by simp
  clear hDB hdl hQV HNU HDEF HST
  have hbx := HB.out
  obtain ⟨a0, a1, a2, a3, b0, b1, m0, m1, m2, m3⟩ := hbx
  go_wp2_with fail
  have HS := Lib.hid (fun (Wh : World) (hWh : w3.grownBy Wh none) => (⟨hWh, hWh.cell a0 (by simp), hWh.cell a1 (by simp), hWh.cell a2 (by simp), hWh.cell a3 (by simp), hWh.cell b0 (by simp), hWh.cell b1 (by simp)⟩ : (fun Wh : World => w3.grownBy Wh none ∧ Wh.cell? ⟨g0, 0, none⟩ = some (.slice s1 ns c1) ∧ Wh.cell? ⟨g0, 1, none⟩ = some (.slice fa f fc) ∧ Wh.cell? ⟨g0, 2, none⟩ = some (.slice s3 n3 q3) ∧ Wh.cell? ⟨g0, 3, none⟩ = some (.slice s4 n4 q4) ∧ Wh.cell? ⟨g0 + 1, 0, none⟩ = some (.slice sa n sc) ∧ Wh.cell? ⟨g0 + 1, 1, none⟩ = some (.int .i64 st)) Wh))
  clear a0 a1 a2 a3 b0 b1 m0 m1 m2 m3
  have hdr : w3.grownBy w3.drew none := ⟨rfl, rfl, rfl, Nat.le_refl _, fun _ _ _ => rfl⟩
  refine wp_region_held_drew (S := (fun Wh : World => w3.grownBy Wh none ∧ Wh.cell? ⟨g0, 0, none⟩ = some (.slice s1 ns c1) ∧ Wh.cell? ⟨g0, 1, none⟩ = some (.slice fa f fc) ∧ Wh.cell? ⟨g0, 2, none⟩ = some (.slice s3 n3 q3) ∧ Wh.cell? ⟨g0, 3, none⟩ = some (.slice s4 n4 q4) ∧ Wh.cell? ⟨g0 + 1, 0, none⟩ = some (.slice sa n sc) ∧ Wh.cell? ⟨g0 + 1, 1, none⟩ = some (.int .i64 st))) (by kernel_rfl) (HS.out _ hdr) (fun hHeld => ?_)
  refine wpAnyH_take (i := 0) (oi := { dst := some 34, op := Op.load 27 (Operand.tmp 5), type := 27, pos := "law.go:163", after := #[], guard := none }) (v := ?_) rfl (by kernel_rfl) (by kernel_rfl) (by kernel_rfl) (fun _ _ _ h => h) (Or.inl ⟨by rfl, ?_⟩) (by assumption) ?_
  rotate_left 1
  · (intro W hSW; (try dsimp only at hSW); first | (go_simp; done) | (go_simp; with_reducible rfl))
  try simp only [Act.put, List.setIfInBounds_toArray, List.set_cons_zero, List.set_cons_succ]
  refine wpAnyH_take (i := 1) (oi := { dst := some 35, op := Op.load 30 (Operand.tmp 6), type := 30, pos := "law.go:163", after := #[], guard := none }) (v := ?_) rfl (by kernel_rfl) (by kernel_rfl) (by kernel_rfl) (fun _ _ _ h => h) (Or.inl ⟨by rfl, ?_⟩) (by assumption) ?_
  rotate_left 1
  · (intro W hSW; (try dsimp only at hSW); first | (go_simp; done) | (go_simp; with_reducible rfl))
  try simp only [Act.put, List.setIfInBounds_toArray, List.set_cons_zero, List.set_cons_succ]
  refine wpAnyH_take (i := 3) (oi := { dst := some 37, op := Op.load 27 (Operand.tmp 5), type := 27, pos := "law.go:163", after := #[], guard := none }) (v := ?_) rfl (by kernel_rfl) (by kernel_rfl) (by kernel_rfl) (fun _ _ _ h => h) (Or.inl ⟨by rfl, ?_⟩) (by assumption) ?_
  rotate_left 1
  · (intro W hSW; (try dsimp only at hSW); first | (go_simp; done) | (go_simp; with_reducible rfl))
  try simp only [Act.put, List.setIfInBounds_toArray, List.set_cons_zero, List.set_cons_succ]
  refine wpAnyH_take (i := 4) (oi := { dst := some 38, op := Op.load 30 (Operand.tmp 6), type := 30, pos := "law.go:163", after := #[], guard := none }) (v := ?_) rfl (by kernel_rfl) (by kernel_rfl) (by kernel_rfl) (fun _ _ _ h => h) (Or.inl ⟨by rfl, ?_⟩) (by assumption) ?_
  rotate_left 1
  · (intro W hSW; (try dsimp only at hSW); first | (go_simp; done) | (go_simp; with_reducible rfl))
  try simp only [Act.put, List.setIfInBounds_toArray, List.set_cons_zero, List.set_cons_succ]
  refine wpAnyH_ready (rs := [2]) (by kernel_rfl) (by simp) ?_
  refine (AllReadyH.cons (o := { dst := some 36, op := Op.call { callee := Callee.value (Operand.func 43), args := #[Operand.tmp 34, Operand.tmp 35], argTypes := #[27, 30] }, type := 57, pos := "law.go:163", after := #[{ on := 0, ground := Ground.data }, { on := 1, ground := Ground.data }], guard := none }) rfl (fun K hK => ?_) AllReadyH.nil)
  rw [if_pos (by rfl)]
  go_simp
  go_at_call 43
  refine (HD1.out _ (HG.out.trans (hdr))).mono ?_
  rintro e wc1 ⟨r1, z1, rfl, hd1, gc1⟩
  have hgr1 := World.grownBy.trans hdr gc1
  go_wp2_with fail
  refine hK.out _ _ (HS.out _ hgr1) (fun hHeld => ?_)
  clear hK K
  try simp only [Act.put, List.setIfInBounds_toArray, List.set_cons_zero, List.set_cons_succ]
  refine wpAnyH_ready (rs := [5]) (by kernel_rfl) (by simp) ?_
  refine (AllReadyH.cons (o := { dst := some 39, op := Op.call { callee := Callee.value (Operand.func 44), args := #[Operand.tmp 37, Operand.tmp 38], argTypes := #[27, 30] }, type := 57, pos := "law.go:163", after := #[{ on := 3, ground := Ground.data }, { on := 4, ground := Ground.data }, { on := 2, ground := Ground.chain }], guard := none }) rfl (fun K hK => ?_) AllReadyH.nil)
  rw [if_pos (by rfl)]
  go_simp
  go_at_call 44
  refine (HD2.out _ (HG.out.trans (hgr1))).mono ?_
  rintro e wc2 ⟨r2, z2, rfl, hd2, gc2⟩
  have hgr2 := World.grownBy.trans hgr1 gc2
  replace hd1 := hd1.grown gc2
  go_wp2_with fail
  refine hK.out _ _ (HS.out _ hgr2) (fun hHeld => ?_)
  clear hK K
  try simp only [Act.put, List.setIfInBounds_toArray, List.set_cons_zero, List.set_cons_succ]
  refine wpAnyH_ready (rs := [6]) (by kernel_rfl) (by simp) ?_
  refine (AllReadyH.cons (o := { dst := some 40, op := Op.call { callee := Callee.value (Operand.func 42), args := #[Operand.tmp 36, Operand.tmp 39], argTypes := #[57, 57] }, type := 4, pos := "law.go:163", after := #[{ on := 2, ground := Ground.data }, { on := 5, ground := Ground.data }, { on := 5, ground := Ground.chain }], guard := none }) rfl (fun K hK => ?_) AllReadyH.nil)
  rw [if_pos (by rfl)]
  go_simp
  go_at_call 42
  refine (HEQ.out _ r1 r2 z1 z2 hd1 hd2).mono ?_
  rintro e wc3 ⟨rfl, gc3⟩
  have hgr3 := World.grownBy.trans hgr2 gc3
  go_wp2_with fail
  refine hK.out _ _ (HS.out _ hgr3) (fun hHeld => ?_)
  clear hK K
  try simp only [Act.put, List.setIfInBounds_toArray, List.set_cons_zero, List.set_cons_succ]
  refine wpAnyH_take (i := 7) (oi := { dst := some 41, op := Op.unOp UnOp.not 4 (Operand.tmp 40), type := 4, pos := "law.go:163", after := #[{ on := 6, ground := Ground.data }], guard := none }) (v := ?_) rfl (by kernel_rfl) (by kernel_rfl) (by kernel_rfl) (fun _ _ _ h => h) (Or.inl ⟨by rfl, ?_⟩) (by assumption) ?_
  rotate_left 1
  · (intro W hSW; (try dsimp only at hSW); first | (go_simp; done) | (go_simp; with_reducible rfl))
  try simp only [Act.put, List.setIfInBounds_toArray, List.set_cons_zero, List.set_cons_succ]
  refine wpAnyH_take (i := 8) (oi := { dst := some 42, op := Op.move (Operand.tmp 41), type := 4, pos := "law.go:163", after := #[{ on := 7, ground := Ground.data }, { on := 6, ground := Ground.chain }], guard := none }) (v := ?_) rfl (by kernel_rfl) (by kernel_rfl) (by kernel_rfl) (fun _ _ _ h => h) (Or.inl ⟨by rfl, ?_⟩) (by assumption) ?_
  rotate_left 1
  · (intro W hSW; (try dsimp only at hSW); first | (go_simp; done) | (go_simp; with_reducible rfl))
  try simp only [Act.put, List.setIfInBounds_toArray, List.set_cons_zero, List.set_cons_succ]
  refine wpAnyH_take (i := 9) (oi := { dst := some 43, op := Op.load 27 (Operand.tmp 5), type := 27, pos := "law.go:163", after := #[{ on := 8, ground := Ground.guard }], guard := some (8, false) }) (v := ?_) rfl (by kernel_rfl) (by kernel_rfl) (by kernel_rfl) (fun _ _ _ h => h) (Or.inl ⟨by rfl, ?_⟩) (by assumption) ?_
  rotate_left 1
  · (intro W hSW; (try dsimp only at hSW); first | (go_simp; done) | (go_simp; with_reducible rfl))
  try simp only [Act.put, List.setIfInBounds_toArray, List.set_cons_zero, List.set_cons_succ]
  refine wpAnyH_take (i := 10) (oi := { dst := some 44, op := Op.load 30 (Operand.tmp 6), type := 30, pos := "law.go:163", after := #[{ on := 8, ground := Ground.guard }], guard := some (8, false) }) (v := ?_) rfl (by kernel_rfl) (by kernel_rfl) (by kernel_rfl) (fun _ _ _ h => h) (Or.inl ⟨by rfl, ?_⟩) (by assumption) ?_
  rotate_left 1
  · (intro W hSW; (try dsimp only at hSW); first | (go_simp; done) | (go_simp; with_reducible rfl))
  try simp only [Act.put, List.setIfInBounds_toArray, List.set_cons_zero, List.set_cons_succ]
  refine wpAnyH_take (i := 11) (oi := { dst := some 45, op := Op.move (Operand.tmp 2), type := 57, pos := "law.go:163", after := #[{ on := 8, ground := Ground.guard }], guard := some (8, false) }) (v := ?_) rfl (by kernel_rfl) (by kernel_rfl) (by kernel_rfl) (fun _ _ _ h => h) (Or.inl ⟨by rfl, ?_⟩) (by assumption) ?_
  rotate_left 1
  · (intro W hSW; (try dsimp only at hSW); first | (go_simp; done) | (go_simp; with_reducible rfl))
  try simp only [Act.put, List.setIfInBounds_toArray, List.set_cons_zero, List.set_cons_succ]
  refine wpAnyH_take (i := 13) (oi := { dst := some 47, op := Op.load 27 (Operand.tmp 5), type := 27, pos := "law.go:163", after := #[{ on := 8, ground := Ground.guard }], guard := some (8, false) }) (v := ?_) rfl (by kernel_rfl) (by kernel_rfl) (by kernel_rfl) (fun _ _ _ h => h) (Or.inl ⟨by rfl, ?_⟩) (by assumption) ?_
  rotate_left 1
  · (intro W hSW; (try dsimp only at hSW); first | (go_simp; done) | (go_simp; with_reducible rfl))
  try simp only [Act.put, List.setIfInBounds_toArray, List.set_cons_zero, List.set_cons_succ]
  refine wpAnyH_take (i := 14) (oi := { dst := some 48, op := Op.load 30 (Operand.tmp 6), type := 30, pos := "law.go:163", after := #[{ on := 8, ground := Ground.guard }], guard := some (8, false) }) (v := ?_) rfl (by kernel_rfl) (by kernel_rfl) (by kernel_rfl) (fun _ _ _ h => h) (Or.inl ⟨by rfl, ?_⟩) (by assumption) ?_
  rotate_left 1
  · (intro W hSW; (try dsimp only at hSW); first | (go_simp; done) | (go_simp; with_reducible rfl))
  try simp only [Act.put, List.setIfInBounds_toArray, List.set_cons_zero, List.set_cons_succ]
  refine wpAnyH_take (i := 15) (oi := { dst := some 49, op := Op.move (Operand.tmp 2), type := 57, pos := "law.go:163", after := #[{ on := 8, ground := Ground.guard }], guard := some (8, false) }) (v := ?_) rfl (by kernel_rfl) (by kernel_rfl) (by kernel_rfl) (fun _ _ _ h => h) (Or.inl ⟨by rfl, ?_⟩) (by assumption) ?_
  rotate_left 1
  · (intro W hSW; (try dsimp only at hSW); first | (go_simp; done) | (go_simp; with_reducible rfl))
  try simp only [Act.put, List.setIfInBounds_toArray, List.set_cons_zero, List.set_cons_succ]
  refine wpAnyH_ready (rs := [12]) (by kernel_rfl) (by simp) ?_
  refine (AllReadyH.cons (o := { dst := some 46, op := Op.call { callee := Callee.value (Operand.func 45), args := #[Operand.tmp 43, Operand.tmp 44, Operand.tmp 45], argTypes := #[27, 30, 57] }, type := 4, pos := "law.go:163", after := #[{ on := 9, ground := Ground.data }, { on := 10, ground := Ground.data }, { on := 11, ground := Ground.data }, { on := 8, ground := Ground.chain }, { on := 8, ground := Ground.guard }], guard := some (8, false) }) rfl (fun K hK => ?_) AllReadyH.nil)
  rw [if_pos (by rfl)]
  go_simp
  go_at_call 45
  refine (HV1.out _ (HG.out.trans (hgr3))).mono ?_
  rintro e wc4 ⟨rfl, gc4⟩
  have hgr4 := World.grownBy.trans hgr3 gc4
  go_wp2_with fail
  refine hK.out _ _ (HS.out _ hgr4) (fun hHeld => ?_)
  clear hK K
  try simp only [Act.put, List.setIfInBounds_toArray, List.set_cons_zero, List.set_cons_succ]
  refine wpAnyH_ready (rs := [16]) (by kernel_rfl) (by simp) ?_
  refine (AllReadyH.cons (o := { dst := some 50, op := Op.call { callee := Callee.value (Operand.func 46), args := #[Operand.tmp 47, Operand.tmp 48, Operand.tmp 49], argTypes := #[27, 30, 57] }, type := 4, pos := "law.go:163", after := #[{ on := 13, ground := Ground.data }, { on := 14, ground := Ground.data }, { on := 15, ground := Ground.data }, { on := 12, ground := Ground.chain }, { on := 8, ground := Ground.guard }], guard := some (8, false) }) rfl (fun K hK => ?_) AllReadyH.nil)
  rw [if_pos (by rfl)]
  go_simp
  go_at_call 46
  refine (HV2.out _ (HG.out.trans (hgr4))).mono ?_
  rintro e wc5 ⟨rfl, gc5⟩
  have hgr5 := World.grownBy.trans hgr4 gc5
  go_wp2_with fail
  refine hK.out _ _ (HS.out _ hgr5) (fun hHeld => ?_)
  clear hK K
  try simp only [Act.put, List.setIfInBounds_toArray, List.set_cons_zero, List.set_cons_succ]
  refine wpAnyH_take (i := 17) (oi := { dst := some 51, op := Op.binOp BinOp.neq 4 (Operand.tmp 46) (Operand.tmp 50) 4, type := 4, pos := "law.go:163", after := #[{ on := 12, ground := Ground.data }, { on := 16, ground := Ground.data }, { on := 8, ground := Ground.guard }], guard := some (8, false) }) (v := ?_) rfl (by kernel_rfl) (by kernel_rfl) (by kernel_rfl) (fun _ _ _ h => h) (Or.inl ⟨by rfl, ?_⟩) (by assumption) ?_
  rotate_left 1
  · (intro W hSW; (try dsimp only at hSW); first | (go_simp; done) | (go_simp; with_reducible rfl))
  try simp only [Act.put, List.setIfInBounds_toArray, List.set_cons_zero, List.set_cons_succ]
  refine wpAnyH_take (i := 18) (oi := { dst := some 52, op := Op.pick (Operand.tmp 42) (Operand.const (Value.bool true)) (Operand.tmp 51), type := 4, pos := "law.go:163", after := #[{ on := 8, ground := Ground.data }, { on := 17, ground := Ground.data }], guard := none }) (v := ?_) rfl (by kernel_rfl) (by kernel_rfl) (by kernel_rfl) (fun _ _ _ h => h) (Or.inl ⟨by rfl, ?_⟩) (by assumption) ?_
  rotate_left 1
  · (intro W hSW; (try dsimp only at hSW); first | (go_simp; done) | (go_simp; with_reducible rfl))
  try simp only [Act.put, List.setIfInBounds_toArray, List.set_cons_zero, List.set_cons_succ]
  refine wpAnyH_done (by kernel_rfl) ?_ _
  have hEND := hgr5
  clear hHeld
  clear hd1 hd2
  replace HB := Lib.hid (HB.out.grown hEND)
  replace HG := Lib.hid (HG.out.trans hEND)
  clear hEND HS
  clear hqv HD1 HD2 HEQ HV1 HV2
  have HRA := Lib.hid (fun (U : World) (g : w.grownBy U none) => rising_calls A aa ac ma mn mc ms L ta tc lp U (HN.out.2.2.2.2.1.grown g) (HN.out.2.2.2.2.2.2.grown g) HQA.out)
  have HRB := Lib.hid (fun (U : World) (g : w.grownBy U none) => rising_calls B ba bc ma mn mc ms L ta tc lp U (HN.out.2.2.2.2.2.1.grown g) (HN.out.2.2.2.2.2.2.grown g) HQB.out)
  rw [HL.out.1, HL.out.2.2] at HRA
  rw [HL.out.2.1, HL.out.2.2] at HRB
  have hbx := HB.out
  obtain ⟨a0, a1, a2, a3, b0, b1, m0, m1, m2, m3⟩ := hbx
  go_wp2_with fail
  clear a0 a1 a2 a3 b0 b1 m0 m1 m2 m3
  refine (HRA.out _ HG.out).mono ?_
  rintro e w5 ⟨rfl, gh⟩
  replace HB := Lib.hid (HB.out.grown gh)
  replace HG := Lib.hid (HG.out.trans gh)
  clear gh
  clear HRA
  obtain ⟨Q, hQ⟩ : ∃ Q, riseB A L = Q := ⟨_, rfl⟩
  rw [hQ]
  cases Q with
  | false =>
    clear hQ
    go_wp2_with fail
    go_ret
    exact ⟨rfl, HG.out⟩
  | true =>
  have HSA := Lib.hid hQ; clear hQ
  have hbx := HB.out
  obtain ⟨a0, a1, a2, a3, b0, b1, m0, m1, m2, m3⟩ := hbx
  go_wp2_with fail
  clear a0 a1 a2 a3 b0 b1 m0 m1 m2 m3
  refine (HRB.out w5 HG.out).mono ?_
  rintro e w6 ⟨rfl, gh⟩
  replace HB := Lib.hid (HB.out.grown gh)
  replace HG := Lib.hid (HG.out.trans gh)
  clear gh
  clear HRB
  obtain ⟨Q, hQ⟩ : ∃ Q, riseB B L = Q := ⟨_, rfl⟩
  rw [hQ]
  cases Q with
  | false =>
    clear hQ
    go_wp2_with fail
    go_ret
    exact ⟨rfl, HG.out⟩
  | true =>
  have HUA := Lib.hid (rise_parts HSA.out)
  have HUB := Lib.hid (rise_parts hQ)
  clear hQ
  obtain ⟨X, E, xn, hXE, hxn⟩ : ∃ X E xn, meetR A B = (X, E) ∧ X.length = xn := ⟨_, _, _, rfl, rfl⟩
  have HXF : Hid (X.length ≤ 10 ∧ ∀ x ∈ X, x.1.2.length ≤ 100000 ∧ x.2.2.length ≤ 100000) := Lib.hid (by
    have h := meetR_few (A := A) (B := B) HPA.out.1 HPA.out.2.1 HPB.out.2
    rw [hXE] at h
    exact h)
  have HM1 : Hid (∀ U : World, w.grownBy U none → Calls Try.prog 48 #[.slice aa an ac, .slice ba bn bc] U (fun e w' => ∃ r q, e = .returned (.tuple #[.slice r xn q, .int .i64 (E : Int)]) ∧ Bds w' r q X ∧ U.grownBy w' none)) := Lib.hid (fun U g => by
    have h := meet_calls A B aa ba ac bc U (HN.out.2.2.2.2.1.grown g) (HN.out.2.2.2.2.2.1.grown g) (by have := HPA.out.1; omega) (fun x hx => by have := HPA.out.2.1 x hx; omega) (fun x hx => by have := HPB.out.2 x hx; omega)
    rw [HL.out.1, HL.out.2.1] at h
    refine h.mono fun e w' ⟨r, q, he, hs, hg⟩ => ?_
    rw [hXE] at he hs
    rw [hxn] at he
    exact ⟨r, q, he, hs.here, hg⟩)
  have HM2 : Hid (∀ U : World, w.grownBy U none → Calls Try.prog 49 #[.slice aa an ac, .slice ba bn bc] U (fun e w' => ∃ r q, e = .returned (.tuple #[.slice r xn q, .int .i64 (E : Int)]) ∧ Bds w' r q X ∧ U.grownBy w' none)) := Lib.hid (fun U g => by
    have h := rMeet_calls A B aa ba ac bc U (HN.out.2.2.2.2.1.grown g) (HN.out.2.2.2.2.2.1.grown g) HPA.out.1 HPA.out.2.1 HPB.out.2 HUA.out HUB.out
    rw [HL.out.1, HL.out.2.1] at h
    refine h.mono fun e w' ⟨r, q, he, hs, hg⟩ => ?_
    rw [hXE] at he hs
    rw [hxn] at he
    exact ⟨r, q, he, hs.here, hg⟩)
  have HXX : Hid (∀ (U : World) (a a' : Option Addr) (c c' : Nat), Bds U a c X → Bds U a' c' X → Calls Try.prog 50 #[.slice a xn c, .slice a' xn c'] U (fun e w' => e = .returned (.bool true) ∧ U.grownBy w' none)) := Lib.hid (fun U a a' c c' h h' => by
    have hc := rbEqual_calls X X a a' c c' U h h' (by have := HXF.out.1; omega) HXF.out.2
    rw [hxn, decide_eq_true rfl] at hc
    exact hc)
  obtain ⟨QC, hQC⟩ : ∃ Q, containsB A L = Q := ⟨_, rfl⟩
  have HC1 : Hid (∀ U : World, w.grownBy U none → Calls Try.prog 51 #[.slice aa an ac, .agg #[.slice ma mn mc, .int .i64 ms, .slice ta ln tc, .int .i64 lp]] U (fun e w' => e = .returned (.bool QC) ∧ U.grownBy w' none)) := Lib.hid (fun U g => by
    have h := contains_calls A L aa ta ma ac tc mc mn ms lp U (HN.out.2.2.2.2.1.grown g) (HN.out.2.2.2.2.2.2.grown g) ⟨by have := HPA.out.1; omega, fun x hx => by have := HPA.out.2.1 x hx; omega⟩ (by have := HPA.out.2.2.1; omega) HPA.out.2.2.2
    rw [HL.out.1, HL.out.2.2, hQC] at h
    exact h)
  have HC2 : Hid (∀ U : World, w.grownBy U none → Calls Try.prog 52 #[.slice aa an ac, .agg #[.slice ma mn mc, .int .i64 ms, .slice ta ln tc, .int .i64 lp]] U (fun e w' => e = .returned (.bool QC) ∧ U.grownBy w' none)) := Lib.hid (fun U g => by
    have h := rContains_calls A L aa ta ma ac tc mc mn ms lp U (HN.out.2.2.2.2.1.grown g) (HN.out.2.2.2.2.2.2.grown g) HQA.out HSA.out
    rw [HL.out.1, HL.out.2.2, hQC] at h
    exact h)
  have hft : ∀ i, i ≤ 10 → (freeTo A i).length ≤ 100000 := fun i hi => by
    have h1 := freeTo_few (A := A) HPA.out.2.1 i
    have h2 := Nat.mul_le_mul_right 4000 hi
    omega
  obtain ⟨fr, hfr⟩ : ∃ k, (freeTo A an).length = k := ⟨_, rfl⟩
  have HF1 : Hid (∀ U : World, w.grownBy U none → Calls Try.prog 54 #[.slice aa an ac] U (fun e w' => ∃ r q, e = .returned (.slice r fr q) ∧ Prs w' r q (freeTo A an) ∧ U.grownBy w' none)) := Lib.hid (fun U g => by
    have h := free_calls A aa ac U (HN.out.2.2.2.2.1.grown g) (by have := HPA.out.1; omega) (fun x hx => by have := HPA.out.2.1 x hx; omega) (by have := hft A.length HPA.out.1; omega)
    rw [HL.out.1] at h
    refine h.mono fun e w' ⟨r, q, he, hs, hg⟩ => ?_
    rw [HL.out.1] at he hs
    rw [hfr] at he
    exact ⟨r, q, he, hs.here, hg⟩)
  have HF2 : Hid (∀ U : World, w.grownBy U none → Calls Try.prog 55 #[.slice aa an ac] U (fun e w' => ∃ r q, e = .returned (.slice r fr q) ∧ Prs w' r q (freeTo A an) ∧ U.grownBy w' none)) := Lib.hid (fun U g => by
    have h := rFree_calls A aa ac U (HN.out.2.2.2.2.1.grown g) HPA.out.1 HPA.out.2.1 HUA.out hft
    rw [HL.out.1] at h
    refine h.mono fun e w' ⟨r, q, he, hs, hg⟩ => ?_
    rw [HL.out.1] at he hs
    rw [hfr] at he
    exact ⟨r, q, he, hs.here, hg⟩)
  have HFS : Hid (∀ (U : World) (a a' : Option Addr) (c c' : Nat), Prs U a c (freeTo A an) → Prs U a' c' (freeTo A an) → Calls Try.prog 53 #[.slice a fr c, .slice a' fr c'] U (fun e w' => e = .returned (.bool true) ∧ U.grownBy w' none)) := Lib.hid (fun U a a' c c' h h' => by
    have hc := sameFree_calls (freeTo A an) (freeTo A an) a a' c c' U h h' (by have := hft an (by rw [← HL.out.1]; exact HPA.out.1); omega)
    rw [hfr, decide_eq_true rfl] at hc
    exact hc)
  obtain ⟨QE, hQE⟩ : ∃ Q, decide (A = B) = Q := ⟨_, rfl⟩
  have HE1 : Hid (∀ U : World, w.grownBy U none → Calls Try.prog 42 #[.slice aa an ac, .slice ba bn bc] U (fun e w' => e = .returned (.bool QE) ∧ U.grownBy w' none)) := Lib.hid (fun U g => by
    have h := bEqual_calls A B aa ba ac bc U (HN.out.2.2.2.2.1.grown g) (HN.out.2.2.2.2.2.1.grown g) ⟨by have := HPA.out.1; omega, fun x hx => by have := HPA.out.2.1 x hx; omega⟩ ⟨by have := HPB.out.1; omega, fun x hx => by have := HPB.out.2 x hx; omega⟩
    rw [HL.out.1, HL.out.2.1, hQE] at h
    exact h)
  have HE2 : Hid (∀ U : World, w.grownBy U none → Calls Try.prog 50 #[.slice aa an ac, .slice ba bn bc] U (fun e w' => e = .returned (.bool QE) ∧ U.grownBy w' none)) := Lib.hid (fun U g => by
    have h := rbEqual_calls A B aa ba ac bc U (HN.out.2.2.2.2.1.grown g) (HN.out.2.2.2.2.2.1.grown g) (by have := HPA.out.1; omega) (fun x hx => by have := HPA.out.2.1 x hx; omega)
    rw [HL.out.1, HL.out.2.1, hQE] at h
    exact h)
  have hqc : (QC == QC) = true := by simp
  have hqe : (QE == QE) = true := by simp
  clear hXE hxn hQC hft hfr hQE
  go_wp2_with fail
  refine (HM1.out w6 HG.out).mono ?_
  rintro e w7 ⟨ax, cx, rfl, hx, gh⟩
  replace HB := Lib.hid (HB.out.grown gh)
  replace HG := Lib.hid (HG.out.trans gh)
  have HX1 := Lib.hid hx
  clear gh hx
  go_wp2_with fail
  refine (HM2.out w7 HG.out).mono ?_
  rintro e w8 ⟨ay, cy, rfl, hy, gh⟩
  replace HB := Lib.hid (HB.out.grown gh)
  replace HG := Lib.hid (HG.out.trans gh)
  replace HX1 := Lib.hid (HX1.out.grown gh)
  have HX2 := Lib.hid hy
  clear gh hy
  have hee : ((E : Int) == (E : Int)) = true := by simp
  have hbx := HB.out
  obtain ⟨a0, a1, a2, a3, b0, b1, m0, m1, m2, m3⟩ := hbx
  go_wp2_with fail
  have HS := Lib.hid (fun (Wh : World) (hWh : w8.grownBy Wh none) => (⟨hWh, hWh.cell m0 (by simp), hWh.cell m1 (by simp), hWh.cell m2 (by simp), hWh.cell m3 (by simp)⟩ : (fun Wh : World => w8.grownBy Wh none ∧ Wh.cell? ⟨g0 + 1 + 1, 0, none⟩ = some (.slice ma mn mc) ∧ Wh.cell? ⟨g0 + 1 + 1, 1, none⟩ = some (.int .i64 ms) ∧ Wh.cell? ⟨g0 + 1 + 1, 2, none⟩ = some (.slice ta ln tc) ∧ Wh.cell? ⟨g0 + 1 + 1, 3, none⟩ = some (.int .i64 lp)) Wh))
  clear a0 a1 a2 a3 b0 b1 m0 m1 m2 m3
  have hdr : w8.grownBy w8.drew none := ⟨rfl, rfl, rfl, Nat.le_refl _, fun _ _ _ => rfl⟩
  refine wp_region_held_drew (S := (fun Wh : World => w8.grownBy Wh none ∧ Wh.cell? ⟨g0 + 1 + 1, 0, none⟩ = some (.slice ma mn mc) ∧ Wh.cell? ⟨g0 + 1 + 1, 1, none⟩ = some (.int .i64 ms) ∧ Wh.cell? ⟨g0 + 1 + 1, 2, none⟩ = some (.slice ta ln tc) ∧ Wh.cell? ⟨g0 + 1 + 1, 3, none⟩ = some (.int .i64 lp))) (by kernel_rfl) (HS.out _ hdr) (fun hHeld => ?_)
  refine wpAnyH_take (i := 0) (oi := { dst := some 76, op := Op.move (Operand.tmp 11), type := 4, pos := "law.go:171", after := #[], guard := none }) (v := ?_) rfl (by kernel_rfl) (by kernel_rfl) (by kernel_rfl) (fun _ _ _ h => h) (Or.inl ⟨by rfl, ?_⟩) (by assumption) ?_
  rotate_left 1
  · (intro W hSW; (try dsimp only at hSW); first | (go_simp; done) | (go_simp; with_reducible rfl))
  try simp only [Act.put, List.setIfInBounds_toArray, List.set_cons_zero, List.set_cons_succ]
  refine wpAnyH_take (i := 1) (oi := { dst := some 77, op := Op.move (Operand.tmp 76), type := 4, pos := "law.go:171", after := #[{ on := 0, ground := Ground.data }], guard := none }) (v := ?_) rfl (by kernel_rfl) (by kernel_rfl) (by kernel_rfl) (fun _ _ _ h => h) (Or.inl ⟨by rfl, ?_⟩) (by assumption) ?_
  rotate_left 1
  · (intro W hSW; (try dsimp only at hSW); first | (go_simp; done) | (go_simp; with_reducible rfl))
  try simp only [Act.put, List.setIfInBounds_toArray, List.set_cons_zero, List.set_cons_succ]
  refine wpAnyH_take (i := 2) (oi := { dst := some 78, op := Op.move (Operand.tmp 13), type := 63, pos := "law.go:171", after := #[{ on := 1, ground := Ground.guard }], guard := some (1, true) }) (v := ?_) rfl (by kernel_rfl) (by kernel_rfl) (by kernel_rfl) (fun _ _ _ h => h) (Or.inl ⟨by rfl, ?_⟩) (by assumption) ?_
  rotate_left 1
  · (intro W hSW; (try dsimp only at hSW); first | (go_simp; done) | (go_simp; with_reducible rfl))
  try simp only [Act.put, List.setIfInBounds_toArray, List.set_cons_zero, List.set_cons_succ]
  refine wpAnyH_take (i := 3) (oi := { dst := some 79, op := Op.move (Operand.tmp 15), type := 63, pos := "law.go:171", after := #[{ on := 1, ground := Ground.guard }], guard := some (1, true) }) (v := ?_) rfl (by kernel_rfl) (by kernel_rfl) (by kernel_rfl) (fun _ _ _ h => h) (Or.inl ⟨by rfl, ?_⟩) (by assumption) ?_
  rotate_left 1
  · (intro W hSW; (try dsimp only at hSW); first | (go_simp; done) | (go_simp; with_reducible rfl))
  try simp only [Act.put, List.setIfInBounds_toArray, List.set_cons_zero, List.set_cons_succ]
  refine wpAnyH_take (i := 4) (oi := { dst := some 80, op := Op.binOp BinOp.eql 63 (Operand.tmp 78) (Operand.tmp 79) 63, type := 4, pos := "law.go:171", after := #[{ on := 2, ground := Ground.data }, { on := 3, ground := Ground.data }, { on := 1, ground := Ground.guard }], guard := some (1, true) }) (v := ?_) rfl (by kernel_rfl) (by kernel_rfl) (by kernel_rfl) (fun _ _ _ h => h) (Or.inl ⟨by rfl, ?_⟩) (by assumption) ?_
  rotate_left 1
  · (intro W hSW; (try dsimp only at hSW); first | (go_simp; done) | (go_simp; with_reducible rfl))
  try simp only [Act.put, List.setIfInBounds_toArray, List.set_cons_zero, List.set_cons_succ]
  refine wpAnyH_take (i := 5) (oi := { dst := some 81, op := Op.pick (Operand.tmp 77) (Operand.tmp 80) (Operand.const (Value.bool false)), type := 4, pos := "law.go:171", after := #[{ on := 1, ground := Ground.data }, { on := 4, ground := Ground.data }], guard := none }) (v := ?_) rfl (by kernel_rfl) (by kernel_rfl) (by kernel_rfl) (fun _ _ _ h => h) (Or.inl ⟨by rfl, ?_⟩) (by assumption) ?_
  rotate_left 1
  · (intro W hSW; (try dsimp only at hSW); first | (go_simp; done) | (go_simp; with_reducible rfl))
  try simp only [Act.put, List.setIfInBounds_toArray, List.set_cons_zero, List.set_cons_succ]
  refine wpAnyH_take (i := 6) (oi := { dst := some 82, op := Op.move (Operand.tmp 81), type := 4, pos := "law.go:171", after := #[{ on := 5, ground := Ground.data }, { on := 1, ground := Ground.chain }], guard := none }) (v := ?_) rfl (by kernel_rfl) (by kernel_rfl) (by kernel_rfl) (fun _ _ _ h => h) (Or.inl ⟨by rfl, ?_⟩) (by assumption) ?_
  rotate_left 1
  · (intro W hSW; (try dsimp only at hSW); first | (go_simp; done) | (go_simp; with_reducible rfl))
  try simp only [Act.put, List.setIfInBounds_toArray, List.set_cons_zero, List.set_cons_succ]
  refine wpAnyH_take (i := 7) (oi := { dst := some 83, op := Op.move (Operand.tmp 12), type := 57, pos := "law.go:171", after := #[{ on := 6, ground := Ground.guard }], guard := some (6, true) }) (v := ?_) rfl (by kernel_rfl) (by kernel_rfl) (by kernel_rfl) (fun _ _ _ h => h) (Or.inl ⟨by rfl, ?_⟩) (by assumption) ?_
  rotate_left 1
  · (intro W hSW; (try dsimp only at hSW); first | (go_simp; done) | (go_simp; with_reducible rfl))
  try simp only [Act.put, List.setIfInBounds_toArray, List.set_cons_zero, List.set_cons_succ]
  refine wpAnyH_take (i := 8) (oi := { dst := some 84, op := Op.move (Operand.tmp 14), type := 57, pos := "law.go:171", after := #[{ on := 6, ground := Ground.guard }], guard := some (6, true) }) (v := ?_) rfl (by kernel_rfl) (by kernel_rfl) (by kernel_rfl) (fun _ _ _ h => h) (Or.inl ⟨by rfl, ?_⟩) (by assumption) ?_
  rotate_left 1
  · (intro W hSW; (try dsimp only at hSW); first | (go_simp; done) | (go_simp; with_reducible rfl))
  try simp only [Act.put, List.setIfInBounds_toArray, List.set_cons_zero, List.set_cons_succ]
  refine wpAnyH_ready (rs := [9]) (by kernel_rfl) (by simp) ?_
  refine (AllReadyH.cons (o := { dst := some 85, op := Op.call { callee := Callee.value (Operand.func 50), args := #[Operand.tmp 83, Operand.tmp 84], argTypes := #[57, 57] }, type := 4, pos := "law.go:171", after := #[{ on := 7, ground := Ground.data }, { on := 8, ground := Ground.data }, { on := 6, ground := Ground.chain }, { on := 6, ground := Ground.guard }], guard := some (6, true) }) rfl (fun K hK => ?_) AllReadyH.nil)
  rw [if_pos (by rfl)]
  go_simp
  go_at_call 50
  refine (HXX.out _ ax ay cx cy (HX1.out.grown (hdr)) (HX2.out.grown (hdr))).mono ?_
  rintro e wc1 ⟨rfl, gc1⟩
  have hgr1 := World.grownBy.trans hdr gc1
  go_wp2_with fail
  refine hK.out _ _ (HS.out _ hgr1) (fun hHeld => ?_)
  clear hK K
  try simp only [Act.put, List.setIfInBounds_toArray, List.set_cons_zero, List.set_cons_succ]
  refine wpAnyH_take (i := 10) (oi := { dst := some 86, op := Op.pick (Operand.tmp 82) (Operand.tmp 85) (Operand.const (Value.bool false)), type := 4, pos := "law.go:171", after := #[{ on := 6, ground := Ground.data }, { on := 9, ground := Ground.data }], guard := none }) (v := ?_) rfl (by kernel_rfl) (by kernel_rfl) (by kernel_rfl) (fun _ _ _ h => h) (Or.inl ⟨by rfl, ?_⟩) (by assumption) ?_
  rotate_left 1
  · (intro W hSW; (try dsimp only at hSW); first | (go_simp; done) | (go_simp; with_reducible rfl))
  try simp only [Act.put, List.setIfInBounds_toArray, List.set_cons_zero, List.set_cons_succ]
  refine wpAnyH_take (i := 11) (oi := { dst := some 87, op := Op.move (Operand.tmp 86), type := 4, pos := "law.go:171", after := #[{ on := 10, ground := Ground.data }, { on := 9, ground := Ground.chain }], guard := none }) (v := ?_) rfl (by kernel_rfl) (by kernel_rfl) (by kernel_rfl) (fun _ _ _ h => h) (Or.inl ⟨by rfl, ?_⟩) (by assumption) ?_
  rotate_left 1
  · (intro W hSW; (try dsimp only at hSW); first | (go_simp; done) | (go_simp; with_reducible rfl))
  try simp only [Act.put, List.setIfInBounds_toArray, List.set_cons_zero, List.set_cons_succ]
  refine wpAnyH_take (i := 12) (oi := { dst := some 88, op := Op.move (Operand.tmp 2), type := 57, pos := "law.go:171", after := #[{ on := 11, ground := Ground.guard }], guard := some (11, true) }) (v := ?_) rfl (by kernel_rfl) (by kernel_rfl) (by kernel_rfl) (fun _ _ _ h => h) (Or.inl ⟨by rfl, ?_⟩) (by assumption) ?_
  rotate_left 1
  · (intro W hSW; (try dsimp only at hSW); first | (go_simp; done) | (go_simp; with_reducible rfl))
  try simp only [Act.put, List.setIfInBounds_toArray, List.set_cons_zero, List.set_cons_succ]
  refine wpAnyH_take (i := 13) (oi := { dst := some 89, op := Op.load 33 (Operand.tmp 9), type := 33, pos := "law.go:171", after := #[{ on := 11, ground := Ground.guard }], guard := some (11, true) }) (v := ?_) rfl (by kernel_rfl) (by kernel_rfl) (by kernel_rfl) (fun _ _ _ h => h) (Or.inl ⟨by rfl, ?_⟩) (by assumption) ?_
  rotate_left 1
  · (intro W hSW; (try dsimp only at hSW); first | (go_simp; done) | (go_simp; with_reducible rfl))
  try simp only [Act.put, List.setIfInBounds_toArray, List.set_cons_zero, List.set_cons_succ]
  refine wpAnyH_take (i := 15) (oi := { dst := some 91, op := Op.move (Operand.tmp 2), type := 57, pos := "law.go:171", after := #[{ on := 11, ground := Ground.guard }], guard := some (11, true) }) (v := ?_) rfl (by kernel_rfl) (by kernel_rfl) (by kernel_rfl) (fun _ _ _ h => h) (Or.inl ⟨by rfl, ?_⟩) (by assumption) ?_
  rotate_left 1
  · (intro W hSW; (try dsimp only at hSW); first | (go_simp; done) | (go_simp; with_reducible rfl))
  try simp only [Act.put, List.setIfInBounds_toArray, List.set_cons_zero, List.set_cons_succ]
  refine wpAnyH_take (i := 16) (oi := { dst := some 92, op := Op.load 33 (Operand.tmp 9), type := 33, pos := "law.go:171", after := #[{ on := 11, ground := Ground.guard }], guard := some (11, true) }) (v := ?_) rfl (by kernel_rfl) (by kernel_rfl) (by kernel_rfl) (fun _ _ _ h => h) (Or.inl ⟨by rfl, ?_⟩) (by assumption) ?_
  rotate_left 1
  · (intro W hSW; (try dsimp only at hSW); first | (go_simp; done) | (go_simp; with_reducible rfl))
  try simp only [Act.put, List.setIfInBounds_toArray, List.set_cons_zero, List.set_cons_succ]
  refine wpAnyH_ready (rs := [14]) (by kernel_rfl) (by simp) ?_
  refine (AllReadyH.cons (o := { dst := some 90, op := Op.call { callee := Callee.value (Operand.func 51), args := #[Operand.tmp 88, Operand.tmp 89], argTypes := #[57, 33] }, type := 4, pos := "law.go:171", after := #[{ on := 12, ground := Ground.data }, { on := 13, ground := Ground.data }, { on := 11, ground := Ground.chain }, { on := 11, ground := Ground.guard }], guard := some (11, true) }) rfl (fun K hK => ?_) AllReadyH.nil)
  rw [if_pos (by rfl)]
  go_simp
  go_at_call 51
  refine (HC1.out _ (HG.out.trans (hgr1))).mono ?_
  rintro e wc2 ⟨rfl, gc2⟩
  have hgr2 := World.grownBy.trans hgr1 gc2
  go_wp2_with fail
  refine hK.out _ _ (HS.out _ hgr2) (fun hHeld => ?_)
  clear hK K
  try simp only [Act.put, List.setIfInBounds_toArray, List.set_cons_zero, List.set_cons_succ]
  refine wpAnyH_ready (rs := [17]) (by kernel_rfl) (by simp) ?_
  refine (AllReadyH.cons (o := { dst := some 93, op := Op.call { callee := Callee.value (Operand.func 52), args := #[Operand.tmp 91, Operand.tmp 92], argTypes := #[57, 33] }, type := 4, pos := "law.go:171", after := #[{ on := 15, ground := Ground.data }, { on := 16, ground := Ground.data }, { on := 14, ground := Ground.chain }, { on := 11, ground := Ground.guard }], guard := some (11, true) }) rfl (fun K hK => ?_) AllReadyH.nil)
  rw [if_pos (by rfl)]
  go_simp
  go_at_call 52
  refine (HC2.out _ (HG.out.trans (hgr2))).mono ?_
  rintro e wc3 ⟨rfl, gc3⟩
  have hgr3 := World.grownBy.trans hgr2 gc3
  go_wp2_with fail
  refine hK.out _ _ (HS.out _ hgr3) (fun hHeld => ?_)
  clear hK K
  try simp only [Act.put, List.setIfInBounds_toArray, List.set_cons_zero, List.set_cons_succ]
  refine wpAnyH_take (i := 18) (oi := { dst := some 94, op := Op.binOp BinOp.eql 4 (Operand.tmp 90) (Operand.tmp 93) 4, type := 4, pos := "law.go:171", after := #[{ on := 14, ground := Ground.data }, { on := 17, ground := Ground.data }, { on := 11, ground := Ground.guard }], guard := some (11, true) }) (v := ?_) rfl (by kernel_rfl) (by kernel_rfl) (by kernel_rfl) (fun _ _ _ h => h) (Or.inl ⟨by rfl, ?_⟩) (by assumption) ?_
  rotate_left 1
  · (intro W hSW; (try dsimp only at hSW); first | (go_simp; done) | (go_simp; with_reducible rfl))
  try simp only [Act.put, List.setIfInBounds_toArray, List.set_cons_zero, List.set_cons_succ]
  refine wpAnyH_take (i := 19) (oi := { dst := some 95, op := Op.pick (Operand.tmp 87) (Operand.tmp 94) (Operand.const (Value.bool false)), type := 4, pos := "law.go:171", after := #[{ on := 11, ground := Ground.data }, { on := 18, ground := Ground.data }], guard := none }) (v := ?_) rfl (by kernel_rfl) (by kernel_rfl) (by kernel_rfl) (fun _ _ _ h => h) (Or.inl ⟨by rfl, ?_⟩) (by assumption) ?_
  rotate_left 1
  · (intro W hSW; (try dsimp only at hSW); first | (go_simp; done) | (go_simp; with_reducible rfl))
  try simp only [Act.put, List.setIfInBounds_toArray, List.set_cons_zero, List.set_cons_succ]
  refine wpAnyH_take (i := 20) (oi := { dst := some 96, op := Op.move (Operand.tmp 95), type := 4, pos := "law.go:171", after := #[{ on := 19, ground := Ground.data }, { on := 17, ground := Ground.chain }], guard := none }) (v := ?_) rfl (by kernel_rfl) (by kernel_rfl) (by kernel_rfl) (fun _ _ _ h => h) (Or.inl ⟨by rfl, ?_⟩) (by assumption) ?_
  rotate_left 1
  · (intro W hSW; (try dsimp only at hSW); first | (go_simp; done) | (go_simp; with_reducible rfl))
  try simp only [Act.put, List.setIfInBounds_toArray, List.set_cons_zero, List.set_cons_succ]
  refine wpAnyH_take (i := 21) (oi := { dst := some 97, op := Op.move (Operand.tmp 2), type := 57, pos := "law.go:171", after := #[{ on := 20, ground := Ground.guard }], guard := some (20, true) }) (v := ?_) rfl (by kernel_rfl) (by kernel_rfl) (by kernel_rfl) (fun _ _ _ h => h) (Or.inl ⟨by rfl, ?_⟩) (by assumption) ?_
  rotate_left 1
  · (intro W hSW; (try dsimp only at hSW); first | (go_simp; done) | (go_simp; with_reducible rfl))
  try simp only [Act.put, List.setIfInBounds_toArray, List.set_cons_zero, List.set_cons_succ]
  refine wpAnyH_take (i := 23) (oi := { dst := some 99, op := Op.move (Operand.tmp 2), type := 57, pos := "law.go:171", after := #[{ on := 20, ground := Ground.guard }], guard := some (20, true) }) (v := ?_) rfl (by kernel_rfl) (by kernel_rfl) (by kernel_rfl) (fun _ _ _ h => h) (Or.inl ⟨by rfl, ?_⟩) (by assumption) ?_
  rotate_left 1
  · (intro W hSW; (try dsimp only at hSW); first | (go_simp; done) | (go_simp; with_reducible rfl))
  try simp only [Act.put, List.setIfInBounds_toArray, List.set_cons_zero, List.set_cons_succ]
  refine wpAnyH_ready (rs := [22]) (by kernel_rfl) (by simp) ?_
  refine (AllReadyH.cons (o := { dst := some 98, op := Op.call { callee := Callee.value (Operand.func 54), args := #[Operand.tmp 97], argTypes := #[57] }, type := 67, pos := "law.go:171", after := #[{ on := 21, ground := Ground.data }, { on := 20, ground := Ground.chain }, { on := 20, ground := Ground.guard }], guard := some (20, true) }) rfl (fun K hK => ?_) AllReadyH.nil)
  rw [if_pos (by rfl)]
  go_simp
  go_at_call 54
  refine (HF1.out _ (HG.out.trans (hgr3))).mono ?_
  rintro e wc4 ⟨r1, z1, rfl, hd1, gc4⟩
  have hgr4 := World.grownBy.trans hgr3 gc4
  go_wp2_with fail
  refine hK.out _ _ (HS.out _ hgr4) (fun hHeld => ?_)
  clear hK K
  try simp only [Act.put, List.setIfInBounds_toArray, List.set_cons_zero, List.set_cons_succ]
  refine wpAnyH_ready (rs := [24]) (by kernel_rfl) (by simp) ?_
  refine (AllReadyH.cons (o := { dst := some 100, op := Op.call { callee := Callee.value (Operand.func 55), args := #[Operand.tmp 99], argTypes := #[57] }, type := 67, pos := "law.go:171", after := #[{ on := 23, ground := Ground.data }, { on := 22, ground := Ground.chain }, { on := 20, ground := Ground.guard }], guard := some (20, true) }) rfl (fun K hK => ?_) AllReadyH.nil)
  rw [if_pos (by rfl)]
  go_simp
  go_at_call 55
  refine (HF2.out _ (HG.out.trans (hgr4))).mono ?_
  rintro e wc5 ⟨r2, z2, rfl, hd2, gc5⟩
  have hgr5 := World.grownBy.trans hgr4 gc5
  replace hd1 := hd1.grown gc5
  go_wp2_with fail
  refine hK.out _ _ (HS.out _ hgr5) (fun hHeld => ?_)
  clear hK K
  try simp only [Act.put, List.setIfInBounds_toArray, List.set_cons_zero, List.set_cons_succ]
  refine wpAnyH_ready (rs := [25]) (by kernel_rfl) (by simp) ?_
  refine (AllReadyH.cons (o := { dst := some 101, op := Op.call { callee := Callee.value (Operand.func 53), args := #[Operand.tmp 98, Operand.tmp 100], argTypes := #[67, 67] }, type := 4, pos := "law.go:171", after := #[{ on := 22, ground := Ground.data }, { on := 24, ground := Ground.data }, { on := 24, ground := Ground.chain }, { on := 20, ground := Ground.guard }], guard := some (20, true) }) rfl (fun K hK => ?_) AllReadyH.nil)
  rw [if_pos (by rfl)]
  go_simp
  go_at_call 53
  refine (HFS.out _ r1 r2 z1 z2 hd1 hd2).mono ?_
  rintro e wc6 ⟨rfl, gc6⟩
  have hgr6 := World.grownBy.trans hgr5 gc6
  go_wp2_with fail
  refine hK.out _ _ (HS.out _ hgr6) (fun hHeld => ?_)
  clear hK K
  try simp only [Act.put, List.setIfInBounds_toArray, List.set_cons_zero, List.set_cons_succ]
  refine wpAnyH_take (i := 26) (oi := { dst := some 102, op := Op.pick (Operand.tmp 96) (Operand.tmp 101) (Operand.const (Value.bool false)), type := 4, pos := "law.go:171", after := #[{ on := 20, ground := Ground.data }, { on := 25, ground := Ground.data }], guard := none }) (v := ?_) rfl (by kernel_rfl) (by kernel_rfl) (by kernel_rfl) (fun _ _ _ h => h) (Or.inl ⟨by rfl, ?_⟩) (by assumption) ?_
  rotate_left 1
  · (intro W hSW; (try dsimp only at hSW); first | (go_simp; done) | (go_simp; with_reducible rfl))
  try simp only [Act.put, List.setIfInBounds_toArray, List.set_cons_zero, List.set_cons_succ]
  refine wpAnyH_take (i := 27) (oi := { dst := some 103, op := Op.move (Operand.tmp 102), type := 4, pos := "law.go:171", after := #[{ on := 26, ground := Ground.data }, { on := 25, ground := Ground.chain }], guard := none }) (v := ?_) rfl (by kernel_rfl) (by kernel_rfl) (by kernel_rfl) (fun _ _ _ h => h) (Or.inl ⟨by rfl, ?_⟩) (by assumption) ?_
  rotate_left 1
  · (intro W hSW; (try dsimp only at hSW); first | (go_simp; done) | (go_simp; with_reducible rfl))
  try simp only [Act.put, List.setIfInBounds_toArray, List.set_cons_zero, List.set_cons_succ]
  refine wpAnyH_take (i := 28) (oi := { dst := some 104, op := Op.move (Operand.tmp 2), type := 57, pos := "law.go:171", after := #[{ on := 27, ground := Ground.guard }], guard := some (27, true) }) (v := ?_) rfl (by kernel_rfl) (by kernel_rfl) (by kernel_rfl) (fun _ _ _ h => h) (Or.inl ⟨by rfl, ?_⟩) (by assumption) ?_
  rotate_left 1
  · (intro W hSW; (try dsimp only at hSW); first | (go_simp; done) | (go_simp; with_reducible rfl))
  try simp only [Act.put, List.setIfInBounds_toArray, List.set_cons_zero, List.set_cons_succ]
  refine wpAnyH_take (i := 29) (oi := { dst := some 105, op := Op.move (Operand.tmp 3), type := 57, pos := "law.go:171", after := #[{ on := 27, ground := Ground.guard }], guard := some (27, true) }) (v := ?_) rfl (by kernel_rfl) (by kernel_rfl) (by kernel_rfl) (fun _ _ _ h => h) (Or.inl ⟨by rfl, ?_⟩) (by assumption) ?_
  rotate_left 1
  · (intro W hSW; (try dsimp only at hSW); first | (go_simp; done) | (go_simp; with_reducible rfl))
  try simp only [Act.put, List.setIfInBounds_toArray, List.set_cons_zero, List.set_cons_succ]
  refine wpAnyH_take (i := 31) (oi := { dst := some 107, op := Op.move (Operand.tmp 2), type := 57, pos := "law.go:171", after := #[{ on := 27, ground := Ground.guard }], guard := some (27, true) }) (v := ?_) rfl (by kernel_rfl) (by kernel_rfl) (by kernel_rfl) (fun _ _ _ h => h) (Or.inl ⟨by rfl, ?_⟩) (by assumption) ?_
  rotate_left 1
  · (intro W hSW; (try dsimp only at hSW); first | (go_simp; done) | (go_simp; with_reducible rfl))
  try simp only [Act.put, List.setIfInBounds_toArray, List.set_cons_zero, List.set_cons_succ]
  refine wpAnyH_take (i := 32) (oi := { dst := some 108, op := Op.move (Operand.tmp 3), type := 57, pos := "law.go:171", after := #[{ on := 27, ground := Ground.guard }], guard := some (27, true) }) (v := ?_) rfl (by kernel_rfl) (by kernel_rfl) (by kernel_rfl) (fun _ _ _ h => h) (Or.inl ⟨by rfl, ?_⟩) (by assumption) ?_
  rotate_left 1
  · (intro W hSW; (try dsimp only at hSW); first | (go_simp; done) | (go_simp; with_reducible rfl))
  try simp only [Act.put, List.setIfInBounds_toArray, List.set_cons_zero, List.set_cons_succ]
  refine wpAnyH_ready (rs := [30]) (by kernel_rfl) (by simp) ?_
  refine (AllReadyH.cons (o := { dst := some 106, op := Op.call { callee := Callee.value (Operand.func 42), args := #[Operand.tmp 104, Operand.tmp 105], argTypes := #[57, 57] }, type := 4, pos := "law.go:171", after := #[{ on := 28, ground := Ground.data }, { on := 29, ground := Ground.data }, { on := 27, ground := Ground.chain }, { on := 27, ground := Ground.guard }], guard := some (27, true) }) rfl (fun K hK => ?_) AllReadyH.nil)
  rw [if_pos (by rfl)]
  go_simp
  go_at_call 42
  refine (HE1.out _ (HG.out.trans (hgr6))).mono ?_
  rintro e wc7 ⟨rfl, gc7⟩
  have hgr7 := World.grownBy.trans hgr6 gc7
  go_wp2_with fail
  refine hK.out _ _ (HS.out _ hgr7) (fun hHeld => ?_)
  clear hK K
  try simp only [Act.put, List.setIfInBounds_toArray, List.set_cons_zero, List.set_cons_succ]
  refine wpAnyH_ready (rs := [33]) (by kernel_rfl) (by simp) ?_
  refine (AllReadyH.cons (o := { dst := some 109, op := Op.call { callee := Callee.value (Operand.func 50), args := #[Operand.tmp 107, Operand.tmp 108], argTypes := #[57, 57] }, type := 4, pos := "law.go:171", after := #[{ on := 31, ground := Ground.data }, { on := 32, ground := Ground.data }, { on := 30, ground := Ground.chain }, { on := 27, ground := Ground.guard }], guard := some (27, true) }) rfl (fun K hK => ?_) AllReadyH.nil)
  rw [if_pos (by rfl)]
  go_simp
  go_at_call 50
  refine (HE2.out _ (HG.out.trans (hgr7))).mono ?_
  rintro e wc8 ⟨rfl, gc8⟩
  have hgr8 := World.grownBy.trans hgr7 gc8
  go_wp2_with fail
  refine hK.out _ _ (HS.out _ hgr8) (fun hHeld => ?_)
  clear hK K
  try simp only [Act.put, List.setIfInBounds_toArray, List.set_cons_zero, List.set_cons_succ]
  refine wpAnyH_take (i := 34) (oi := { dst := some 110, op := Op.binOp BinOp.eql 4 (Operand.tmp 106) (Operand.tmp 109) 4, type := 4, pos := "law.go:171", after := #[{ on := 30, ground := Ground.data }, { on := 33, ground := Ground.data }, { on := 27, ground := Ground.guard }], guard := some (27, true) }) (v := ?_) rfl (by kernel_rfl) (by kernel_rfl) (by kernel_rfl) (fun _ _ _ h => h) (Or.inl ⟨by rfl, ?_⟩) (by assumption) ?_
  rotate_left 1
  · (intro W hSW; (try dsimp only at hSW); first | (go_simp; done) | (go_simp; with_reducible rfl))
  try simp only [Act.put, List.setIfInBounds_toArray, List.set_cons_zero, List.set_cons_succ]
  refine wpAnyH_take (i := 35) (oi := { dst := some 111, op := Op.pick (Operand.tmp 103) (Operand.tmp 110) (Operand.const (Value.bool false)), type := 4, pos := "law.go:171", after := #[{ on := 27, ground := Ground.data }, { on := 34, ground := Ground.data }], guard := none }) (v := ?_) rfl (by kernel_rfl) (by kernel_rfl) (by kernel_rfl) (fun _ _ _ h => h) (Or.inl ⟨by rfl, ?_⟩) (by assumption) ?_
  rotate_left 1
  · (intro W hSW; (try dsimp only at hSW); first | (go_simp; done) | (go_simp; with_reducible rfl))
  try simp only [Act.put, List.setIfInBounds_toArray, List.set_cons_zero, List.set_cons_succ]
  refine wpAnyH_take (i := 36) (oi := { dst := some 10, op := Op.assign (Operand.tmp 111), type := 4, pos := "law.go:171", after := #[{ on := 35, ground := Ground.data }, { on := 33, ground := Ground.chain }, { on := 0, ground := Ground.phase }, { on := 1, ground := Ground.phase }, { on := 2, ground := Ground.phase }, { on := 3, ground := Ground.phase }, { on := 4, ground := Ground.phase }, { on := 5, ground := Ground.phase }, { on := 6, ground := Ground.phase }, { on := 7, ground := Ground.phase }, { on := 8, ground := Ground.phase }, { on := 9, ground := Ground.phase }, { on := 10, ground := Ground.phase }, { on := 11, ground := Ground.phase }, { on := 12, ground := Ground.phase }, { on := 13, ground := Ground.phase }, { on := 14, ground := Ground.phase }, { on := 15, ground := Ground.phase }, { on := 16, ground := Ground.phase }, { on := 17, ground := Ground.phase }, { on := 18, ground := Ground.phase }, { on := 19, ground := Ground.phase }, { on := 20, ground := Ground.phase }, { on := 21, ground := Ground.phase }, { on := 22, ground := Ground.phase }, { on := 23, ground := Ground.phase }, { on := 24, ground := Ground.phase }, { on := 25, ground := Ground.phase }, { on := 26, ground := Ground.phase }, { on := 27, ground := Ground.phase }, { on := 28, ground := Ground.phase }, { on := 29, ground := Ground.phase }, { on := 30, ground := Ground.phase }, { on := 31, ground := Ground.phase }, { on := 32, ground := Ground.phase }, { on := 33, ground := Ground.phase }, { on := 34, ground := Ground.phase }, { on := 35, ground := Ground.phase }], guard := none }) (v := ?_) rfl (by kernel_rfl) (by kernel_rfl) (by kernel_rfl) (fun _ _ _ h => h) (Or.inl ⟨by rfl, ?_⟩) (by assumption) ?_
  rotate_left 1
  · (intro W hSW; (try dsimp only at hSW); first | (go_simp; done) | (go_simp; with_reducible rfl))
  try simp only [Act.put, List.setIfInBounds_toArray, List.set_cons_zero, List.set_cons_succ]
  refine wpAnyH_done (by kernel_rfl) ?_ _
  have hEND := hgr8
  clear hHeld
  replace HG := Lib.hid (HG.out.trans hEND)
  clear hEND hd1 hd2
  go_wp2_with fail
  go_ret
  exact ⟨rfl, HG.out⟩
end Go.Proofs.Ytbddpjofhddilaa

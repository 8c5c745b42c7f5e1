/- Common texts of the laws of stage 9, joined: TM TN TO TP TV. -/
import Derived.Test.YtbddpjofhddilaaN10
import Derived.Test.YtbddpjofhddilaaN08
import Derived.Test.YtbddpjofhddilaaN07
import Derived.Deep.RegionHeld3
import Derived.Test.YtbddpjofhddilaaN09
/- Whether a bound is valid for a field; whether bounds are. -/
namespace Go.Proofs.Ytbddpjofhddilaa
open Go.RowKit

/-- A bound is valid for a field's columns. -/
def validX (zs : List Nat) (ss : List Int) (x : Bd) : Bool := arityB (ss.length : Int) [x.1, x.2] && (relValid ((sum zs : Nat) : Int) x.1.1 x.1.2 && (relValid ((sum zs : Nat) : Int) x.2.1 x.2.2 && (inB x.1.2 x.2.2 && inB x.2.2 (fullL zs ss))))
theorem seven_boxes (w : World) (u0 u1 u2 v0 v1 v2 v3 : Value) (s t : TypeId) :
    let W := (w.alloc (.cells #[u0, u1, u2] s)).alloc (.cells #[v0, v1, v2, v3] t)
    (W.cell? ⟨w.heap.size, 0, none⟩ = some u0 ∧ W.cell? ⟨w.heap.size, 1, none⟩ = some u1 ∧ W.cell? ⟨w.heap.size, 2, none⟩ = some u2) ∧
    W.cell? ⟨w.heap.size + 1, 0, none⟩ = some v0 ∧ W.cell? ⟨w.heap.size + 1, 1, none⟩ = some v1 ∧ W.cell? ⟨w.heap.size + 1, 2, none⟩ = some v2 ∧ W.cell? ⟨w.heap.size + 1, 3, none⟩ = some v3 := by
  refine ⟨⟨by go_simp, by go_simp, by go_simp⟩, by go_simp, by go_simp, by go_simp, by go_simp⟩

set_option maxRecDepth 100000 in
set_option maxHeartbeats 8000000 in
theorem validX_calls (zs : List Nat) (a : Option Addr) (c : Nat) (st : Int) (nm : ByteArray) (ss : List Int) (sa : Option Addr) (sc : Nat) (vr : Bool) (x : Bd) (a1 a2 : Option Addr) (c1 c2 bs bn : Nat) (w : World) (h : Nums w a c zs) (hz : ∀ z ∈ zs, z ≤ 5) (hl : zs.length ≤ 4) (hs : Ints w sa sc ss) (hsl : ss.length ≤ 3)
    (h1 : IntsW w a1 c1 x.1.2) (h2 : IntsW w a2 c2 x.2.2) (hx : x.1.2.length ≤ 100000 ∧ x.2.2.length ≤ 100000) (k0 : w.cell? ⟨bs, 0, none⟩ = some (.slice a zs.length c)) (k1 : w.cell? ⟨bs, 1, none⟩ = some (.int .i64 st)) (k2 : w.cell? ⟨bn, 0, none⟩ = some (.int .i64 ((sum zs : Nat) : Int))) :
    Calls Try.prog 97 #[.agg #[.string nm, .slice sa ss.length sc, .bool vr], bdV x.1.1 a1 x.1.2.length c1 x.2.1 a2 x.2.2.length c2, .pointer (some ⟨bs, 0, none⟩), .pointer (some ⟨bn, 0, none⟩)] w
      fun e w' => e = .returned (.bool (validX zs ss x)) ∧ w.grownBy w' none := by
  obtain ⟨⟨m1, l1⟩, m2, l2⟩ := x
  simp only [bdV] at h1 h2 hx ⊢
  have hfl : (fullL zs ss).length ≤ 100000 := by
    unfold fullL
    split
    · rw [List.length_map]
      have h3 := digs_length hz (ss.map Int.toNat) 0
      have h4 : 5 ^ (ss.map Int.toNat).length ≤ 5 ^ 3 := Nat.pow_le_pow_right (by omega) (by rw [List.length_map]; exact hsl)
      omega
    · simp
  have HFU := Lib.hid (fun (W : World) (g : w.grownBy W none) => fullS_calls zs a c st ss sa sc W (h.grown g) hz hl (hs.grown g) (by omega))
  have HV1 := Lib.hid (fun (W : World) (g : w.grownBy W none) => relValid_calls ((sum zs : Nat) : Int) m1 l1 a1 c1 W (h1.grown g) hx.1)
  have HV2 := Lib.hid (fun (W : World) (g : w.grownBy W none) => relValid_calls ((sum zs : Nat) : Int) m2 l2 a2 c2 W (h2.grown g) hx.2)
  have HI1 := Lib.hid (fun (W : World) (g : w.grownBy W none) => in_calls m1 m2 l1 l2 a1 a2 c1 c2 W (h1.grown g) (h2.grown g) hx.1 hx.2)
  have HI2 := Lib.hid (fun (W : World) (fa : Option Addr) (fc : Nat) (g : w.grownBy W none) (hf : IntsW W fa fc (fullL zs ss)) => in_calls m2 (fullK zs.length ss : Nat) l2 (fullL zs ss) a2 fa c2 fc W (h2.grown g) hf hx.2 hfl)
  have HAR := Lib.hid (fun (W : World) (g : w.grownBy W none) => sameArity_calls (ss.length : Int) [(m1, l1), (m2, l2)] (some ⟨W.heap.size, 0, none⟩) 2 _ (rels_new2 (x := (m1, l1)) (y := (m2, l2)) (h1.grown g) (h2.grown g)) (by simp))
  simp only [List.length_cons, List.length_nil] at HAR
  have hg := (World.grownBy_alloc w (.cells #[.string nm, .slice sa ss.length sc, .bool vr] 51) none).trans (World.grownBy_alloc _ (.cells #[.int .i64 m1, .slice a1 l1.length c1, .int .i64 m2, .slice a2 l2.length c2] 74) none)
  have hcs := seven_boxes w (.string nm) (.slice sa ss.length sc) (.bool vr) (.int .i64 m1) (.slice a1 l1.length c1) (.int .i64 m2) (.slice a2 l2.length c2) 51 74
  simp only at hcs
  have HM : Hid (∀ B1 B2 B3 B4 B5, arityB (ss.length : Int) [(m1, l1), (m2, l2)] = B1 → relValid ((sum zs : Nat) : Int) m1 l1 = B2 → relValid ((sum zs : Nat) : Int) m2 l2 = B3 → inB l1 l2 = B4 → inB l2 (fullL zs ss) = B5 → validX zs ss ((m1, l1), m2, l2) = (B1 && (B2 && (B3 && (B4 && B5))))) := Lib.hid (by rintro _ _ _ _ _ rfl rfl rfl rfl rfl; rfl)
  obtain ⟨k, hk⟩ : ∃ k, ss.length = k := ⟨_, rfl⟩
  obtain ⟨N, hN⟩ : ∃ N, zs.length = N := ⟨_, rfl⟩
  obtain ⟨S, hS⟩ : ∃ S, sum zs = S := ⟨_, rfl⟩
  obtain ⟨n1, hn1⟩ : ∃ n, l1.length = n := ⟨_, rfl⟩
  obtain ⟨n2, hn2⟩ : ∃ n, l2.length = n := ⟨_, rfl⟩
  obtain ⟨F, hF⟩ : ∃ F, fullL zs ss = F := ⟨_, rfl⟩
  obtain ⟨fn, hfn⟩ : ∃ n, F.length = n := ⟨_, rfl⟩
  obtain ⟨K, hK⟩ : ∃ K, fullK N ss = K := ⟨_, rfl⟩
  rw [hN, hk] at HFU
  rw [hF, hN, hK, hn2, hfn] at HI2
  rw [hn1, hn2] at HI1
  rw [hS, hn1] at HV1
  rw [hS, hn2] at HV2
  rw [hk, hn1, hn2] at HAR
  rw [hF, hS, hk] at HM
  rw [hN] at k0
  rw [hS] at k2
  rw [hk, hn1, hn2] at hcs hg ⊢
  obtain ⟨B1, hB1⟩ : ∃ B, arityB (k : Int) [(m1, l1), (m2, l2)] = B := ⟨_, rfl⟩
  obtain ⟨B2, hB2⟩ : ∃ B, relValid (S : Int) m1 l1 = B := ⟨_, rfl⟩
  obtain ⟨B3, hB3⟩ : ∃ B, relValid (S : Int) m2 l2 = B := ⟨_, rfl⟩
  obtain ⟨B4, hB4⟩ : ∃ B, inB l1 l2 = B := ⟨_, rfl⟩
  obtain ⟨B5, hB5⟩ : ∃ B, inB l2 F = B := ⟨_, rfl⟩
  have HMM := Lib.hid (HM.out B1 B2 B3 B4 B5 hB1 hB2 hB3 hB4 hB5)
  rw [hB1] at HAR
  rw [hB2] at HV1
  rw [hB3] at HV2
  rw [hB4] at HI1
  rw [hB5] at HI2
  have HFK := Lib.hid (And.intro hN (And.intro hF (And.intro hK hfn)))
  have e0 := hg.cell k0 (by simp)
  have e1 := hg.cell k1 (by simp)
  have e2 := hg.cell k2 (by simp)
  clear HM h hz hl hs hsl h1 h2 hx k0 k1 k2 hfl hN hS hn1 hn2 hF hfn hK hB1 hB2 hB3 hB4 hB5
  obtain ⟨W, hW⟩ : ∃ W, (w.alloc (.cells #[.string nm, .slice sa k sc, .bool vr] 51)).alloc (.cells #[.int .i64 m1, .slice a1 n1 c1, .int .i64 m2, .slice a2 n2 c2] 74) = W := ⟨_, rfl⟩
  rw [hW] at hg hcs e0 e1 e2
  obtain ⟨⟨f0, f1, f2⟩, p0, p1, p2, p3⟩ := hcs
  have HG := Lib.hid hg; clear hg
  have HP := Lib.hid (fun (U : World) (g : W.grownBy U none) => (⟨g.cell f1 (by simp), g.cell p0 (by simp), g.cell p1 (by simp), g.cell p2 (by simp), g.cell p3 (by simp), g.cell e2 (by simp)⟩ : U.cell? ⟨w.heap.size, 1, none⟩ = some (.slice sa k sc) ∧ U.cell? ⟨w.heap.size + 1, 0, none⟩ = some (.int .i64 m1) ∧ U.cell? ⟨w.heap.size + 1, 1, none⟩ = some (.slice a1 n1 c1) ∧ U.cell? ⟨w.heap.size + 1, 2, none⟩ = some (.int .i64 m2) ∧ U.cell? ⟨w.heap.size + 1, 3, none⟩ = some (.slice a2 n2 c2) ∧ U.cell? ⟨bn, 0, none⟩ = some (.int .i64 (S : Int))))
  go_enter Try.func97, Try.ntmps97
  go_wp2_with fail
  clear hW f0 f1 f2 p0 p1 p2 p3 e0 e1 e2 hk
  refine (HFU.out W HG.out).mono ?_
  rintro e w1 ⟨fa, fc, rfl, hsp, g1⟩
  rw [HFK.out.2.1, HFK.out.2.2.2, HFK.out.2.2.1]
  have HF1 := Lib.hid (And.intro hsp.here.weak g1)
  rw [HFK.out.2.1] at HF1
  clear hsp g1
  obtain ⟨X, hX⟩ : ∃ X, w1.alloc (.cells #[.int .i64 (K : Int), .slice fa fn fc] 53) = X := ⟨_, rfl⟩
  have y0 : X.cell? ⟨w1.heap.size, 0, none⟩ = some (.int .i64 (K : Int)) := by rw [← hX]; clear hX; go_simp
  have y1 : X.cell? ⟨w1.heap.size, 1, none⟩ = some (.slice fa fn fc) := by rw [← hX]; clear hX; go_simp
  have hgx : w1.grownBy X none := by rw [← hX]; exact World.grownBy_alloc _ _ none
  obtain ⟨gF, hgF⟩ : ∃ g, w1.heap.size = g := ⟨_, rfl⟩
  rw [hgF] at y0 y1
  have HX := Lib.hid (And.intro (HF1.out.2.trans hgx) (HF1.out.1.grown hgx))
  clear hgx
  obtain ⟨f1, p0, p1, p2, p3, e2⟩ := HP.out X HX.out.1
  have hga := World.grownBy_alloc X (.cells #[.int .i64 m1, .slice a1 n1 c1, .int .i64 m2, .slice a2 n2 c2] 53) none
  have HA := Lib.hid (And.intro hga (And.intro y0 y1))
  clear hga
  go_wp2_with fail
  clear hX hgF f1 p0 p1 p2 p3 e2 y0 y1
  refine (HAR.out X (HG.out.trans HX.out.1)).mono ?_
  rintro e w2 ⟨rfl, g2⟩
  have HG2 := Lib.hid (And.intro (HX.out.1.trans (HA.out.1.trans g2)) (And.intro ((HA.out.1.trans g2).cell HA.out.2.1 (by simp)) (And.intro ((HA.out.1.trans g2).cell HA.out.2.2 (by simp)) (HX.out.2.grown (HA.out.1.trans g2)))))
  clear g2
  cases B1 with
  | false =>
    go_wp2_with fail
    go_ret
    exact ⟨by rw [HMM.out]; rfl, HG.out.trans HG2.out.1⟩
  | true =>
  obtain ⟨f1, p0, p1, p2, p3, e2⟩ := HP.out w2 HG2.out.1
  go_wp2_with fail
  clear f1 p0 p1 p2 p3 e2
  refine (HV1.out w2 (HG.out.trans HG2.out.1)).mono ?_
  rintro e w3 ⟨rfl, g3⟩
  have HG3 := Lib.hid (And.intro (HG2.out.1.trans g3) (And.intro (g3.cell HG2.out.2.1 (by simp)) (And.intro (g3.cell HG2.out.2.2.1 (by simp)) (HG2.out.2.2.2.grown g3))))
  clear g3
  cases B2 with
  | false =>
    go_wp2_with fail
    go_ret
    exact ⟨by rw [HMM.out]; rfl, HG.out.trans HG3.out.1⟩
  | true =>
  obtain ⟨f1, p0, p1, p2, p3, e2⟩ := HP.out w3 HG3.out.1
  go_wp2_with fail
  clear f1 p0 p1 p2 p3 e2
  refine (HV2.out w3 (HG.out.trans HG3.out.1)).mono ?_
  rintro e w4 ⟨rfl, g4⟩
  have HG4 := Lib.hid (And.intro (HG3.out.1.trans g4) (And.intro (g4.cell HG3.out.2.1 (by simp)) (And.intro (g4.cell HG3.out.2.2.1 (by simp)) (HG3.out.2.2.2.grown g4))))
  clear g4
  cases B3 with
  | false =>
    go_wp2_with fail
    go_ret
    exact ⟨by rw [HMM.out]; rfl, HG.out.trans HG4.out.1⟩
  | true =>
  obtain ⟨f1, p0, p1, p2, p3, e2⟩ := HP.out w4 HG4.out.1
  go_wp2_with fail
  clear f1 p0 p1 p2 p3 e2
  refine (HI1.out w4 (HG.out.trans HG4.out.1)).mono ?_
  rintro e w5 ⟨rfl, g5⟩
  have HG5 := Lib.hid (And.intro (HG4.out.1.trans g5) (And.intro (g5.cell HG4.out.2.1 (by simp)) (And.intro (g5.cell HG4.out.2.2.1 (by simp)) (HG4.out.2.2.2.grown g5))))
  clear g5
  cases B4 with
  | false =>
    go_wp2_with fail
    go_ret
    exact ⟨by rw [HMM.out]; rfl, HG.out.trans HG5.out.1⟩
  | true =>
  obtain ⟨f1, p0, p1, p2, p3, e2⟩ := HP.out w5 HG5.out.1
  have y0 := HG5.out.2.1
  have y1 := HG5.out.2.2.1
  go_wp2_with fail
  clear f1 p0 p1 p2 p3 e2 y0 y1
  refine (HI2.out w5 fa fc (HG.out.trans HG5.out.1) HG5.out.2.2.2).mono ?_
  rintro e w6 ⟨rfl, g6⟩
  have HG6 := Lib.hid (HG5.out.1.trans g6); clear g6
  go_wp2_with fail
  go_ret
  exact ⟨by rw [HMM.out]; simp, HG.out.trans HG6.out⟩

end Go.Proofs.Ytbddpjofhddilaa
/- Whether bounds are valid. -/
namespace Go.Proofs.Ytbddpjofhddilaa
open Go.RowKit

def validF (zs : List Nat) (f : Fd) (x : Bd) : Bool := validX zs f.2.1 x
theorem held_next7k {wr W W' : World} {a0 a1 a2 a3 a4 a5 a6 : Addr} {v0 v1 v2 v3 v4 v5 v6 : Value} (g : W.grownBy W' none) (h : wr.grownBy W none) (h0 : W.cell? a0 = some v0) (h1 : W.cell? a1 = some v1) (h2 : W.cell? a2 = some v2) (h3 : W.cell? a3 = some v3) (h4 : W.cell? a4 = some v4) (h5 : W.cell? a5 = some v5) (h6 : W.cell? a6 = some v6) :
    wr.grownBy W' none ∧ W'.cell? a0 = some v0 ∧ W'.cell? a1 = some v1 ∧ W'.cell? a2 = some v2 ∧ W'.cell? a3 = some v3 ∧ W'.cell? a4 = some v4 ∧ W'.cell? a5 = some v5 ∧ W'.cell? a6 = some v6 :=
  ⟨h.trans g, g.cell h0 (by simp), g.cell h1 (by simp), g.cell h2 (by simp), g.cell h3 (by simp), g.cell h4 (by simp), g.cell h5 (by simp), g.cell h6 (by simp)⟩
set_option maxRecDepth 100000 in
set_option maxHeartbeats 4000000 in
theorem allValid_calls (zs : List Nat) (za : Option Addr) (zc : Nat) (st : Int) (bs bn : Nat) (l : List Fd) (m : List Bd) (a a' : Option Addr) (c c' : Nat) (w : World) (hzn : Nums w za zc zs) (hz : ∀ z ∈ zs, z ≤ 5) (hzl : zs.length ≤ 4) (k0 : w.cell? ⟨bs, 0, none⟩ = some (.slice za zs.length zc)) (k1 : w.cell? ⟨bs, 1, none⟩ = some (.int .i64 st)) (k2 : w.cell? ⟨bn, 0, none⟩ = some (.int .i64 ((sum zs : Nat) : Int))) (h : Fields w a c l) (h' : Bds w a' c' m) (hl : l.length ≤ 100000) (hx : ∀ x ∈ l, x.2.1 ≠ [] ∧ x.2.1.length ≤ 3) (hy : ∀ y ∈ m, y.1.2.length ≤ 100000 ∧ y.2.2.length ≤ 100000) :
    Calls Try.prog 96 #[.slice a l.length c, .slice a' m.length c', .func (.func 97) #[] #[.pointer (some ⟨bs, 0, none⟩), .pointer (some ⟨bn, 0, none⟩)]] w fun e w' => e = .returned (.bool (allB (validF zs) l m)) ∧ w.grownBy w' none := by
  obtain ⟨n, hn⟩ : ∃ n, l.length = n := ⟨_, rfl⟩
  obtain ⟨n', hn'⟩ : ∃ n', m.length = n' := ⟨_, rfl⟩
  rw [hn] at hl ⊢
  rw [hn']
  have HN := Lib.hid (And.intro hn hn')
  have HH := Lib.hid (And.intro h (And.intro h' (And.intro hx hy))); clear h h' hx hy
  have HZ := Lib.hid (And.intro hzn (And.intro hz (And.intro hzl (And.intro k0 (And.intro k1 k2))))); clear hzn hz hzl k0 k1 k2
  by_cases hnm : n = n'
  · have hB : ((n : Int) != (n' : Int)) = false := by simp; omega
    subst hnm
    clear hn hn'
    go_enter Try.func96, Try.ntmps96
    go_wp2_with fail
    go_loopg [7, 15] n (fun g s7 s15 wr => ∃ i : Nat, s15 = .int .i64 (i : Int) ∧ g = n - i ∧ i ≤ n ∧ (∀ (j : Nat) (x : Fd) (y : Bd), j < i → l[j]? = some x → m[j]? = some y → (validF zs) x y = true) ∧ w.grownBy wr none)
    case atStart => exact ⟨0, rfl, rfl, Nat.zero_le _, fun j _ _ hj => absurd hj (Nat.not_lt_zero _), grown_refl _ _⟩
    case round =>
      obtain ⟨i, rfl, hgi, hi, hok, hgr⟩ := hrel
      have HGI := Lib.hid (And.intro hgi (And.intro hok hgr)); clear hgi hok hgr
      by_cases hin : i < n
      · have hinB : decide (i < n) = true := by simpa using hin
        have hinI : (i : Int) < (n : Int) := by omega
        obtain ⟨x, hx⟩ : ∃ x, l[i]? = some x := ⟨_, List.getElem?_eq_getElem (by rw [HN.out.1]; exact hin)⟩
        obtain ⟨y, hy⟩ : ∃ y, m[i]? = some y := ⟨_, List.getElem?_eq_getElem (by rw [HN.out.2]; exact hin)⟩
        obtain ⟨b, o, rfl, hbx⟩ := (HH.out.1.grown HGI.out.2.2).2 i x hx
        obtain ⟨b', o', rfl, hby⟩ := (HH.out.2.1.grown HGI.out.2.2).2 i y hy
        obtain ⟨xc0, ⟨xa1, xk1, xc1, xi1⟩, xc2⟩ := id hbx
        obtain ⟨ya1, yk1, ya2, yk2, yc0, yc1, yc2, yc3, yi1, yi2⟩ := hby.parts
        have HX := Lib.hid (And.intro hx hy)
        have hxl := HH.out.2.2.1 x (List.mem_of_getElem? hx)
        have HC := Lib.hid (fun (W : World) (g : wr.grownBy W none) => validX_calls zs za zc st x.1 x.2.1 xa1 xk1 x.2.2 y ya1 ya2 yk1 yk2 bs bn W (HZ.out.1.grown (HGI.out.2.2.trans g)) HZ.out.2.1 HZ.out.2.2.1 ((xi1.grown g).strict hxl.1) hxl.2 (yi1.grown g) (yi2.grown g) (HH.out.2.2.2 y (List.mem_of_getElem? hy)) ((HGI.out.2.2.trans g).cell HZ.out.2.2.2.1 (by simp)) ((HGI.out.2.2.trans g).cell HZ.out.2.2.2.2.1 (by simp)) ((HGI.out.2.2.trans g).cell HZ.out.2.2.2.2.2 (by simp)))
        simp only [bdV] at HC
        rw [show validX zs x.2.1 y = validF zs x y from rfl] at HC
        clear hxl
        obtain ⟨B, hBB⟩ : ∃ B, (validF zs) x y = B := ⟨_, rfl⟩
        rw [hBB] at HC
        have HBB := Lib.hid hBB
        clear hBB hx hy hbx hby xi1 yi1 yi2
        go_wp2_with fail
        go_region_held3 (fun w' => wr.grownBy w' none ∧ w'.cell? ⟨b, o + i * 3, none⟩ = some (.string x.1) ∧ w'.cell? ⟨b, o + i * 3 + 1, none⟩ = some (.slice xa1 x.2.1.length xk1) ∧ w'.cell? ⟨b, o + i * 3 + 2, none⟩ = some (.bool x.2.2) ∧ w'.cell? ⟨b', o' + i * 4, none⟩ = some (.int .i64 y.1.1) ∧ w'.cell? ⟨b', o' + i * 4 + 1, none⟩ = some (.slice ya1 y.1.2.length yk1) ∧ w'.cell? ⟨b', o' + i * 4 + 2, none⟩ = some (.int .i64 y.2.1) ∧ w'.cell? ⟨b', o' + i * 4 + 3, none⟩ = some (.slice ya2 y.2.2.length yk2))
          (first | exact ⟨⟨rfl, rfl, rfl, Nat.le_refl _, fun _ _ _ => rfl⟩, xc0, xc1, xc2, yc0, yc1, yc2, yc3⟩ | (go_split_ands; exact held_next7k g3 (by assumption) (by assumption) (by assumption) (by assumption) (by assumption) (by assumption) (by assumption) (by assumption)) | fail)
          (first | (go_at_call 97; with_reducible refine (HC.out _ ?_).mono ?_; (go_split_ands; assumption); rintro e w3 ⟨rfl, g3⟩) | fail)
        all_goals
          have h14 : wr.grownBy w3 none := by go_split_ands; assumption
          have HG := Lib.hid (HGI.out.2.2.trans h14)
          clear h14
          cases B with
          | true =>
            go_wp2_with fail
            go_roundg (n - (i + 1))
            case measure => rw [HGI.out.1]; omega
            case rel => exact ⟨i + 1, rfl, rfl, by omega, fun j x' y' hj hx' hy' => by
              by_cases hji : j < i
              · exact HGI.out.2.1 j x' y' hji hx' hy'
              · have : j = i := by omega
                subst this
                rw [HX.out.1] at hx'
                rw [HX.out.2] at hy'
                cases hx'
                cases hy'
                exact HBB.out, HG.out⟩
          | false =>
            have HR : Hid (allB (validF zs) l m = false) := Lib.hid (by
              cases hq : allB (validF zs) l m with
              | false => rfl
              | true => have h1 := (allB_iff.1 hq).2 i x y HX.out.1 HX.out.2; rw [HBB.out] at h1; cases h1)
            go_wp2_with fail
            go_ret
            exact ⟨by rw [HR.out]; rfl, HG.out⟩
      · have hie : i = n := by omega
        subst hie
        have hinB : decide (i < i) = false := by simp
        have HR : Hid (allB (validF zs) l m = true) := Lib.hid (allB_iff.2 ⟨by rw [HN.out.1, HN.out.2], fun j x y hx hy => HGI.out.2.1 j x y (by have := (List.getElem?_eq_some_iff.1 hx).1; rw [HN.out.1] at this; exact this) hx hy⟩)
        go_wp2_with fail
        go_ret
        exact ⟨by rw [HR.out]; rfl, HGI.out.2.2⟩
  · have hB : ((n : Int) != (n' : Int)) = true := by simp; omega
    have HR : Hid (allB (validF zs) l m = false) := Lib.hid (by
      cases hq : allB (validF zs) l m with
      | false => rfl
      | true => exact absurd (by rw [← hn, ← hn']; exact (allB_iff.1 hq).1) hnm)
    clear hn hn'
    go_enter Try.func96, Try.ntmps96
    go_wp2_with fail
    go_ret
    exact ⟨by rw [HR.out]; rfl, grown_refl _ _⟩

set_option maxRecDepth 100000 in
set_option maxHeartbeats 4000000 in
theorem bValid_calls (s1 fa s3 s4 : Option Addr) (ns c1 fc n3 c3 n4 c4 : Nat) (F : List Fd) (zs : List Nat) (za : Option Addr) (zc : Nat) (st : Int) (B : List Bd) (ba : Option Addr) (bc : Nat) (w : World) (hF : Fields w fa fc F) (hzn : Nums w za zc zs) (hz : ∀ z ∈ zs, z ≤ 5) (hzl : zs.length ≤ 4) (hB : Bds w ba bc B)
    (hfl : F.length ≤ 100000) (hff : ∀ f ∈ F, f.2.1 ≠ [] ∧ f.2.1.length ≤ 3) (hbl : ∀ x ∈ B, x.1.2.length ≤ 100000 ∧ x.2.2.length ≤ 100000) :
    Calls Try.prog 45 #[.agg #[.slice s1 ns c1, .slice fa F.length fc, .slice s3 n3 c3, .slice s4 n4 c4], .agg #[.slice za zs.length zc, .int .i64 st], .slice ba B.length bc] w fun e w' => e = .returned (.bool (allB (validF zs) F B)) ∧ w.grownBy w' none := by
  have HA := Lib.hid (fun (W : World) (g : w.grownBy W none) => atoms_calls zs za zc st W (hzn.grown g) hz hzl)
  have HV := Lib.hid (fun (W : World) (bs bn : Nat) (g : w.grownBy W none) (k0 : W.cell? ⟨bs, 0, none⟩ = some (.slice za zs.length zc)) (k1 : W.cell? ⟨bs, 1, none⟩ = some (.int .i64 st)) (k2 : W.cell? ⟨bn, 0, none⟩ = some (.int .i64 ((sum zs : Nat) : Int))) =>
    allValid_calls zs za zc st bs bn F B fa ba fc bc W (hzn.grown g) hz hzl k0 k1 k2 (hF.grown g) (hB.grown g) hfl hff hbl)
  have hg := (World.grownBy_alloc w (.cells #[.slice s1 ns c1, .slice fa F.length fc, .slice s3 n3 c3, .slice s4 n4 c4] 27) none).trans (World.grownBy_alloc _ (.cells #[.slice za zs.length zc, .int .i64 st] 30) none)
  have hc1 : ((w.alloc (.cells #[.slice s1 ns c1, .slice fa F.length fc, .slice s3 n3 c3, .slice s4 n4 c4] 27)).alloc (.cells #[.slice za zs.length zc, .int .i64 st] 30)).cell? ⟨w.heap.size, 1, none⟩ = some (.slice fa F.length fc) := by go_simp
  have hc2 : ((w.alloc (.cells #[.slice s1 ns c1, .slice fa F.length fc, .slice s3 n3 c3, .slice s4 n4 c4] 27)).alloc (.cells #[.slice za zs.length zc, .int .i64 st] 30)).cell? ⟨w.heap.size + 1, 0, none⟩ = some (.slice za zs.length zc) := by go_simp
  have hc3 : ((w.alloc (.cells #[.slice s1 ns c1, .slice fa F.length fc, .slice s3 n3 c3, .slice s4 n4 c4] 27)).alloc (.cells #[.slice za zs.length zc, .int .i64 st] 30)).cell? ⟨w.heap.size + 1, 1, none⟩ = some (.int .i64 st) := by go_simp
  obtain ⟨f, hf⟩ : ∃ f, F.length = f := ⟨_, rfl⟩
  obtain ⟨N, hN⟩ : ∃ f, zs.length = f := ⟨_, rfl⟩
  obtain ⟨S, hS⟩ : ∃ f, sum zs = f := ⟨_, rfl⟩
  obtain ⟨m, hm⟩ : ∃ f, B.length = f := ⟨_, rfl⟩
  rw [hN, hS] at HA
  rw [hf, hN, hS, hm] at HV
  rw [hf, hN] at hg hc1 hc2 hc3
  rw [hf, hN, hm]
  clear hF hzn hz hzl hB hfl hff hbl hf hN hS hm
  obtain ⟨Q, hQ⟩ : ∃ Q, allB (validF zs) F B = Q := ⟨_, rfl⟩
  rw [hQ] at HV ⊢
  clear hQ
  obtain ⟨W, hW⟩ : ∃ W, (w.alloc (.cells #[.slice s1 ns c1, .slice fa f fc, .slice s3 n3 c3, .slice s4 n4 c4] 27)).alloc (.cells #[.slice za N zc, .int .i64 st] 30) = W := ⟨_, rfl⟩
  rw [hW] at hg hc1 hc2 hc3
  have HG := Lib.hid hg; clear hg
  go_enter Try.func45, Try.ntmps45
  go_wp2_with fail
  clear hW
  refine (HA.out W HG.out).mono ?_
  rintro e w1 ⟨rfl, g1⟩
  have hga := World.grownBy_alloc w1 (.cells #[.int .i64 (S : Int)] 3) none
  have d1 := (g1.trans hga).cell hc1 (by simp)
  have d2 := (g1.trans hga).cell hc2 (by simp)
  have d3 := (g1.trans hga).cell hc3 (by simp)
  have d4 : (w1.alloc (.cells #[.int .i64 (S : Int)] 3)).cell? ⟨w1.heap.size, 0, none⟩ = some (.int .i64 (S : Int)) := by go_simp
  have HG1 := Lib.hid ((HG.out.trans g1).trans hga)
  have HD := Lib.hid (And.intro d2 (And.intro d3 d4))
  clear hc1 hc2 hc3 g1 hga d2 d3 d4
  go_wp2_with fail
  refine (HV.out _ _ _ HG1.out HD.out.1 HD.out.2.1 HD.out.2.2).mono ?_
  rintro e w2 ⟨rfl, g2⟩
  have HG2 := Lib.hid (HG1.out.trans g2); clear g2 d1
  go_wp2_with fail
  go_ret
  exact ⟨rfl, HG2.out⟩
end Go.Proofs.Ytbddpjofhddilaa
/- The default bounds: the program's. -/
namespace Go.Proofs.Ytbddpjofhddilaa
open Go.RowKit

/-- The default bound of a field. -/
def defX (zs : List Nat) (f : Fd) : Bd := (((fullK zs.length f.2.1 : Nat), []), ((fullK zs.length f.2.1 : Nat), fullL zs f.2.1))
theorem map_take_next {α β : Type} {f : α → β} {l : List α} {i : Nat} {x : α} (hx : l[i]? = some x) : (l.take (i + 1)).map f = (l.take i).map f ++ [f x] := by
  rw [List.take_add_one, hx, Option.toList_some, List.map_append]; rfl

set_option maxRecDepth 100000 in
set_option maxHeartbeats 8000000 in
theorem default_calls (s1 fa s3 s4 : Option Addr) (ns c1 fc n3 c3 n4 c4 : Nat) (F : List Fd) (zs : List Nat) (za : Option Addr) (zc : Nat) (st : Int) (w : World) (hF : Fields w fa fc F) (hzn : Nums w za zc zs) (hz : ∀ z ∈ zs, z ≤ 5) (hzl : zs.length ≤ 4) (hfl : F.length ≤ 100) (hff : ∀ f ∈ F, f.2.1 ≠ [] ∧ f.2.1.length ≤ 3) :
    Calls Try.prog 43 #[.agg #[.slice s1 ns c1, .slice fa F.length fc, .slice s3 n3 c3, .slice s4 n4 c4], .agg #[.slice za zs.length zc, .int .i64 st]] w
      fun e w' => ∃ a c, e = .returned (.slice a F.length c) ∧ Span w.heap.size w'.heap.size w' (fun W => Bds W a c (F.map (defX zs))) ∧ w.grownBy w' none := by
  have HFU := Lib.hid (fun (W : World) (ss : List Int) (ta : Option Addr) (tc : Nat) (g : w.grownBy W none) (ht : Ints W ta tc ss) (hl : ss.length ≤ 1000) => fullS_calls zs za zc st ss ta tc W (hzn.grown g) hz hzl ht hl)
  obtain ⟨i0, hi0, hz0, hz1, hz2⟩ := info_parts info74
  have hg := (World.grownBy_alloc w (.cells #[.slice s1 ns c1, .slice fa F.length fc, .slice s3 n3 c3, .slice s4 n4 c4] 27) none).trans (World.grownBy_alloc _ (.cells #[.slice za zs.length zc, .int .i64 st] 30) none)
  have hc1 : ((w.alloc (.cells #[.slice s1 ns c1, .slice fa F.length fc, .slice s3 n3 c3, .slice s4 n4 c4] 27)).alloc (.cells #[.slice za zs.length zc, .int .i64 st] 30)).cell? ⟨w.heap.size, 1, none⟩ = some (.slice fa F.length fc) := by go_simp
  have hc2 : ((w.alloc (.cells #[.slice s1 ns c1, .slice fa F.length fc, .slice s3 n3 c3, .slice s4 n4 c4] 27)).alloc (.cells #[.slice za zs.length zc, .int .i64 st] 30)).cell? ⟨w.heap.size + 1, 0, none⟩ = some (.slice za zs.length zc) := by go_simp
  have hc3 : ((w.alloc (.cells #[.slice s1 ns c1, .slice fa F.length fc, .slice s3 n3 c3, .slice s4 n4 c4] 27)).alloc (.cells #[.slice za zs.length zc, .int .i64 st] 30)).cell? ⟨w.heap.size + 1, 1, none⟩ = some (.int .i64 st) := by go_simp
  obtain ⟨n, hn⟩ : ∃ f, F.length = f := ⟨_, rfl⟩
  obtain ⟨N, hN⟩ : ∃ f, zs.length = f := ⟨_, rfl⟩
  rw [hn] at hfl
  rw [hN] at HFU
  rw [hn, hN] at hg hc1 hc2 hc3
  rw [hn, hN]
  have HH := Lib.hid (And.intro hF (And.intro hff (And.intro hn hN)))
  clear hF hzn hz hzl hff hn hN
  obtain ⟨W, hW⟩ : ∃ W, (w.alloc (.cells #[.slice s1 ns c1, .slice fa n fc, .slice s3 n3 c3, .slice s4 n4 c4] 27)).alloc (.cells #[.slice za N zc, .int .i64 st] 30) = W := ⟨_, rfl⟩
  rw [hW] at hg hc1 hc2 hc3
  have HG := Lib.hid hg; clear hg
  have HC := Lib.hid (And.intro hc2 hc3); clear hc2 hc3
  go_enter Try.func43, Try.ntmps43
  go_wp2_with fail
  clear hW hc1
  go_loopg [5, 7, 8, 12] n (fun g s5 s7 s8 s12 wr => ∃ (i : Nat) (D : List Db), s12 = .int .i64 (i : Int) ∧ g = n - i ∧ i ≤ n ∧ D.map (·.1) = (F.take i).map (defX zs) ∧ OutB wr W.heap.size s5 D ∧ W.grownBy wr none)
  case atStart => exact ⟨0, [], rfl, rfl, Nat.zero_le _, rfl, Out.start _ _ _, grown_refl _ _⟩
  case round =>
    obtain ⟨i, D, rfl, hgi, hi, hD, hO, hgr⟩ := hrel
    have hDl : D.length = i := by rw [← List.length_map (f := (·.1)), hD, List.length_map, List.length_take, HH.out.2.2.1]; omega
    have HI := Lib.hid (And.intro hgi (And.intro hD (And.intro hgr hDl))); clear hgi hD hgr
    have HO := Lib.hid hO; clear hO
    by_cases hin : i < n
    · have hinB : decide (i < n) = true := by simpa using hin
      have hinI : (i : Int) < (n : Int) := by omega
      obtain ⟨f, hx⟩ : ∃ f, F[i]? = some f := ⟨_, List.getElem?_eq_getElem (by rw [HH.out.2.2.1]; exact hin)⟩
      obtain ⟨b, o, rfl, e0, ⟨ta, tc, e1, ht⟩, e2⟩ := (HH.out.1.grown (HG.out.trans HI.out.2.2.1)).2 i f hx
      have hfl2 := HH.out.2.1 f (List.mem_of_getElem? hx)
      have HX := Lib.hid (And.intro hx (And.intro (ht.strict hfl2.1) hfl2.2)); clear hx ht hfl2
      have hd := HC.out
      have d2 := HI.out.2.2.1.cell hd.1 (by simp)
      have d3 := HI.out.2.2.1.cell hd.2 (by simp)
      clear hd
      obtain ⟨ss, hss⟩ : ∃ ss, f.2.1 = ss := ⟨_, rfl⟩
      obtain ⟨p, hp⟩ : ∃ p, ss.length = p := ⟨_, rfl⟩
      rw [hss, hp] at e1
      rw [hss] at HX
      have HSS := Lib.hid (And.intro hss hp); clear hss hp
      obtain ⟨ga, gc, hs5⟩ := own_shape HO.out.own
      subst hs5
      rw [hDl] at HO ⊢
      clear hDl
      have hgb := World.grownBy_alloc wr (.cells #[.string f.1, .slice ta p tc, .bool f.2.2] 51) none
      have d2' := hgb.cell d2 (by simp)
      have d3' := hgb.cell d3 (by simp)
      have HB := Lib.hid hgb; clear hgb
      have HFF := Lib.hid (HFU.out _ ss ta tc (HG.out.trans (HI.out.2.2.1.trans HB.out)) (HX.out.2.1.grown HB.out) (by have := HX.out.2.2; omega))
      rw [HSS.out.2] at HFF
      go_wp2_with fail
      refine HFF.out.mono ?_
      rintro e w1 ⟨ra, rc, rfl, hsp, g1⟩
      clear HFF d2 d3 d2' d3' e0 e1 e2
      have HDX : Hid (defX zs f = ((((fullK N ss : Nat) : Int), []), (((fullK N ss : Nat) : Int), fullL zs ss))) := Lib.hid (by rw [defX, HSS.out.1, HH.out.2.2.2])
      obtain ⟨K, hK⟩ : ∃ K, fullK N ss = K := ⟨_, rfl⟩
      obtain ⟨L, hL⟩ : ∃ K, fullL zs ss = K := ⟨_, rfl⟩
      obtain ⟨q, hq⟩ : ∃ K, L.length = K := ⟨_, rfl⟩
      rw [hK, hL] at HDX
      rw [hL] at hsp
      rw [hK, hL, hq]
      have ga1 := World.grownBy_alloc w1 (.cells #[.int .i64 (K : Int), .slice ra q rc] 53) none
      have y0 : (w1.alloc (.cells #[.int .i64 (K : Int), .slice ra q rc] 53)).cell? ⟨w1.heap.size, 0, none⟩ = some (.int .i64 (K : Int)) := by go_simp
      have y1 : (w1.alloc (.cells #[.int .i64 (K : Int), .slice ra q rc] 53)).cell? ⟨w1.heap.size, 1, none⟩ = some (.slice ra q rc) := by go_simp
      obtain ⟨X, hX⟩ : ∃ X, w1.alloc (.cells #[.int .i64 (K : Int), .slice ra q rc] 53) = X := ⟨_, rfl⟩
      rw [hX] at ga1 y0 y1
      have hg2 := HB.out.trans (g1.trans ga1)
      have hsz : wr.heap.size ≤ (wr.alloc (.cells #[.string f.1, .slice ta p tc, .bool f.2.2] 51)).heap.size := HB.out.size
      have hbs : W.heap.size ≤ wr.heap.size := HI.out.2.2.1.size
      have hs2 := ((hsp.map (Q := fun W => IntsW W none 0 [] ∧ IntsW W ra rc L) (fun W h => ⟨intsW_nil _ _ _, h.weak⟩)).grown ga1).wide (lo' := wr.heap.size) hsz ga1.size (Nat.le_refl _)
      have HO1 := Lib.hid (Out.quiet HO.out hg2 (fun x e => by cases e))
      have hlo : ∀ x, (Value.slice ga i gc).ownBlock = some x → x < wr.heap.size ∨ X.heap.size ≤ x := fun x hx => .inl (HO.out.own.lt x hx).2
      have HS := Lib.hid (And.intro hs2 (And.intro hbs (And.intro hlo (HI.out.2.2.1.trans hg2))))
      have hxs : W.heap.size ≤ X.heap.size := Nat.le_trans hbs hg2.size
      have HL := Lib.hid (And.intro hL hq)
      clear hs2 hbs hlo hg2 hsz ga1 hsp g1 hK hL hq
      have HOW : Hid (X.ownsRow W.heap.size 74 4 (.slice ga i gc) i (D.flatMap bdCells)) := Lib.hid (by have := HO1.out.own; rw [HI.out.2.2.2] at this; exact this)
      go_wp2_with (at_builtin; refine wpList_append_own_at _ rfl _ _ 57 rfl W.heap.size 74 i0 (.agg #[.int .i64 0, .slice none 0 0, .int .i64 0, .slice none 0 0]) 4 64 Try.underlying57 hi0 hz0 hz1 hz2 rfl (by decide) _ _ _ rfl (HOW.out.alloc _) ⟨X.heap.size, 0, none⟩ 1 1 [.int .i64 (K : Int), .slice none 0 0, .int .i64 (K : Int), .slice ra q rc] rfl rfl (cell_four_new _ _ _ _ _ _) (fun u hu => by simp at hu; rcases hu with rfl | rfl | rfl | rfl <;> rfl) (by unfold maxLen; omega) (by omega) (by simp only [World.size_alloc]; omega) ?_; intro v' w6 hown' hgrow6 hnil6 hat6; obtain ⟨g', cap', rfl⟩ := own_shape hown')
      go_roundg (n - (i + 1))
      case measure => rw [HI.out.1]; omega
      case rel =>
        refine ⟨i + 1, D ++ [(((((K : Nat) : Int), []), (((K : Nat) : Int), L)), (none, 0), (ra, rc))], rfl, rfl, by omega, by rw [List.map_append, HI.out.2.1, map_take_next HX.out.1, HDX.out]; rfl, ?_, ?_⟩
        · refine Out.push HO1.out (d := (((((K : Nat) : Int), []), (((K : Nat) : Int), L)), (none, 0), (ra, rc))) HS.out.1 HS.out.2.1 HS.out.2.2.1 (by rw [HI.out.2.2.2]; simpa [bdCells, HL.out.2] using hown') hgrow6 hat6
        · have h7 := HS.out.2.2.2
          exact grown_own (h7.trans (World.grownBy_alloc _ _ none)) hgrow6 (fun k hk => (HOW.out.lt k hk).1)
    · have hie : i = n := by omega
      subst hie
      have hinB : decide (i < i) = false := by simp
      obtain ⟨a2, c2, hv, hsp⟩ := OutB.bds HO.out
      rw [List.length_map, hDl] at hv
      rw [HI.out.2.1, List.take_of_length_le (by rw [HH.out.2.2.1]; exact Nat.le_refl _)] at hsp
      subst hv
      have HSP := Lib.hid hsp; clear hsp hDl
      go_wp2_with fail
      go_ret
      exact ⟨a2, c2, rfl, HSP.out.wide HG.out.size (Nat.le_refl _) (Nat.le_refl _), HG.out.trans HI.out.2.2.1⟩
end Go.Proofs.Ytbddpjofhddilaa
/- The default bounds: the reference's. -/
namespace Go.Proofs.Ytbddpjofhddilaa
open Go.RowKit

theorem Out.less {δ : Type} {cs : δ → List Value} {k : Nat} {P : δ → World → Prop} {w : World} {B B' : Nat} {e : TypeId} {v : Value} {D : List δ} (h : Out cs k P w B e v D) (hB : B' ≤ B) : Out cs k P w B' e v D :=
  ⟨⟨h.own.1, h.own.2.imp id (fun ⟨g, cap, cur, e, hb, r⟩ => ⟨g, cap, cur, e, Nat.le_trans hB hb, r⟩)⟩, fun d hd => by obtain ⟨lo, hi, hs, hb, hx⟩ := h.el d hd; exact ⟨lo, hi, hs, Nat.le_trans hB hb, hx⟩⟩
/-- An append of one element, where the order of a region is drawn. -/
theorem ready_append_g {ops : Array Oper} {o : Oper} {a : Act} {Q : Exit → Act → World → Prop} {K' : Act → World → Prop} {w : World} (t e : TypeId) (s x : Operand) (hgd : o.guard = none)
    (ho : o.op = .call { callee := .builtin .append, args := #[s, x], argTypes := #[t, t] }) {i0 : TypeInfo} {z : Value} {k bytes : Nat} (hund : Try.prog.underlying t = some (.slice e)) (hi0 : Try.prog.info? e = some i0) (hz0 : i0.zero = some z) (hz1 : i0.size = k) (hz2 : i0.bytes = bytes) (hzc : z.cells.size = k) (hk : 0 < k) (hb : bytes ≤ 1000000)
    (base : Nat) (v : Value) (n : Nat) (xs : List Value) (hs : a.eval s = v) (hown : w.ownsRow base e k v n xs)
    (ad : Addr) (us : List Value) (hl : us.length = k) (hx : a.eval x = .slice (some ad) 1 1) (hnews : ∀ j u, us[j]? = some u → w.cell? (ad.add j) = some u) (h1 : ∀ u ∈ us, u.oneCell' = true)
    (h63 : n ≤ 1000000) (hbase : base ≤ w.heap.size)
    (h : ∀ v' w', w'.ownsRow base e k v' (n + 1) (xs ++ us) → w.grownBy w' v.ownBlock → (v'.ownBlock = v.ownBlock ∨ v'.ownBlock = some w.heap.size) → K' (a.put o.dst v') w') :
    if Region.wanted o (yielded ops a.tmps) = true then Oper.wp Try.prog o a w K' Q else K' (a.put o.dst undef) w := by
  have hbn : (n + 1) * bytes ≤ 140737488355328 := Nat.le_trans (Nat.mul_le_mul (show n + 1 ≤ 1000001 by omega) hb) (by omega)
  obtain ⟨v', w', hr, h2, h3, h4, h5⟩ := run_append_own_at (P := Try.prog) w base t o.type e i0 z k bytes hund hi0 hz0 hz1 hz2 hzc hk v n xs hown ad 1 1 us (by rw [hl, Nat.one_mul]) hnews h1 (by unfold maxLen; omega) hbn hbase
  have hw : Region.wanted o (yielded ops a.tmps) = true := by simp only [Region.wanted, hgd]
  rw [if_pos hw]
  unfold Oper.wp execOp
  simp only [ho, resolve, invoke, builtin, Sem.run_bind, Sem.run_pure, Result.andThen_ok, List.map_toArray, List.map_cons, List.map_nil, hs, hx, hr]
  exact h v' w' h2 h3 h5

set_option maxRecDepth 100000 in
set_option maxHeartbeats 8000000 in
theorem rDefault_calls (s1 fa s3 s4 : Option Addr) (ns c1 fc n3 c3 n4 c4 : Nat) (F : List Fd) (zs : List Nat) (za : Option Addr) (zc : Nat) (st : Int) (w : World) (hF : Fields w fa fc F) (hzn : Nums w za zc zs) (hz : ∀ z ∈ zs, z ≤ 5) (hzl : zs.length ≤ 4) (hfl : F.length ≤ 100) (hff : ∀ f ∈ F, f.2.1 ≠ [] ∧ f.2.1.length ≤ 3) (hfit : ∀ f ∈ F, fits zs.length f.2.1 = true) :
    Calls Try.prog 44 #[.agg #[.slice s1 ns c1, .slice fa F.length fc, .slice s3 n3 c3, .slice s4 n4 c4], .agg #[.slice za zs.length zc, .int .i64 st]] w
      fun e w' => ∃ a c, e = .returned (.slice a F.length c) ∧ ∃ v D, v = .slice a F.length c ∧ OutB w' w.heap.size v D ∧ D.map (·.1) = F.map (defX zs) ∧ w.grownBy w' none := by
  have HFU := Lib.hid (fun (W : World) (ss : List Int) (ta : Option Addr) (tc : Nat) (g : w.grownBy W none) (ht : Ints W ta tc ss) (hl : ss.length ≤ 1000) => rFullS_calls zs za zc st ss ta tc W (hzn.grown g) hz hzl ht hl)
  obtain ⟨i0, hi0, hz0, hz1, hz2⟩ := info_parts info74
  have hg := (World.grownBy_alloc w (.cells #[.slice s1 ns c1, .slice fa F.length fc, .slice s3 n3 c3, .slice s4 n4 c4] 27) none).trans (World.grownBy_alloc _ (.cells #[.slice za zs.length zc, .int .i64 st] 30) none)
  have hc1 : ((w.alloc (.cells #[.slice s1 ns c1, .slice fa F.length fc, .slice s3 n3 c3, .slice s4 n4 c4] 27)).alloc (.cells #[.slice za zs.length zc, .int .i64 st] 30)).cell? ⟨w.heap.size, 1, none⟩ = some (.slice fa F.length fc) := by go_simp
  have hc2 : ((w.alloc (.cells #[.slice s1 ns c1, .slice fa F.length fc, .slice s3 n3 c3, .slice s4 n4 c4] 27)).alloc (.cells #[.slice za zs.length zc, .int .i64 st] 30)).cell? ⟨w.heap.size + 1, 0, none⟩ = some (.slice za zs.length zc) := by go_simp
  have hc3 : ((w.alloc (.cells #[.slice s1 ns c1, .slice fa F.length fc, .slice s3 n3 c3, .slice s4 n4 c4] 27)).alloc (.cells #[.slice za zs.length zc, .int .i64 st] 30)).cell? ⟨w.heap.size + 1, 1, none⟩ = some (.int .i64 st) := by go_simp
  obtain ⟨n, hn⟩ : ∃ f, F.length = f := ⟨_, rfl⟩
  obtain ⟨N, hN⟩ : ∃ f, zs.length = f := ⟨_, rfl⟩
  rw [hn] at hfl
  rw [hN] at HFU hfit
  rw [hn, hN] at hg hc1 hc2 hc3
  rw [hn, hN]
  have HH := Lib.hid (And.intro hF (And.intro hff (And.intro hn (And.intro hN hfit))))
  clear hF hzn hz hzl hff hn hN hfit
  obtain ⟨W, hW⟩ : ∃ W, (w.alloc (.cells #[.slice s1 ns c1, .slice fa n fc, .slice s3 n3 c3, .slice s4 n4 c4] 27)).alloc (.cells #[.slice za N zc, .int .i64 st] 30) = W := ⟨_, rfl⟩
  rw [hW] at hg hc1 hc2 hc3
  have HG := Lib.hid hg; clear hg
  have HC := Lib.hid (And.intro hc1 (And.intro hc2 hc3)); clear hc1 hc2 hc3
  go_enter Try.func44, Try.ntmps44
  go_wp2_with fail
  clear hW
  go_loopg [5, 6, 7] n (fun g s5 s6 s7 wr => ∃ (i : Nat) (D : List Db), s6 = .int .i64 (i : Int) ∧ g = n - i ∧ i ≤ n ∧ D.map (·.1) = (F.take i).map (defX zs) ∧ OutB wr W.heap.size s5 D ∧ W.grownBy wr none)
  case atStart => exact ⟨0, [], rfl, rfl, Nat.zero_le _, rfl, Out.start _ _ _, grown_refl _ _⟩
  case round =>
    obtain ⟨i, D, rfl, hgi, hi, hD, hO, hgr⟩ := hrel
    have hDl : D.length = i := by rw [← List.length_map (f := (·.1)), hD, List.length_map, List.length_take, HH.out.2.2.1]; omega
    have HI := Lib.hid (And.intro hgi (And.intro hD (And.intro hgr hDl))); clear hgi hD hgr
    have HO := Lib.hid hO; clear hO
    have hd := HC.out
    have d1 := HI.out.2.2.1.cell hd.1 (by simp)
    have d2 := HI.out.2.2.1.cell hd.2.1 (by simp)
    have d3 := HI.out.2.2.1.cell hd.2.2 (by simp)
    obtain ⟨ga, gc, hs5⟩ := own_shape HO.out.own
    subst hs5
    by_cases hin : i < n
    · have hinB : decide (i < n) = true := by simpa using hin
      have hinI : (i : Int) < (n : Int) := by omega
      obtain ⟨f, hx⟩ : ∃ f, F[i]? = some f := ⟨_, List.getElem?_eq_getElem (by rw [HH.out.2.2.1]; exact hin)⟩
      obtain ⟨b, o, rfl, e0, ⟨ta, tc, e1, ht⟩, e2⟩ := (HH.out.1.grown HG.out).2 i f hx
      have hfl2 := HH.out.2.1 f (List.mem_of_getElem? hx)
      have HX := Lib.hid (And.intro hx (And.intro (ht.strict hfl2.1) (And.intro hfl2.2 (HH.out.2.2.2.2 f (List.mem_of_getElem? hx))))); clear hx ht hfl2
      obtain ⟨ss, hss⟩ : ∃ ss, f.2.1 = ss := ⟨_, rfl⟩
      obtain ⟨p, hp⟩ : ∃ p, ss.length = p := ⟨_, rfl⟩
      rw [hss, hp] at e1
      rw [hss] at HX
      have HSS := Lib.hid (And.intro hss hp); clear hss hp
      rw [hDl] at HO ⊢
      clear hDl
      have HK : Hid (fullK N ss = p) := Lib.hid (by rw [fullK, HX.out.2.2.2, if_pos rfl, HSS.out.2])
      obtain ⟨L, hL⟩ : ∃ K, fullL zs ss = K := ⟨_, rfl⟩
      obtain ⟨q, hq⟩ : ∃ K, L.length = K := ⟨_, rfl⟩
      have HL := Lib.hid (And.intro hL hq); clear hL hq
      have HDX : Hid (defX zs f = (((p : Int), []), ((p : Int), L))) := Lib.hid (by rw [defX, HSS.out.1, HH.out.2.2.2.1, HK.out, HL.out.1])
      have HFF : Hid (∀ U : World, W.grownBy U none → Calls Try.prog 95 #[.agg #[.slice za N zc, .int .i64 st], .slice ta p tc] U (fun e w' => ∃ ra rc, e = .returned (.agg #[.int .i64 (p : Int), .slice ra q rc]) ∧ Span U.heap.size w'.heap.size w' (fun V => IntsW V none 0 [] ∧ IntsW V ra rc L) ∧ U.grownBy w' none)) := Lib.hid (fun U g => by
        have h := HFU.out U ss ta tc (HG.out.trans g) (HX.out.2.1.grown g) (by have := HX.out.2.2.1; omega)
        rw [HSS.out.2] at h
        refine h.mono ?_
        rintro e w' ⟨ra, rc, he, hs, hg⟩
        rw [HK.out, HL.out.1, HL.out.2] at he
        rw [HL.out.1] at hs
        exact ⟨ra, rc, he, hs.map (fun V h => ⟨intsW_nil _ _ _, h.weak⟩), hg⟩)
      have e1' := HI.out.2.2.1.cell e1 (by simp)
      have hbs : W.heap.size ≤ wr.heap.size := HI.out.2.2.1.size
      go_wp2_with fail
      have HS := Lib.hid (fun (Wh : World) (hWh : W.grownBy Wh none) => (⟨hWh, hWh.cell hd.1 (by simp), hWh.cell hd.2.1 (by simp), hWh.cell hd.2.2 (by simp), hWh.cell e1 (by simp)⟩ : (fun Wh : World => W.grownBy Wh none ∧ Wh.cell? ⟨w.heap.size, 1, none⟩ = some (.slice (some ⟨b, o, none⟩) n fc) ∧ Wh.cell? ⟨w.heap.size + 1, 0, none⟩ = some (.slice za N zc) ∧ Wh.cell? ⟨w.heap.size + 1, 1, none⟩ = some (.int .i64 st) ∧ Wh.cell? ⟨b, o + i * 3 + 1, none⟩ = some (.slice ta p tc)) Wh))
      have hdr : W.grownBy wr.drew none := World.grownBy.trans HI.out.2.2.1 (⟨rfl, rfl, rfl, Nat.le_refl _, fun _ _ _ => rfl⟩ : wr.grownBy wr.drew none)
      refine wp_region_held_drew (S := (fun Wh : World => W.grownBy Wh none ∧ Wh.cell? ⟨w.heap.size, 1, none⟩ = some (.slice (some ⟨b, o, none⟩) n fc) ∧ Wh.cell? ⟨w.heap.size + 1, 0, none⟩ = some (.slice za N zc) ∧ Wh.cell? ⟨w.heap.size + 1, 1, none⟩ = some (.int .i64 st) ∧ Wh.cell? ⟨b, o + i * 3 + 1, none⟩ = some (.slice ta p tc))) (by kernel_rfl) (HS.out _ hdr) (fun hHeld => ?_)
      refine wpAnyH_take (i := 0) (oi := { dst := some 22, op := Op.move (Operand.tmp 5), type := 57, pos := "ref.go:15", after := #[], guard := none }) (v := ?_) rfl (by kernel_rfl) (by kernel_rfl) (by kernel_rfl) (fun _ _ _ h => h) (Or.inl ⟨by rfl, ?_⟩) (by assumption) ?_
      rotate_left 1
      · (intro W hSW; (try dsimp only at hSW); first | (go_simp; done) | (go_simp; with_reducible rfl))
      try simp only [Act.put, List.setIfInBounds_toArray, List.set_cons_zero, List.set_cons_succ]
      refine wpAnyH_take (i := 1) (oi := { dst := some 23, op := Op.move (Operand.tmp 7), type := 3, pos := "ref.go:15", after := #[], guard := none }) (v := ?_) rfl (by kernel_rfl) (by kernel_rfl) (by kernel_rfl) (fun _ _ _ h => h) (Or.inl ⟨by rfl, ?_⟩) (by assumption) ?_
      rotate_left 1
      · (intro W hSW; (try dsimp only at hSW); first | (go_simp; done) | (go_simp; with_reducible rfl))
      try simp only [Act.put, List.setIfInBounds_toArray, List.set_cons_zero, List.set_cons_succ]
      refine wpAnyH_take (i := 2) (oi := { dst := some 24, op := Op.build 53 #[(0, Operand.tmp 23)], type := 53, pos := "ref.go:15", after := #[{ on := 1, ground := Ground.data }], guard := none }) (v := ?_) rfl (by kernel_rfl) (by kernel_rfl) (by kernel_rfl) (fun _ _ _ h => h) (Or.inl ⟨by rfl, ?_⟩) (by assumption) ?_
      rotate_left 1
      · (intro W hSW; (try dsimp only at hSW); first | (go_simp; done) | (go_simp; with_reducible rfl))
      try simp only [Act.put, List.setIfInBounds_toArray, List.set_cons_zero, List.set_cons_succ]
      refine wpAnyH_take (i := 3) (oi := { dst := some 25, op := Op.load 30 (Operand.tmp 3), type := 30, pos := "ref.go:15", after := #[], guard := none }) (v := ?_) rfl (by kernel_rfl) (by kernel_rfl) (by kernel_rfl) (fun _ _ _ h => h) (Or.inl ⟨by rfl, ?_⟩) (by assumption) ?_
      rotate_left 1
      · (intro W hSW; (try dsimp only at hSW); first | (go_simp; done) | (go_simp; with_reducible rfl))
      try simp only [Act.put, List.setIfInBounds_toArray, List.set_cons_zero, List.set_cons_succ]
      refine wpAnyH_take (i := 4) (oi := { dst := some 26, op := Op.fieldAddr 27 (Operand.tmp 2) 1, type := 0, pos := "ref.go:15", after := #[], guard := none }) (v := ?_) rfl (by kernel_rfl) (by kernel_rfl) (by kernel_rfl) (fun _ _ _ h => h) (Or.inl ⟨by rfl, ?_⟩) (by assumption) ?_
      rotate_left 1
      · (intro W hSW; (try dsimp only at hSW); first | (go_simp; done) | (go_simp; with_reducible rfl))
      try simp only [Act.put, List.setIfInBounds_toArray, List.set_cons_zero, List.set_cons_succ]
      refine wpAnyH_take (i := 5) (oi := { dst := some 27, op := Op.load 23 (Operand.tmp 26), type := 23, pos := "ref.go:15", after := #[{ on := 4, ground := Ground.data }], guard := none }) (v := ?_) rfl (by kernel_rfl) (by kernel_rfl) (by kernel_rfl) (fun _ _ _ h => h) (Or.inl ⟨by rfl, ?_⟩) (by assumption) ?_
      rotate_left 1
      · (intro W hSW; (try dsimp only at hSW); first | (go_simp; done) | (go_simp; with_reducible rfl))
      try simp only [Act.put, List.setIfInBounds_toArray, List.set_cons_zero, List.set_cons_succ]
      refine wpAnyH_take (i := 6) (oi := { dst := some 28, op := Op.move (Operand.tmp 6), type := 3, pos := "ref.go:15", after := #[], guard := none }) (v := ?_) rfl (by kernel_rfl) (by kernel_rfl) (by kernel_rfl) (fun _ _ _ h => h) (Or.inl ⟨by rfl, ?_⟩) (by assumption) ?_
      rotate_left 1
      · (intro W hSW; (try dsimp only at hSW); first | (go_simp; done) | (go_simp; with_reducible rfl))
      try simp only [Act.put, List.setIfInBounds_toArray, List.set_cons_zero, List.set_cons_succ]
      refine wpAnyH_take (i := 7) (oi := { dst := some 29, op := Op.indexAddr 23 (Operand.tmp 27) (Operand.tmp 28), type := 0, pos := "ref.go:15", after := #[{ on := 5, ground := Ground.data }, { on := 6, ground := Ground.data }], guard := none }) (v := ?_) rfl (by kernel_rfl) (by kernel_rfl) (by kernel_rfl) (fun _ _ _ h => h) (Or.inl ⟨by rfl, ?_⟩) (by assumption) ?_
      rotate_left 1
      · (intro W hSW; (try dsimp only at hSW); first | (go_simp; done) | (go_simp; with_reducible rfl))
      try simp only [Act.put, List.setIfInBounds_toArray, List.set_cons_zero, List.set_cons_succ]
      refine wpAnyH_take (i := 8) (oi := { dst := some 30, op := Op.fieldAddr 51 (Operand.tmp 29) 1, type := 0, pos := "ref.go:15", after := #[{ on := 7, ground := Ground.data }], guard := none }) (v := ?_) rfl (by kernel_rfl) (by kernel_rfl) (by kernel_rfl) (fun _ _ _ h => h) (Or.inl ⟨by rfl, ?_⟩) (by assumption) ?_
      rotate_left 1
      · (intro W hSW; (try dsimp only at hSW); first | (go_simp; done) | (go_simp; with_reducible rfl))
      try simp only [Act.put, List.setIfInBounds_toArray, List.set_cons_zero, List.set_cons_succ]
      refine wpAnyH_take (i := 9) (oi := { dst := some 31, op := Op.load 28 (Operand.tmp 30), type := 28, pos := "ref.go:15", after := #[{ on := 8, ground := Ground.data }], guard := none }) (v := ?_) rfl (by kernel_rfl) (by kernel_rfl) (by kernel_rfl) (fun _ _ _ h => h) (Or.inl ⟨by rfl, ?_⟩) (by assumption) ?_
      rotate_left 1
      · (intro W hSW; (try dsimp only at hSW); first | (go_simp; done) | (go_simp; with_reducible rfl))
      try simp only [Act.put, List.setIfInBounds_toArray, List.set_cons_zero, List.set_cons_succ]
      refine wpAnyH_ready (rs := [10]) (by kernel_rfl) (by simp) ?_
      refine (AllReadyH.cons (o := { dst := some 32, op := Op.call { callee := Callee.value (Operand.func 95), args := #[Operand.tmp 25, Operand.tmp 31], argTypes := #[30, 28] }, type := 53, pos := "ref.go:15", after := #[{ on := 3, ground := Ground.data }, { on := 9, ground := Ground.data }], guard := none }) rfl (fun K hK => ?_) AllReadyH.nil)
      rw [if_pos (by rfl)]
      go_simp
      go_at_call 95
      refine (HFF.out _ (hdr)).mono ?_
      rintro e wc1 ⟨ra, rc, rfl, hsp, gc1⟩
      have hgr1 := World.grownBy.trans hdr gc1
      go_wp2_with fail
      refine hK.out _ _ (HS.out _ hgr1) (fun hHeld => ?_)
      clear hK K
      try simp only [Act.put, List.setIfInBounds_toArray, List.set_cons_zero, List.set_cons_succ]
      refine wpAnyH_take (i := 11) (oi := { dst := some 33, op := Op.build 74 #[(0, Operand.tmp 24), (1, Operand.tmp 32)], type := 74, pos := "ref.go:15", after := #[{ on := 2, ground := Ground.data }, { on := 10, ground := Ground.data }], guard := none }) (v := ?_) rfl (by kernel_rfl) (by kernel_rfl) (by kernel_rfl) (fun _ _ _ h => h) (Or.inl ⟨by rfl, ?_⟩) (by assumption) ?_
      rotate_left 1
      · (intro W hSW; (try dsimp only at hSW); first | (go_simp; done) | (go_simp; with_reducible rfl))
      try simp only [Act.put, List.setIfInBounds_toArray, List.set_cons_zero, List.set_cons_succ]
      refine wpAnyH_ready (rs := [12]) (by kernel_rfl) (by simp) ?_
      refine (AllReadyH.cons (o := { dst := some 34, op := Op.buildSlice 57 1 #[(0, Operand.tmp 33)], type := 57, pos := "ref.go:15", after := #[{ on := 11, ground := Ground.data }], guard := none }) rfl (fun K hK => ?_) AllReadyH.nil)
      rw [if_pos (by rfl)]
      go_simp
      have hga2 := World.grownBy.trans hgr1 (World.grownBy_alloc wc1 (.cells #[.int .i64 (p : Int), .slice none 0 0, .int .i64 (p : Int), .slice ra q rc] 74) none)
      refine hK.out _ _ (HS.out _ hga2) (fun hHeld => ?_)
      clear hK K
      try simp only [Act.put, List.setIfInBounds_toArray, List.set_cons_zero, List.set_cons_succ]
      refine wpAnyH_ready (rs := [13]) (by kernel_rfl) (by simp) ?_
      refine (AllReadyH.cons (o := { dst := some 35, op := Op.call { callee := Callee.builtin Builtin.append, args := #[Operand.tmp 22, Operand.tmp 34], argTypes := #[57, 57] }, type := 57, pos := "ref.go:15", after := #[{ on := 0, ground := Ground.data }, { on := 12, ground := Ground.data }, { on := 10, ground := Ground.chain }], guard := none }) rfl (fun K hK => ?_) AllReadyH.nil)
      have HO1 := Lib.hid (Out.quiet HO.out (World.grownBy.trans (⟨rfl, rfl, rfl, Nat.le_refl _, fun _ _ _ => rfl⟩ : wr.grownBy wr.drew none) gc1) (fun x e => by cases e))
      have HOW : Hid (World.ownsRow wc1 W.heap.size 74 4 (.slice ga i gc) i (D.flatMap bdCells)) := Lib.hid (by have := HO1.out.own; rw [HI.out.2.2.2] at this; exact this)
      refine ready_append_g 57 74 (.tmp 22) (.tmp 34) rfl rfl Try.underlying57 hi0 hz0 hz1 hz2 rfl (by decide) (by omega) W.heap.size _ i (D.flatMap bdCells) rfl (HOW.out.alloc _) ⟨World.heap wc1 |>.size, 0, none⟩ [.int .i64 (p : Int), .slice none 0 0, .int .i64 (p : Int), .slice ra q rc] rfl rfl (cell_four_new _ _ _ _ _ _) (fun u hu => by simp at hu; rcases hu with rfl | rfl | rfl | rfl <;> rfl) (by omega) (by have h1 := World.grownBy.size gc1; simp only [World.size_alloc]; have h2 : wr.drew.heap.size = wr.heap.size := rfl; omega) (fun v' w6 hown' hgrow6 hat6 => ?_)
      have hg6 := grown_own hga2 hgrow6 (fun k hk => (HOW.out.lt k hk).1)
      refine hK.out _ _ (HS.out _ hg6) (fun hHeld => ?_)
      clear hK K
      try simp only [Act.put, List.setIfInBounds_toArray, List.set_cons_zero, List.set_cons_succ]
      refine wpAnyH_take (i := 14) (oi := { dst := some 5, op := Op.assign (Operand.tmp 35), type := 57, pos := "ref.go:15", after := #[{ on := 13, ground := Ground.data }, { on := 13, ground := Ground.chain }, { on := 0, ground := Ground.phase }, { on := 1, ground := Ground.phase }, { on := 2, ground := Ground.phase }, { on := 3, ground := Ground.phase }, { on := 4, ground := Ground.phase }, { on := 5, ground := Ground.phase }, { on := 6, ground := Ground.phase }, { on := 7, ground := Ground.phase }, { on := 8, ground := Ground.phase }, { on := 9, ground := Ground.phase }, { on := 10, ground := Ground.phase }, { on := 11, ground := Ground.phase }, { on := 12, ground := Ground.phase }, { on := 13, ground := Ground.phase }], guard := none }) (v := ?_) rfl (by kernel_rfl) (by kernel_rfl) (by kernel_rfl) (fun _ _ _ h => h) (Or.inl ⟨by rfl, ?_⟩) (by assumption) ?_
      rotate_left 1
      · (intro W hSW; (try dsimp only at hSW); first | (go_simp; done) | (go_simp; with_reducible rfl))
      try simp only [Act.put, List.setIfInBounds_toArray, List.set_cons_zero, List.set_cons_succ]
      refine wpAnyH_done (by kernel_rfl) ?_ _
      have hEND := hg6
      clear hHeld
      obtain ⟨g', cap', rfl⟩ := own_shape hown'
      have HP6 := Lib.hid (Out.push HO1.out (d := ((((p : Int), []), ((p : Int), L)), (none, 0), (ra, rc))) hsp (show W.heap.size ≤ wr.drew.heap.size from hbs) (fun x hx => .inl (HO.out.own.lt x hx).2) (by rw [HI.out.2.2.2]; simpa [bdCells, HL.out.2] using hown') hgrow6 hat6)
      have HE6 := Lib.hid hEND
      clear hEND hown' hgrow6 hat6 hg6 hsp d1 d2 d3 e0 e1 e2 e1'
      go_wp2_with fail
      go_roundg (n - (i + 1))
      case measure => rw [HI.out.1]; omega
      case rel =>
        exact ⟨i + 1, _, rfl, rfl, by omega, by rw [List.map_append, HI.out.2.1, map_take_next HX.out.1, HDX.out]; rfl, HP6.out, HE6.out⟩
    · have hie : i = n := by omega
      subst hie
      have hinB : decide (i < i) = false := by simp
      have HR := Lib.hid (And.intro HO.out HI.out.2.1)
      rw [List.take_of_length_le (by rw [HH.out.2.2.1]; exact Nat.le_refl _)] at HR
      rw [hDl] at HR ⊢
      clear hDl
      go_wp2_with fail
      go_ret
      exact ⟨ga, gc, rfl, _, D, rfl, HR.out.1.less HG.out.size, HR.out.2, HG.out.trans HI.out.2.2.1⟩
end Go.Proofs.Ytbddpjofhddilaa
/- The reference's search in an increasing row. -/
namespace Go.Proofs.Ytbddpjofhddilaa
open Go.RowKit

theorem up_at {l : List Int} (h : Up l) {i j : Nat} {x y : Int} (hij : i < j) (hx : l[i]? = some x) (hy : l[j]? = some y) : x < y := by
  obtain ⟨h1, rfl⟩ := List.getElem?_eq_some_iff.1 hx
  obtain ⟨h2, rfl⟩ := List.getElem?_eq_some_iff.1 hy
  exact List.pairwise_iff_getElem.1 h i j h1 h2 hij

set_option maxRecDepth 100000 in
set_option maxHeartbeats 4000000 in
theorem has_calls (k : Int) (zs : List Int) (a : Option Addr) (c : Nat) (z : Int) (w : World) (h : IntsW w a c zs) (hl : zs.length ≤ 1000000) (hu : Up zs) :
    Calls Try.prog 128 #[.agg #[.int .i64 k, .slice a zs.length c], .int .i64 z] w fun e w' => e = .returned (.bool (decide (z ∈ zs))) ∧ w.grownBy w' none := by
  obtain ⟨n, hn⟩ : ∃ n, zs.length = n := ⟨_, rfl⟩
  rw [hn] at hl ⊢
  have hg := World.grownBy_alloc w (.cells #[.int .i64 k, .slice a n c] 53) none
  have HN := Lib.hid (And.intro hn (And.intro (h.grown hg) hu)); clear hn h hu
  have k1 : (w.alloc (.cells #[.int .i64 k, .slice a n c] 53)).cell? ⟨w.heap.size, 1, none⟩ = some (.slice a n c) := by go_simp
  obtain ⟨W, hW⟩ : ∃ W, w.alloc (.cells #[.int .i64 k, .slice a n c] 53) = W := ⟨_, rfl⟩
  rw [hW] at hg HN k1
  have HG := Lib.hid hg; clear hg
  go_enter Try.func128, Try.ntmps128
  go_wp2_with fail
  clear hW
  go_loopg [5, 6, 7] n (fun g s5 s6 s7 wr => ∃ lo hi : Nat, s5 = .int .i64 (lo : Int) ∧ s6 = .int .i64 (hi : Int) ∧ g = hi - lo ∧ lo ≤ hi ∧ hi ≤ n ∧ (∀ (j : Nat) (y : Int), j < lo → zs[j]? = some y → y < z) ∧ (∀ (j : Nat) (y : Int), hi ≤ j → zs[j]? = some y → z ≤ y) ∧ wr = W)
  case atStart => exact ⟨0, n, rfl, rfl, rfl, Nat.zero_le _, Nat.le_refl _, fun j y hj => absurd hj (Nat.not_lt_zero _), fun j y hj hy => by have := (List.getElem?_eq_some_iff.1 hy).1; rw [HN.out.1] at this; omega, rfl⟩
  case round =>
    obtain ⟨lo, hi, rfl, rfl, hgk, hlh, hhn, h1, h2, rfl⟩ := hrel
    have HI := Lib.hid (And.intro hgk (And.intro h1 h2)); clear hgk h1 h2
    by_cases hc : lo < hi
    · have hcB : decide (lo < hi) = true := by simpa using hc
      obtain ⟨M, hM⟩ : ∃ M, (lo + hi) / 2 = M := ⟨_, rfl⟩
      have hM1 : lo ≤ M := by omega
      have hM2 : M < hi := by omega
      have hMI : ((lo : Int) + (hi : Int)) / 2 = (M : Int) := by omega
      have hMn : (M : Int) < (n : Int) := by omega
      obtain ⟨y, hy⟩ : ∃ y, zs[M]? = some y := ⟨_, List.getElem?_eq_getElem (by rw [HN.out.1]; omega)⟩
      obtain ⟨b, o, rfl, hcell⟩ := HN.out.2.1.at hy
      have HY := Lib.hid hy; clear hy hM
      by_cases hyz : y < z
      · have hb : decide (y < z) = true := decide_eq_true hyz
        have HZ := Lib.hid hyz; clear hyz
        go_wp2_with fail
        go_roundg (hi - (M + 1))
        case measure => rw [HI.out.1]; omega
        case rel => exact ⟨M + 1, hi, rfl, rfl, rfl, by omega, hhn, fun j y' hj hy' => by
          by_cases hjM : j = M
          · subst hjM
            rw [HY.out] at hy'
            cases hy'
            exact HZ.out
          · have := up_at HN.out.2.2 (show j < M by omega) hy' HY.out
            have := HZ.out
            omega, HI.out.2.2, rfl⟩
      · have hb : decide (y < z) = false := decide_eq_false hyz
        have HZ := Lib.hid hyz; clear hyz
        go_wp2_with fail
        go_roundg (M - lo)
        case measure => rw [HI.out.1]; omega
        case rel => exact ⟨lo, M, rfl, rfl, rfl, by omega, by omega, HI.out.2.1, fun j y' hj hy' => by
          by_cases hjM : j = M
          · subst hjM
            rw [HY.out] at hy'
            cases hy'
            have := HZ.out
            omega
          · have := up_at HN.out.2.2 (show M < j by omega) HY.out hy'
            have := HZ.out
            omega, rfl⟩
    · have hle : lo = hi := by omega
      subst hle
      have hcB : decide (lo < lo) = false := by simp
      by_cases hln : lo < n
      · have hlB : decide (lo < n) = true := decide_eq_true hln
        have hlI : (lo : Int) < (n : Int) := by omega
        obtain ⟨y, hy⟩ : ∃ y, zs[lo]? = some y := ⟨_, List.getElem?_eq_getElem (by rw [HN.out.1]; omega)⟩
        obtain ⟨b, o, rfl, hcell⟩ := HN.out.2.1.at hy
        have HR : Hid (decide (z ∈ zs) = (y == z)) := Lib.hid (by
          by_cases hyz : y = z
          · subst hyz
            rw [decide_eq_true (List.mem_of_getElem? hy)]; simp
          · rw [decide_eq_false]
            · simp [hyz]
            · intro hz
              obtain ⟨j, hj⟩ := List.getElem?_of_mem hz
              by_cases hj1 : j < lo
              · have := HI.out.2.1 j z hj1 hj; omega
              · by_cases hj2 : j = lo
                · subst hj2; rw [hy] at hj; cases hj; exact hyz rfl
                · have h3 := up_at HN.out.2.2 (show lo < j by omega) hy hj
                  have h4 := HI.out.2.2 lo y (Nat.le_refl _) hy
                  omega)
        clear hy
        obtain ⟨Q, hQ⟩ : ∃ Q, (y == z) = Q := ⟨_, rfl⟩
        rw [hQ] at HR
        go_wp2_with fail
        go_ret
        exact ⟨by rw [HR.out]; rfl, HG.out⟩
      · have hlB : decide (lo < n) = false := decide_eq_false hln
        have HR : Hid (decide (z ∈ zs) = false) := Lib.hid (decide_eq_false (by
          intro hz
          obtain ⟨j, hj⟩ := List.getElem?_of_mem hz
          have h5 := (List.getElem?_eq_some_iff.1 hj).1
          rw [HN.out.1] at h5
          have := HI.out.2.1 j z (by omega) hj
          omega))
        go_wp2_with fail
        go_ret
        exact ⟨by rw [HR.out]; rfl, HG.out⟩
end Go.Proofs.Ytbddpjofhddilaa

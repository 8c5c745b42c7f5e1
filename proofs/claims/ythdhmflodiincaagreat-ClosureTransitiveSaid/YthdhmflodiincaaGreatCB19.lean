/- Texts of the proof: UE UF. -/
import Derived.Test.YthdhmflodiincaaGreatCB17
import Derived.Test.YthdhmflodiincaaGreatCB18
import Derived.Laws.EntriesVeiled
import Derived.Deep.DeepCutAuto
import Derived.Test.YthdhmflodiincaaGreatCB00
set_option maxRecDepth 100000
set_option maxHeartbeats 8000000
namespace Go.Proofs.YthdhmflodiincaaGreat
open Go.RowKit Go.Maps

def NF (w : World) (b : Nat) (n : Nat) : Prop := w.cell? ⟨b, 0, none⟩ = some (.int .i64 (n : Int))
theorem NF.grown {w w' : World} {b n : Nat} (h : NF w b n) (hg : w.grownBy w' none) : NF w' b n := hg.cell h (by simp)
theorem NF.setc {w : World} {b b' n : Nat} (h : NF w b n) (v : Value) (hne : b' ≠ b) : NF (w.setCell ⟨b', 0, none⟩ v) b n := (World.cell?_setCell_other _ _ _ _ (fun e => hne (by injection e))).trans h
theorem NF.setm {w : World} {b b' n : Nat} (h : NF w b n) (u v : Value) (hne : b' ≠ b) : NF (laidX w b' u v) b n := (laidX_other (fun e => hne (by injection e)) (fun e => hne (by injection e))).trans h
theorem boxesN (w : World) (xa : Option Addr) (ng xc : Nat) (n : Nat) (ma : Option Addr) (nm mc : Nat) :
    ∃ W b0 b1 b2 b3 b4, ((((w.alloc (.cells #[.slice xa ng xc] 27)).alloc (.cells #[.int .i64 (n : Int)] 3)).alloc (.cells #[.int .i64 2, .slice ma nm mc] 35)).alloc (.cells #[.slice none 0 0] 27)).alloc (.cells #[.int .i64 0, .slice none 0 0] 35) = W ∧ w.grownBy W none ∧ W.heap.size = w.heap.size + 5 ∧ (w.heap.size = b0 ∧ w.heap.size + 1 = b1 ∧ w.heap.size + 1 + 1 = b2 ∧ w.heap.size + 1 + 1 + 1 = b3 ∧ w.heap.size + 1 + 1 + 1 + 1 = b4) ∧
      CF W b0 xa ng xc ∧ NF W b1 n ∧ MF W b2 2 ma nm mc ∧ CF W b3 none 0 0 ∧ MF W b4 0 none 0 0 :=
  ⟨_, _, _, _, _, _, rfl, ((((World.grownBy_alloc w _ none).trans (World.grownBy_alloc _ _ none)).trans (World.grownBy_alloc _ _ none)).trans (World.grownBy_alloc _ _ none)).trans (World.grownBy_alloc _ _ none), by simp, ⟨rfl, rfl, rfl, rfl, rfl⟩,
    ⟨by go_simp, by go_simp⟩, (by unfold NF; go_simp), ⟨by go_simp, by go_simp, by go_simp, by go_simp⟩, ⟨by go_simp, by go_simp⟩, ⟨by go_simp, by go_simp, by go_simp, by go_simp⟩⟩
def sqR (n : Nat) : Nat := if n ≤ 1 then 0 else if n ≤ 2 then 1 else 2
theorem sqR_lt (n k : Nat) (h1 : 1 ≤ n) (h4 : n ≤ 4) (hk : k ≤ sqR n) : 2 ^ k < n ↔ k < sqR n := by
  have h : ∀ n, n < 5 → 1 ≤ n → ∀ k, k < 3 → k ≤ sqR n → (2 ^ k < n ↔ k < sqR n) := by decide
  exact h n (by omega) h1 k (by have : sqR n ≤ 2 := by unfold sqR; split <;> (try split) <;> omega
                                omega) hk
theorem sqR_le (n : Nat) : sqR n ≤ 2 := by unfold sqR; split <;> (try split) <;> omega
theorem sqR_way (n : Nat) (h4 : n ≤ 4) : n ≤ 2 ^ sqR n := by
  have h : ∀ n, n < 5 → n ≤ 2 ^ sqR n := by decide
  exact h n (by omega)
def stQ (n : Nat) (gs : List Gt) (a : List Cl) (k : Nat) : List Gt × List Cl := (roundsP (squareP n) k a).run gs
def stS (n : Nat) (gs : List Gt) (a : List Cl) (k : Nat) : List Gt × List Cl := (roundsP (stepwP n a) k a).run gs
theorem rounds_succ (f : List Cl → Pr (List Cl)) (k : Nat) (a : List Cl) (gs : List Gt) : (roundsP f (k + 1) a).run gs = (f ((roundsP f k a).run gs).2).run ((roundsP f k a).run gs).1 := by
  unfold roundsP
  rw [List.range_succ, run_foldP_append, run_foldP_cons, run_foldP_nil]
theorem stQ_next (n : Nat) (gs : List Gt) (a : List Cl) (k : Nat) : ∃ g1 t, (mjoinP n n (n * n) (stQ n gs a k).2 (stQ n gs a k).2).run (stQ n gs a k).1 = (g1, t) ∧ (munionP (stQ n gs a k).2 t).run g1 = stQ n gs a (k + 1) :=
  ⟨_, _, rfl, by
    unfold stQ
    rw [rounds_succ]
    unfold squareP
    rw [Pr.run_bind]⟩
theorem stS_next (n : Nat) (gs : List Gt) (a : List Cl) (k : Nat) : ∃ g1 t, (mjoinP n n (n * n) (stS n gs a k).2 a).run (stS n gs a k).1 = (g1, t) ∧ (munionP a t).run g1 = stS n gs a (k + 1) :=
  ⟨_, _, rfl, by
    unfold stS
    rw [rounds_succ]
    unfold stepwP
    rw [Pr.run_bind]⟩
theorem roundC_le {n : Nat} (hn : n ≤ 4) : roundC n ≤ 160 := by
  have h : ∀ n, n < 5 → roundC n ≤ 160 := by decide
  exact h n (by omega)
theorem stQ_ok {n : Nat} {gs : List Gt} {a : List Cl} (hG : Good gs) (ha : Sq n gs a) (hn : n ≤ 4) (hl : gs.length ≤ 1000) (k : Nat) (hk : k ≤ 3) :
    Good (stQ n gs a k).1 ∧ gs <+: (stQ n gs a k).1 ∧ (stQ n gs a k).1.length ≤ gs.length + roundC n * k ∧ Sq n (stQ n gs a k).1 (stQ n gs a k).2 ∧ ∀ v x y, x < n → y < n → (relM (stQ n gs a k).1 v n (stQ n gs a k).2 x y ↔ Way (relM gs v n a) n (2 ^ k) x y) := by
  have h := Pr.safe_run _ (safe_squares hG ha k (by have := roundC_le hn; have : roundC n * k ≤ 160 * 3 := Nat.mul_le_mul this hk; omega))
  exact ⟨h.1.good, h.1.pre, h.1.len, h.2.1, h.2.2⟩
theorem stS_ok {n : Nat} {gs : List Gt} {a : List Cl} (hG : Good gs) (ha : Sq n gs a) (hn : n ≤ 4) (hl : gs.length ≤ 1000) (k : Nat) (hk : k ≤ 3) :
    Good (stS n gs a k).1 ∧ gs <+: (stS n gs a k).1 ∧ (stS n gs a k).1.length ≤ gs.length + roundC n * k ∧ Sq n (stS n gs a k).1 (stS n gs a k).2 ∧ ∀ v x y, x < n → y < n → (relM (stS n gs a k).1 v n (stS n gs a k).2 x y ↔ Way (relM gs v n a) n (k + 1) x y) := by
  have h := Pr.safe_run _ (safe_steps hG ha k (by have := roundC_le hn; have : roundC n * k ≤ 160 * 3 := Nat.mul_le_mul this hk; omega))
  exact ⟨h.1.good, h.1.pre, h.1.len, h.2.1, h.2.2⟩
theorem resU56 (tmps : Array Value) (w : World) (b c : Nat) (a : Option Addr) (n d : Nat) (x y : Value) (ht : tmps.getD 6 undef = .pointer (some ⟨b, 0, none⟩)) (hu : tmps.getD 7 undef = .pointer (some ⟨c, 0, none⟩)) (h0 : w.cell? ⟨b, 0, none⟩ = some (.slice a n d)) (h1 : w.cell? ⟨c, 0, none⟩ = some x) (h2 : w.cell? ⟨c, 1, none⟩ = some y) :
    (results Tryz.f71 tmps).run Tryz.prog w = .ok (.tuple #[.agg #[.slice a n d], .agg #[x, y]]) w := by
  have ht' : tmps[6]?.getD undef = .pointer (some ⟨b, 0, none⟩) := by simpa using ht
  have hu' : tmps[7]?.getD undef = .pointer (some ⟨c, 0, none⟩) := by simpa using hu
  simp [results, ht', hu', go_sem, h0, h1, h2, Result.andThen]
theorem squaring_calls (w : World) (n : Nat) (gs : List Gt) (m : List Cl) (xa ma : Option Addr) (xc mc ng nm : Nat) (hng : gs.length = ng) (hnm : m.length = nm) (h : GatesW w xa xc gs) (hm : CellsW w ma mc m)
    (hG : Good gs) (hs : Sq n gs m) (hn1 : 1 ≤ n) (hn4 : n ≤ 4) (hl : ng + roundC n * 2 ≤ 440) :
    Calls Tryz.prog 71 #[.agg #[.slice xa ng xc], .int .i64 (n : Int), .agg #[.int .i64 2, .slice ma nm mc]] w (AnsM w (stQ n gs m (sqR n)).1 2 (stQ n gs m (sqR n)).2) := by
  have hlm : nm ≤ 16 := by have h1 := hs.len; have : n * n ≤ 4 * 4 := Nat.mul_le_mul hn4 hn4; omega
  have HOK := Lib.hid (fun (k : Nat) (hk : k ≤ 3) => stQ_ok hG hs hn4 (by omega) k hk)
  obtain ⟨W, b0, b1, b2, b3, b4, hW, hg, hsz, ⟨hb0, hb1, hb2, hb3, hb4⟩, k0, k1, k2, k3, k4⟩ := boxesN w xa ng xc n ma nm mc
  have HG := Lib.hid hg
  have H0 := Lib.hid k0
  have H1 := Lib.hid k1
  have H2 := Lib.hid k2
  have H3 := Lib.hid k3
  have H4 := Lib.hid k4
  have HN := Lib.hid (show w.heap.size ≤ b0 ∧ b0 < b1 ∧ b1 < b2 ∧ b2 < b3 ∧ b3 < b4 ∧ b4 < W.heap.size from by omega)
  have HX := Lib.hid (h.grown hg)
  have HM := Lib.hid (hm.grown hg)
  have HL := Lib.hid (show gs.length = ng ∧ m.length = nm ∧ nm ≤ 16 ∧ ng + roundC n * 2 ≤ 440 ∧ 1 ≤ n ∧ n ≤ 4 ∧ Sq n gs m from ⟨hng, hnm, hlm, hl, hn1, hn4, hs⟩)
  have HB := Lib.hid (And.intro hb4 (And.intro hb3 (And.intro hb2 (And.intro hb1 hb0))))
  have hmf : ∀ (fn : Fn) (first cap : Array Value) (w : World), (Instr.makeFunc fn first cap).run Tryz.prog w = .ok (.func fn first cap) w := fun _ _ _ _ => rfl
  clear hg k0 k1 k2 k3 k4 hsz h hm hng hnm hlm hl hs hG hb0 hb1 hb2 hb3 hb4
  go_enter Tryz.func71, Tryz.ntmps71
  go_upto_region 1 with fail
  rw [HB.out.1, HB.out.2.1, HB.out.2.2.1, HB.out.2.2.2.1, HB.out.2.2.2.2]
  clear hW HB
  go_wp2_with fail
  go_loopg [8, 9] (sqR n) (fun gk s8 s9 wr => ∃ k : Nat, s8 = .int .i64 (k : Int) ∧ s9 = .int .i64 ((2 ^ k : Nat) : Int) ∧ gk = (sqR n) - k ∧ k ≤ (sqR n) ∧ wr = W)
  case atStart => exact ⟨0, rfl, rfl, rfl, Nat.zero_le _, rfl⟩
  case round =>
    obtain ⟨k, rfl, rfl, hgk, hk, rfl⟩ := hrel
    have hlt := sqR_lt n k hn1 hn4 hk
    have hr2 := sqR_le n
    have HK := Lib.hid (show gk = sqR n - k ∧ k ≤ sqR n ∧ sqR n ≤ 2 from ⟨hgk, hk, hr2⟩)
    clear hgk
    obtain ⟨z, hz⟩ : ∃ z, 2 ^ k = z := ⟨_, rfl⟩
    have hz4 : z ≤ 4 := by rw [← hz]; exact Nat.le_trans (Nat.pow_le_pow_right (by decide) (Nat.le_trans hk hr2)) (by decide)
    have hz1 : 1 ≤ z := by rw [← hz]; exact Nat.one_le_two_pow
    rw [hz] at hlt ⊢
    have HZ := Lib.hid hz
    have q1 : wr.cell? ⟨b1, 0, none⟩ = some (.int .i64 (n : Int)) := H1.out
    have p1 : decide (0 < z) = true := decide_eq_true hz1
    have p2 : decide ((0 : Int) < (z : Int)) = true := decide_eq_true (by omega)
    clear hz hr2 hk
    by_cases hzn : z < n
    · have f1 : decide (z < n) = true := decide_eq_true hzn
      have f2 : decide ((z : Int) < (n : Int)) = true := decide_eq_true (by omega)
      have hkr := hlt.1 hzn
      have hk1 : IntKind.i64.wrap ((k : Int) + 1) = ((k + 1 : Nat) : Int) := by rw [IntWalk.i64_in _ (by have := HK.out; omega)]; omega
      have hk2 : IntKind.i64.wrap ((z : Int) * 2) = ((z * 2 : Nat) : Int) := by rw [IntWalk.i64_in _ (by omega)]; omega
      clear hlt
      go_wp2_with fail
      go_roundg (sqR n - (k + 1))
      case measure => rw [HK.out.1]; omega
      case rel => exact ⟨k + 1, rfl, by rw [Nat.pow_succ, HZ.out]; simp, rfl, hkr, rfl⟩
    · have f1 : decide (z < n) = false := decide_eq_false hzn
      have f2 : decide ((z : Int) < (n : Int)) = false := decide_eq_false (by omega)
      have hkr : k = sqR n := by have h1 := HK.out; have h2 : ¬ k < sqR n := fun e => hzn (hlt.2 e); omega
      have HKR := Lib.hid hkr
      clear hlt hkr hzn
      obtain ⟨W, rfl⟩ : ∃ z, z = wr := ⟨_, rfl⟩
      go_upto_region 7 with fail
      clear q1 f1 f2 p1 p2
      have gw := World.grownBy_alloc W (.cells #[.int .i64 (k : Int), (.func (.func 95) #[] #[.pointer (some ⟨b1, 0, none⟩)])] 127) none
      have t0 : (World.alloc W (.cells #[.int .i64 (k : Int), (.func (.func 95) #[] #[.pointer (some ⟨b1, 0, none⟩)])] 127)).cell? ⟨W.heap.size, 0, none⟩ = some (.int .i64 (k : Int)) := by go_simp
      have t1 : (World.alloc W (.cells #[.int .i64 (k : Int), (.func (.func 95) #[] #[.pointer (some ⟨b1, 0, none⟩)])] 127)).cell? ⟨W.heap.size, 1, none⟩ = some (.func (.func 95) #[] #[.pointer (some ⟨b1, 0, none⟩)]) := by go_simp
      obtain ⟨V1, hV⟩ : ∃ z, World.alloc W (.cells #[.int .i64 (k : Int), (.func (.func 95) #[] #[.pointer (some ⟨b1, 0, none⟩)])] 127) = z := ⟨_, rfl⟩
      rw [hV] at gw t0 t1 ⊢
      clear hV
      obtain ⟨b8, hb8⟩ : ∃ z, W.heap.size = z := ⟨_, rfl⟩
      rw [hb8] at t0 t1 ⊢
      have HB8 := Lib.hid hb8
      clear hb8 hmf
      replace H0 := Lib.hid (H0.out.grown gw)
      replace H1 := Lib.hid (H1.out.grown gw)
      replace H2 := Lib.hid (H2.out.grown gw)
      replace H3 := Lib.hid (H3.out.grown gw)
      replace H4 := Lib.hid (H4.out.grown gw)
      replace HX := Lib.hid (HX.out.grown gw)
      replace HM := Lib.hid (HM.out.grown gw)
      replace HG := Lib.hid (World.grownBy.trans HG.out gw)
      have HS1 := Lib.hid (World.grownBy.size gw)
      clear gw
      have q0 := H0.out.1
      have q2 := H2.out.1
      have r2 := H2.out.2.1
      go_wp2_with fail
      clear q0 q2 r2 t0 t1
      refine (itsq_calls V1 k (stQ n gs m) gs m b1 xa ma xc mc ng nm rfl HL.out.1 HL.out.2.1 HX.out HM.out (by have := HK.out; omega) (by have := HL.out; omega) (by have := HL.out; omega) (fun j hj U ya za yc zc ny nz hU hy hz hr ht => ?_)).mono ?_
      · obtain ⟨g1, t, e1, e2⟩ := stQ_next n gs m j
        obtain ⟨o1, o2, o3, o4, _⟩ := HOK.out j (by have := HK.out; have := HL.out; omega)
        have hjr : roundC n * j ≤ roundC n * 2 := Nat.mul_le_mul_left _ (by have := HK.out; have := HL.out; omega)
        exact sq1_calls U n b1 _ g1 _ _ t _ ya za yc zc ny nz hy hz hr ht (hU.cell H1.out (by simp)) o1 o4 HL.out.2.2.2.2.1 HL.out.2.2.2.2.2.1 (by have := HL.out; omega) e1 e2
      rintro e U ⟨a1, c1, a2, n2, c2, rfl, hn2, hr, hm2, gw⟩
      replace H0 := Lib.hid (H0.out.grown gw)
      replace H1 := Lib.hid (H1.out.grown gw)
      replace H2 := Lib.hid (H2.out.grown gw)
      replace H3 := Lib.hid (H3.out.grown gw)
      replace H4 := Lib.hid (H4.out.grown gw)
      replace HX := Lib.hid (HX.out.grown gw)
      replace HM := Lib.hid (HM.out.grown gw)
      replace HG := Lib.hid (World.grownBy.trans HG.out gw)
      have HS2 := Lib.hid (World.grownBy.size gw)
      clear gw
      obtain ⟨g2, hg2⟩ : ∃ z, (stQ n gs m k).1 = z := ⟨_, rfl⟩
      obtain ⟨l2, hl2⟩ : ∃ z, (stQ n gs m k).2 = z := ⟨_, rfl⟩
      rw [hg2] at hr ⊢
      rw [hl2] at hn2 hm2
      have HP := Lib.hid hr
      have HU := Lib.hid hm2
      have HE := Lib.hid (show (stQ n gs m (sqR n)).1 = g2 ∧ (stQ n gs m (sqR n)).2 = l2 ∧ l2.length = n2 from by rw [← HKR.out]; exact ⟨hg2, hl2, hn2⟩)
      clear hr hm2 hn2 hg2 hl2 HX HM
      have q3 := H3.out.1
      have f3 := H3.out.2
      have q4 := H4.out.1
      have r4 := H4.out.2.1
      have f4 := H4.out.2.2.1
      have e4 := H4.out.2.2.2
      have hne1 : ¬ b3 = b4 := (by have := HN.out; have := HS1.out; have := HS2.out; omega)
      have hne2 : ¬ b4 = b3 := (by have := HN.out; have := HS1.out; have := HS2.out; omega)
      go_wp2_with fail
      clear q3 f3 q4 r4 f4 e4 hne1 hne2
      have nw0 := H3.out.cf (.slice a1 g2.length c1) H0.out (by have := HN.out; have := HS1.out; have := HS2.out; omega)
      have nw1 := NF.setc (b' := b3) H1.out (.slice a1 g2.length c1) (by have := HN.out; have := HS1.out; have := HS2.out; omega)
      have nw2 := H3.out.mf (.slice a1 g2.length c1) H2.out
      have nw3 := H3.out.put a1 g2.length c1
      have nw4 := H3.out.mf (.slice a1 g2.length c1) H4.out
      have nwP := H3.out.gates (.slice a1 g2.length c1) HP.out
      have nwU := H3.out.cells (.slice a1 g2.length c1) HU.out
      have nG := CF.grows HG.out (by have := HN.out; have := HS1.out; have := HS2.out; omega) (.slice a1 g2.length c1) (b := b3)
      have nS : (World.setCell U ⟨b3, 0, none⟩ (.slice a1 g2.length c1)).heap.size = U.heap.size := by simp
      obtain ⟨V2, hV⟩ : ∃ z, World.setCell U ⟨b3, 0, none⟩ (.slice a1 g2.length c1) = z := ⟨_, rfl⟩
      rw [hV] at nw0 nw1 nw2 nw3 nw4 nwP nwU nG nS ⊢
      clear hV
      replace H0 := Lib.hid nw0
      replace H1 := Lib.hid nw1
      replace H2 := Lib.hid nw2
      replace H3 := Lib.hid nw3
      replace H4 := Lib.hid nw4
      replace HP := Lib.hid nwP
      replace HU := Lib.hid nwU
      replace HG := Lib.hid nG
      have HS3 := Lib.hid nS
      clear nG nS nw0 nw1 nw2 nw3 nw4 nwP nwU
      have nw0 := H4.out.cf (.int .i64 2) (.slice a2 n2 c2) H0.out
      have nw1 := NF.setm (b' := b4) H1.out (.int .i64 2) (.slice a2 n2 c2) (by have := HN.out; have := HS1.out; have := HS2.out; have := HS3.out; omega)
      have nw2 := H4.out.mf (.int .i64 2) (.slice a2 n2 c2) H2.out (by have := HN.out; have := HS1.out; have := HS2.out; have := HS3.out; omega)
      have nw3 := H4.out.cf (.int .i64 2) (.slice a2 n2 c2) H3.out
      have nw4 := H4.out.put 2 a2 n2 c2
      have nwP := H4.out.gates (.int .i64 2) (.slice a2 n2 c2) HP.out
      have nwU := H4.out.cells (.int .i64 2) (.slice a2 n2 c2) HU.out
      have nG := MF.grows HG.out (by have := HN.out; have := HS1.out; have := HS2.out; have := HS3.out; omega) (.int .i64 2) (.slice a2 n2 c2) (b := b4)
      have nS : (World.setCell (World.setCell V2 ⟨b4, 0, none⟩ (.int .i64 2)) ⟨b4, 1, none⟩ (.slice a2 n2 c2)).heap.size = V2.heap.size := by simp
      unfold laidX at nw0 nw1 nw2 nw3 nw4 nwP nwU nG
      obtain ⟨V3, hV⟩ : ∃ z, World.setCell (World.setCell V2 ⟨b4, 0, none⟩ (.int .i64 2)) ⟨b4, 1, none⟩ (.slice a2 n2 c2) = z := ⟨_, rfl⟩
      rw [hV] at nw0 nw1 nw2 nw3 nw4 nwP nwU nG nS ⊢
      clear hV
      replace H0 := Lib.hid nw0
      replace H1 := Lib.hid nw1
      replace H2 := Lib.hid nw2
      replace H3 := Lib.hid nw3
      replace H4 := Lib.hid nw4
      replace HP := Lib.hid nwP
      replace HU := Lib.hid nwU
      replace HG := Lib.hid nG
      have HS4 := Lib.hid nS
      clear nG nS nw0 nw1 nw2 nw3 nw4 nwP nwU
      refine bodyPost_ret (resU56 _ _ b3 b4 a1 g2.length c1 _ _ rfl rfl H3.out.1 H4.out.1 H4.out.2.1) rfl ?_
      rw [HE.out.1, HE.out.2.1]
      exact ⟨a1, c1, a2, n2, c2, rfl, HE.out.2.2, HP.out, HU.out, HG.out⟩
theorem resU58 (tmps : Array Value) (w : World) (b c : Nat) (a : Option Addr) (n d : Nat) (x y : Value) (ht : tmps.getD 6 undef = .pointer (some ⟨b, 0, none⟩)) (hu : tmps.getD 7 undef = .pointer (some ⟨c, 0, none⟩)) (h0 : w.cell? ⟨b, 0, none⟩ = some (.slice a n d)) (h1 : w.cell? ⟨c, 0, none⟩ = some x) (h2 : w.cell? ⟨c, 1, none⟩ = some y) :
    (results Tryz.f72 tmps).run Tryz.prog w = .ok (.tuple #[.agg #[.slice a n d], .agg #[x, y]]) w := by
  have ht' : tmps[6]?.getD undef = .pointer (some ⟨b, 0, none⟩) := by simpa using ht
  have hu' : tmps[7]?.getD undef = .pointer (some ⟨c, 0, none⟩) := by simpa using hu
  simp [results, ht', hu', go_sem, h0, h1, h2, Result.andThen]
theorem stepwise_calls (w : World) (n : Nat) (gs : List Gt) (m : List Cl) (xa ma : Option Addr) (xc mc ng nm : Nat) (hng : gs.length = ng) (hnm : m.length = nm) (h : GatesW w xa xc gs) (hm : CellsW w ma mc m)
    (hG : Good gs) (hs : Sq n gs m) (hn1 : 1 ≤ n) (hn4 : n ≤ 4) (hl : ng + roundC n * 2 ≤ 440) :
    Calls Tryz.prog 72 #[.agg #[.slice xa ng xc], .int .i64 (n : Int), .agg #[.int .i64 2, .slice ma nm mc]] w (AnsM w (stS n gs m (n - 1)).1 2 (stS n gs m (n - 1)).2) := by
  have hlm : nm ≤ 16 := by have h1 := hs.len; have : n * n ≤ 4 * 4 := Nat.mul_le_mul hn4 hn4; omega
  have HOK := Lib.hid (fun (k : Nat) (hk : k ≤ 3) => stS_ok hG hs hn4 (by omega) k hk)
  obtain ⟨W, b0, b1, b2, b3, b4, hW, hg, hsz, ⟨hb0, hb1, hb2, hb3, hb4⟩, k0, k1, k2, k3, k4⟩ := boxesN w xa ng xc n ma nm mc
  have HG := Lib.hid hg
  have H0 := Lib.hid k0
  have H1 := Lib.hid k1
  have H2 := Lib.hid k2
  have H3 := Lib.hid k3
  have H4 := Lib.hid k4
  have HN := Lib.hid (show w.heap.size ≤ b0 ∧ b0 < b1 ∧ b1 < b2 ∧ b2 < b3 ∧ b3 < b4 ∧ b4 < W.heap.size from by omega)
  have HX := Lib.hid (h.grown hg)
  have HM := Lib.hid (hm.grown hg)
  have HL := Lib.hid (show gs.length = ng ∧ m.length = nm ∧ nm ≤ 16 ∧ ng + roundC n * 2 ≤ 440 ∧ 1 ≤ n ∧ n ≤ 4 ∧ Sq n gs m from ⟨hng, hnm, hlm, hl, hn1, hn4, hs⟩)
  have HB := Lib.hid (And.intro hb4 (And.intro hb3 (And.intro hb2 (And.intro hb1 hb0))))
  have hmf : ∀ (fn : Fn) (first cap : Array Value) (w : World), (Instr.makeFunc fn first cap).run Tryz.prog w = .ok (.func fn first cap) w := fun _ _ _ _ => rfl
  clear hg k0 k1 k2 k3 k4 hsz h hm hng hnm hlm hl hs hG hb0 hb1 hb2 hb3 hb4
  go_enter Tryz.func72, Tryz.ntmps72
  go_upto_region 1 with fail
  rw [HB.out.1, HB.out.2.1, HB.out.2.2.1, HB.out.2.2.2.1, HB.out.2.2.2.2]
  clear hW HB
  have q1 : W.cell? ⟨b1, 0, none⟩ = some (.int .i64 (n : Int)) := H1.out
  obtain ⟨k, hk⟩ : ∃ k, n - 1 = k := ⟨_, rfl⟩
  have hw1 : IntKind.i64.wrap ((n : Int) - 1) = (k : Int) := by rw [IntWalk.i64_in _ (by omega)]; omega
  have hmx : max (0 : Int) (k : Int) = (k : Int) := by omega
  have hmy : (0 : Int) ≤ (k : Int) := by omega
  have p1 : decide ((0 : Int) ≤ (k : Int)) = true := decide_eq_true hmy
  have HKR := Lib.hid (show k = n - 1 from hk.symm)
  clear hk
  go_upto_region 2 with fail
  clear q1 hw1 hmx hmy p1
  have gw := World.grownBy_alloc W (.cells #[.int .i64 (k : Int), (.func (.func 97) #[] #[.pointer (some ⟨b1, 0, none⟩), .pointer (some ⟨b2, 0, none⟩)])] 127) none
  have t0 : (World.alloc W (.cells #[.int .i64 (k : Int), (.func (.func 97) #[] #[.pointer (some ⟨b1, 0, none⟩), .pointer (some ⟨b2, 0, none⟩)])] 127)).cell? ⟨W.heap.size, 0, none⟩ = some (.int .i64 (k : Int)) := by go_simp
  have t1 : (World.alloc W (.cells #[.int .i64 (k : Int), (.func (.func 97) #[] #[.pointer (some ⟨b1, 0, none⟩), .pointer (some ⟨b2, 0, none⟩)])] 127)).cell? ⟨W.heap.size, 1, none⟩ = some (.func (.func 97) #[] #[.pointer (some ⟨b1, 0, none⟩), .pointer (some ⟨b2, 0, none⟩)]) := by go_simp
  obtain ⟨V1, hV⟩ : ∃ z, World.alloc W (.cells #[.int .i64 (k : Int), (.func (.func 97) #[] #[.pointer (some ⟨b1, 0, none⟩), .pointer (some ⟨b2, 0, none⟩)])] 127) = z := ⟨_, rfl⟩
  rw [hV] at gw t0 t1 ⊢
  clear hV
  obtain ⟨b8, hb8⟩ : ∃ z, W.heap.size = z := ⟨_, rfl⟩
  rw [hb8] at t0 t1 ⊢
  have HB8 := Lib.hid hb8
  clear hb8 hmf
  replace H0 := Lib.hid (H0.out.grown gw)
  replace H1 := Lib.hid (H1.out.grown gw)
  replace H2 := Lib.hid (H2.out.grown gw)
  replace H3 := Lib.hid (H3.out.grown gw)
  replace H4 := Lib.hid (H4.out.grown gw)
  replace HX := Lib.hid (HX.out.grown gw)
  replace HM := Lib.hid (HM.out.grown gw)
  replace HG := Lib.hid (World.grownBy.trans HG.out gw)
  have HS1 := Lib.hid (World.grownBy.size gw)
  clear gw
  have q0 := H0.out.1
  have q2 := H2.out.1
  have r2 := H2.out.2.1
  go_wp2_with fail
  clear q0 q2 r2 t0 t1
  refine (itst_calls V1 k (stS n gs m) gs m b1 b2 xa ma xc mc ng nm rfl HL.out.1 HL.out.2.1 HX.out HM.out (by have := HKR.out; have := HL.out; omega) (by have := HL.out; omega) (by have := HL.out; omega) (fun j hj U ya za yc zc ny nz hU hy hz hr ht => ?_)).mono ?_
  · obtain ⟨g1, t, e1, e2⟩ := stS_next n gs m j
    obtain ⟨o1, o2, o3, o4, _⟩ := HOK.out j (by have := HKR.out; have := HL.out; omega)
    have hjr : roundC n * j ≤ roundC n * 2 := Nat.mul_le_mul_left _ (by have := HKR.out; have := HL.out; omega)
    exact st1_calls U n b1 _ g1 _ _ t _ ya za yc zc ny nz m b2 ma mc nm hy hz hr ht (hU.cell H1.out (by simp)) HL.out.2.1 (HM.out.grown hU) (hU.cell H2.out.1 (by simp)) (hU.cell H2.out.2.1 (by simp)) (HL.out.2.2.2.2.2.2.grow o2) o1 o4 HL.out.2.2.2.2.1 HL.out.2.2.2.2.2.1 (by have := HL.out; omega) e1 e2
  rintro e U ⟨a1, c1, a2, n2, c2, rfl, hn2, hr, hm2, gw⟩
  replace H0 := Lib.hid (H0.out.grown gw)
  replace H1 := Lib.hid (H1.out.grown gw)
  replace H2 := Lib.hid (H2.out.grown gw)
  replace H3 := Lib.hid (H3.out.grown gw)
  replace H4 := Lib.hid (H4.out.grown gw)
  replace HX := Lib.hid (HX.out.grown gw)
  replace HM := Lib.hid (HM.out.grown gw)
  replace HG := Lib.hid (World.grownBy.trans HG.out gw)
  have HS2 := Lib.hid (World.grownBy.size gw)
  clear gw
  obtain ⟨g2, hg2⟩ : ∃ z, (stS n gs m k).1 = z := ⟨_, rfl⟩
  obtain ⟨l2, hl2⟩ : ∃ z, (stS n gs m k).2 = z := ⟨_, rfl⟩
  rw [hg2] at hr ⊢
  rw [hl2] at hn2 hm2
  have HP := Lib.hid hr
  have HU := Lib.hid hm2
  have HE := Lib.hid (show (stS n gs m (n - 1)).1 = g2 ∧ (stS n gs m (n - 1)).2 = l2 ∧ l2.length = n2 from by rw [← HKR.out]; exact ⟨hg2, hl2, hn2⟩)
  clear hr hm2 hn2 hg2 hl2 HX HM
  have q3 := H3.out.1
  have f3 := H3.out.2
  have q4 := H4.out.1
  have r4 := H4.out.2.1
  have f4 := H4.out.2.2.1
  have e4 := H4.out.2.2.2
  have hne1 : ¬ b3 = b4 := (by have := HN.out; have := HS1.out; have := HS2.out; omega)
  have hne2 : ¬ b4 = b3 := (by have := HN.out; have := HS1.out; have := HS2.out; omega)
  go_wp2_with fail
  clear q3 f3 q4 r4 f4 e4 hne1 hne2
  have nw0 := H3.out.cf (.slice a1 g2.length c1) H0.out (by have := HN.out; have := HS1.out; have := HS2.out; omega)
  have nw1 := NF.setc (b' := b3) H1.out (.slice a1 g2.length c1) (by have := HN.out; have := HS1.out; have := HS2.out; omega)
  have nw2 := H3.out.mf (.slice a1 g2.length c1) H2.out
  have nw3 := H3.out.put a1 g2.length c1
  have nw4 := H3.out.mf (.slice a1 g2.length c1) H4.out
  have nwP := H3.out.gates (.slice a1 g2.length c1) HP.out
  have nwU := H3.out.cells (.slice a1 g2.length c1) HU.out
  have nG := CF.grows HG.out (by have := HN.out; have := HS1.out; have := HS2.out; omega) (.slice a1 g2.length c1) (b := b3)
  have nS : (World.setCell U ⟨b3, 0, none⟩ (.slice a1 g2.length c1)).heap.size = U.heap.size := by simp
  obtain ⟨V2, hV⟩ : ∃ z, World.setCell U ⟨b3, 0, none⟩ (.slice a1 g2.length c1) = z := ⟨_, rfl⟩
  rw [hV] at nw0 nw1 nw2 nw3 nw4 nwP nwU nG nS ⊢
  clear hV
  replace H0 := Lib.hid nw0
  replace H1 := Lib.hid nw1
  replace H2 := Lib.hid nw2
  replace H3 := Lib.hid nw3
  replace H4 := Lib.hid nw4
  replace HP := Lib.hid nwP
  replace HU := Lib.hid nwU
  replace HG := Lib.hid nG
  have HS3 := Lib.hid nS
  clear nG nS nw0 nw1 nw2 nw3 nw4 nwP nwU
  have nw0 := H4.out.cf (.int .i64 2) (.slice a2 n2 c2) H0.out
  have nw1 := NF.setm (b' := b4) H1.out (.int .i64 2) (.slice a2 n2 c2) (by have := HN.out; have := HS1.out; have := HS2.out; have := HS3.out; omega)
  have nw2 := H4.out.mf (.int .i64 2) (.slice a2 n2 c2) H2.out (by have := HN.out; have := HS1.out; have := HS2.out; have := HS3.out; omega)
  have nw3 := H4.out.cf (.int .i64 2) (.slice a2 n2 c2) H3.out
  have nw4 := H4.out.put 2 a2 n2 c2
  have nwP := H4.out.gates (.int .i64 2) (.slice a2 n2 c2) HP.out
  have nwU := H4.out.cells (.int .i64 2) (.slice a2 n2 c2) HU.out
  have nG := MF.grows HG.out (by have := HN.out; have := HS1.out; have := HS2.out; have := HS3.out; omega) (.int .i64 2) (.slice a2 n2 c2) (b := b4)
  have nS : (World.setCell (World.setCell V2 ⟨b4, 0, none⟩ (.int .i64 2)) ⟨b4, 1, none⟩ (.slice a2 n2 c2)).heap.size = V2.heap.size := by simp
  unfold laidX at nw0 nw1 nw2 nw3 nw4 nwP nwU nG
  obtain ⟨V3, hV⟩ : ∃ z, World.setCell (World.setCell V2 ⟨b4, 0, none⟩ (.int .i64 2)) ⟨b4, 1, none⟩ (.slice a2 n2 c2) = z := ⟨_, rfl⟩
  rw [hV] at nw0 nw1 nw2 nw3 nw4 nwP nwU nG nS ⊢
  clear hV
  replace H0 := Lib.hid nw0
  replace H1 := Lib.hid nw1
  replace H2 := Lib.hid nw2
  replace H3 := Lib.hid nw3
  replace H4 := Lib.hid nw4
  replace HP := Lib.hid nwP
  replace HU := Lib.hid nwU
  replace HG := Lib.hid nG
  have HS4 := Lib.hid nS
  clear nG nS nw0 nw1 nw2 nw3 nw4 nwP nwU
  refine bodyPost_ret (resU58 _ _ b3 b4 a1 g2.length c1 _ _ rfl rfl H3.out.1 H4.out.1 H4.out.2.1) rfl ?_
  rw [HE.out.1, HE.out.2.1]
  exact ⟨a1, c1, a2, n2, c2, rfl, HE.out.2.2, HP.out, HU.out, HG.out⟩
end Go.Proofs.YthdhmflodiincaaGreat

namespace Go.Proofs.YthdhmflodiincaaGreat
open Go.RowKit Go.Maps

def smP (n : Nat) (gs : List Gt) (a : List Cl) : List Gt × List Cl := if (stS n gs a (n - 1)).1.length < (stQ n gs a (sqR n)).1.length then stS n gs a (n - 1) else stQ n gs a (sqR n)
theorem resU60 (tmps : Array Value) (w : World) (b c : Nat) (a : Option Addr) (n d : Nat) (x y : Value) (ht : tmps.getD 6 undef = .pointer (some ⟨b, 0, none⟩)) (hu : tmps.getD 7 undef = .pointer (some ⟨c, 0, none⟩)) (h0 : w.cell? ⟨b, 0, none⟩ = some (.slice a n d)) (h1 : w.cell? ⟨c, 0, none⟩ = some x) (h2 : w.cell? ⟨c, 1, none⟩ = some y) :
    (results Tryz.f35 tmps).run Tryz.prog w = .ok (.tuple #[.agg #[.slice a n d], .agg #[x, y]]) w := by
  have ht' : tmps[6]?.getD undef = .pointer (some ⟨b, 0, none⟩) := by simpa using ht
  have hu' : tmps[7]?.getD undef = .pointer (some ⟨c, 0, none⟩) := by simpa using hu
  simp [results, ht', hu', go_sem, h0, h1, h2, Result.andThen]
theorem smaller_calls (w : World) (n : Nat) (gs : List Gt) (m : List Cl) (xa ma : Option Addr) (xc mc ng nm : Nat) (hng : gs.length = ng) (hnm : m.length = nm) (h : GatesW w xa xc gs) (hm : CellsW w ma mc m)
    (hG : Good gs) (hs : Sq n gs m) (hn1 : 1 ≤ n) (hn4 : n ≤ 4) (hl : ng + roundC n * 2 ≤ 440) :
    Calls Tryz.prog 35 #[.agg #[.slice xa ng xc], .int .i64 (n : Int), .agg #[.int .i64 2, .slice ma nm mc]] w (AnsM w (smP n gs m).1 2 (smP n gs m).2) := by
  obtain ⟨gq, hgq⟩ : ∃ z, (stQ n gs m (sqR n)).1 = z := ⟨_, rfl⟩
  obtain ⟨lq, hlq⟩ : ∃ z, (stQ n gs m (sqR n)).2 = z := ⟨_, rfl⟩
  obtain ⟨gt, hgt⟩ : ∃ z, (stS n gs m (n - 1)).1 = z := ⟨_, rfl⟩
  obtain ⟨lt, hlt⟩ : ∃ z, (stS n gs m (n - 1)).2 = z := ⟨_, rfl⟩
  have HSM := Lib.hid (show smP n gs m = if gt.length < gq.length then (gt, lt) else (gq, lq) from by
    unfold smP
    rw [hgq, hgt, show stS n gs m (n - 1) = (gt, lt) from by rw [← hgt, ← hlt], show stQ n gs m (sqR n) = (gq, lq) from by rw [← hgq, ← hlq]])
  have HQ := Lib.hid (fun (U : World) (hU : GatesW U xa xc gs) (hM : CellsW U ma mc m) => squaring_calls U n gs m xa ma xc mc ng nm hng hnm hU hM hG hs hn1 hn4 hl)
  have HT := Lib.hid (fun (U : World) (hU : GatesW U xa xc gs) (hM : CellsW U ma mc m) => stepwise_calls U n gs m xa ma xc mc ng nm hng hnm hU hM hG hs hn1 hn4 hl)
  rw [hgq, hlq] at HQ
  rw [hgt, hlt] at HT
  obtain ⟨nq, hnq⟩ : ∃ z, gq.length = z := ⟨_, rfl⟩
  obtain ⟨nt, hnt⟩ : ∃ z, gt.length = z := ⟨_, rfl⟩
  have HNL := Lib.hid (And.intro hnq hnt)
  obtain ⟨W, b0, b1, b2, b3, hW, hg, hsz, ⟨hb0, hb1, hb2, hb3⟩, k0, k1, k2, k3⟩ := boxes4 w xa ng xc 2 ma nm mc
  have HG := Lib.hid hg
  have H0 := Lib.hid k0
  have H1 := Lib.hid k1
  have H2 := Lib.hid k2
  have H3 := Lib.hid k3
  have HN := Lib.hid (show w.heap.size ≤ b0 ∧ b0 < b1 ∧ b1 < b2 ∧ b2 < b3 ∧ b3 < W.heap.size from by omega)
  have HX := Lib.hid (h.grown hg)
  have HM := Lib.hid (hm.grown hg)
  have HB := Lib.hid (And.intro hb3 (And.intro hb2 (And.intro hb1 hb0)))
  clear hg k0 k1 k2 k3 hsz h hm hb0 hb1 hb2 hb3 hgq hlq hgt hlt hnq hnt hng hnm hG hs hn1 hn4 hl
  go_enter Tryz.func35, Tryz.ntmps35
  go_upto_region 1 with fail
  rw [HB.out.1, HB.out.2.1, HB.out.2.2.1, HB.out.2.2.2]
  clear hW HB
  have q0 := H0.out.1
  have q1 := H1.out.1
  have r1 := H1.out.2.1
  go_wp2_with fail
  clear q0 q1 r1
  refine (HQ.out W HX.out HM.out).mono ?_
  rintro e V1 ⟨aq, cq, dq, nq2, eqx, rfl, hn2, hr, hm2, gw⟩
  rw [HNL.out.1]
  replace H0 := Lib.hid (H0.out.grown gw)
  replace H1 := Lib.hid (H1.out.grown gw)
  replace H2 := Lib.hid (H2.out.grown gw)
  replace H3 := Lib.hid (H3.out.grown gw)
  replace HX := Lib.hid (HX.out.grown gw)
  replace HM := Lib.hid (HM.out.grown gw)
  replace HG := Lib.hid (World.grownBy.trans HG.out gw)
  have HS1 := Lib.hid (World.grownBy.size gw)
  clear gw
  have HRq := Lib.hid hr
  have HTq := Lib.hid hm2
  have HNq := Lib.hid hn2
  clear hr hm2 hn2
  go_upto_region 2 with fail
  have gw := World.grownBy_alloc V1 (.cells #[.slice aq nq cq] 27) none
  have hb := CF.new V1 aq nq cq
  obtain ⟨V2, hV⟩ : ∃ z, World.alloc V1 (.cells #[.slice aq nq cq] 27) = z := ⟨_, rfl⟩
  have hz : V2.heap.size = V1.heap.size + 1 := by rw [← hV]; simp
  rw [hV] at gw hb ⊢
  clear hV
  obtain ⟨b8, hbb⟩ : ∃ z, V1.heap.size = z := ⟨_, rfl⟩
  rw [hbb] at hb ⊢
  have HS2 := Lib.hid (show V1.heap.size = b8 ∧ V2.heap.size = b8 + 1 from by omega)
  clear hz hbb
  replace H0 := Lib.hid (H0.out.grown gw)
  replace H1 := Lib.hid (H1.out.grown gw)
  replace H2 := Lib.hid (H2.out.grown gw)
  replace H3 := Lib.hid (H3.out.grown gw)
  replace HX := Lib.hid (HX.out.grown gw)
  replace HM := Lib.hid (HM.out.grown gw)
  replace HRq := Lib.hid (HRq.out.grown gw)
  replace HTq := Lib.hid (HTq.out.grown gw)
  replace HG := Lib.hid (World.grownBy.trans HG.out gw)
  have HS3 := Lib.hid (World.grownBy.size gw)
  clear gw
  have H8 := Lib.hid hb
  clear hb
  have e9 : b8 + 1 = V2.heap.size := (by have := HN.out; have := HS1.out; have := HS2.out; have := HS3.out; omega)
  try rw [e9]
  clear e9
  have gw := World.grownBy_alloc V2 (.cells #[.int .i64 2, .slice dq nq2 eqx] 35) none
  have hb := MF.new V2 2 dq nq2 eqx
  obtain ⟨V3, hV⟩ : ∃ z, World.alloc V2 (.cells #[.int .i64 2, .slice dq nq2 eqx] 35) = z := ⟨_, rfl⟩
  have hz : V3.heap.size = V2.heap.size + 1 := by rw [← hV]; simp
  rw [hV] at gw hb ⊢
  clear hV
  obtain ⟨b9, hbb⟩ : ∃ z, V2.heap.size = z := ⟨_, rfl⟩
  rw [hbb] at hb ⊢
  have HS4 := Lib.hid (show V2.heap.size = b9 ∧ V3.heap.size = b9 + 1 from by omega)
  clear hz hbb
  replace H0 := Lib.hid (H0.out.grown gw)
  replace H1 := Lib.hid (H1.out.grown gw)
  replace H2 := Lib.hid (H2.out.grown gw)
  replace H3 := Lib.hid (H3.out.grown gw)
  replace HX := Lib.hid (HX.out.grown gw)
  replace HM := Lib.hid (HM.out.grown gw)
  replace HRq := Lib.hid (HRq.out.grown gw)
  replace HTq := Lib.hid (HTq.out.grown gw)
  replace H8 := Lib.hid (H8.out.grown gw)
  replace HG := Lib.hid (World.grownBy.trans HG.out gw)
  have HS5 := Lib.hid (World.grownBy.size gw)
  clear gw
  have H9 := Lib.hid hb
  clear hb
  have q0 := H0.out.1
  have q1 := H1.out.1
  have r1 := H1.out.2.1
  go_wp2_with fail
  clear q0 q1 r1
  refine (HT.out V3 HX.out HM.out).mono ?_
  rintro e V4 ⟨atx, ct, dt, nt2, et, rfl, hn2, hr, hm2, gw⟩
  rw [HNL.out.2]
  replace H0 := Lib.hid (H0.out.grown gw)
  replace H1 := Lib.hid (H1.out.grown gw)
  replace H2 := Lib.hid (H2.out.grown gw)
  replace H3 := Lib.hid (H3.out.grown gw)
  replace HX := Lib.hid (HX.out.grown gw)
  replace HM := Lib.hid (HM.out.grown gw)
  replace HRq := Lib.hid (HRq.out.grown gw)
  replace HTq := Lib.hid (HTq.out.grown gw)
  replace H8 := Lib.hid (H8.out.grown gw)
  replace H9 := Lib.hid (H9.out.grown gw)
  replace HG := Lib.hid (World.grownBy.trans HG.out gw)
  have HS6 := Lib.hid (World.grownBy.size gw)
  clear gw
  have HRt := Lib.hid hr
  have HTt := Lib.hid hm2
  have HNt := Lib.hid hn2
  clear hr hm2 hn2
  go_upto_region 3 with fail
  have gw := World.grownBy_alloc V4 (.cells #[.slice atx nt ct] 27) none
  have hb := CF.new V4 atx nt ct
  obtain ⟨V5, hV⟩ : ∃ z, World.alloc V4 (.cells #[.slice atx nt ct] 27) = z := ⟨_, rfl⟩
  have hz : V5.heap.size = V4.heap.size + 1 := by rw [← hV]; simp
  rw [hV] at gw hb ⊢
  clear hV
  obtain ⟨b10, hbb⟩ : ∃ z, V4.heap.size = z := ⟨_, rfl⟩
  rw [hbb] at hb ⊢
  have HS7 := Lib.hid (show V4.heap.size = b10 ∧ V5.heap.size = b10 + 1 from by omega)
  clear hz hbb
  replace H0 := Lib.hid (H0.out.grown gw)
  replace H1 := Lib.hid (H1.out.grown gw)
  replace H2 := Lib.hid (H2.out.grown gw)
  replace H3 := Lib.hid (H3.out.grown gw)
  replace HX := Lib.hid (HX.out.grown gw)
  replace HM := Lib.hid (HM.out.grown gw)
  replace HRq := Lib.hid (HRq.out.grown gw)
  replace HTq := Lib.hid (HTq.out.grown gw)
  replace H8 := Lib.hid (H8.out.grown gw)
  replace H9 := Lib.hid (H9.out.grown gw)
  replace HRt := Lib.hid (HRt.out.grown gw)
  replace HTt := Lib.hid (HTt.out.grown gw)
  replace HG := Lib.hid (World.grownBy.trans HG.out gw)
  have HS8 := Lib.hid (World.grownBy.size gw)
  clear gw
  have H10 := Lib.hid hb
  clear hb
  have e9 : b10 + 1 = V5.heap.size := (by have := HN.out; have := HS1.out; have := HS2.out; have := HS3.out; have := HS4.out; have := HS5.out; have := HS6.out; have := HS7.out; have := HS8.out; omega)
  try rw [e9]
  clear e9
  have gw := World.grownBy_alloc V5 (.cells #[.int .i64 2, .slice dt nt2 et] 35) none
  have hb := MF.new V5 2 dt nt2 et
  obtain ⟨V6, hV⟩ : ∃ z, World.alloc V5 (.cells #[.int .i64 2, .slice dt nt2 et] 35) = z := ⟨_, rfl⟩
  have hz : V6.heap.size = V5.heap.size + 1 := by rw [← hV]; simp
  rw [hV] at gw hb ⊢
  clear hV
  obtain ⟨b11, hbb⟩ : ∃ z, V5.heap.size = z := ⟨_, rfl⟩
  rw [hbb] at hb ⊢
  have HS9 := Lib.hid (show V5.heap.size = b11 ∧ V6.heap.size = b11 + 1 from by omega)
  clear hz hbb
  replace H0 := Lib.hid (H0.out.grown gw)
  replace H1 := Lib.hid (H1.out.grown gw)
  replace H2 := Lib.hid (H2.out.grown gw)
  replace H3 := Lib.hid (H3.out.grown gw)
  replace HX := Lib.hid (HX.out.grown gw)
  replace HM := Lib.hid (HM.out.grown gw)
  replace HRq := Lib.hid (HRq.out.grown gw)
  replace HTq := Lib.hid (HTq.out.grown gw)
  replace H8 := Lib.hid (H8.out.grown gw)
  replace H9 := Lib.hid (H9.out.grown gw)
  replace HRt := Lib.hid (HRt.out.grown gw)
  replace HTt := Lib.hid (HTt.out.grown gw)
  replace H10 := Lib.hid (H10.out.grown gw)
  replace HG := Lib.hid (World.grownBy.trans HG.out gw)
  have HS10 := Lib.hid (World.grownBy.size gw)
  clear gw
  have H11 := Lib.hid hb
  clear hb
  have q8 := H8.out.1
  have q10 := H10.out.1
  by_cases hlt : nt < nq
  · have f1 : decide (nt < nq) = true := decide_eq_true hlt
    have f2 : decide ((nt : Int) < (nq : Int)) = true := decide_eq_true (by omega)
    have HSE := Lib.hid (show smP n gs m = (gt, lt) from by rw [HSM.out, HNL.out.1, HNL.out.2, if_pos hlt])
    go_wp2_with fail
    clear f1 f2
    clear q8 q10
    obtain ⟨wd, hwd⟩ : ∃ z, V6.drew = z := ⟨_, rfl⟩
    have gw : V6.grownBy wd none := by rw [← hwd]; exact ⟨rfl, rfl, rfl, Nat.le_refl _, fun _ _ _ => rfl⟩
    replace H0 := Lib.hid (H0.out.grown gw)
    replace H1 := Lib.hid (H1.out.grown gw)
    replace H2 := Lib.hid (H2.out.grown gw)
    replace H3 := Lib.hid (H3.out.grown gw)
    replace HX := Lib.hid (HX.out.grown gw)
    replace HM := Lib.hid (HM.out.grown gw)
    replace HRq := Lib.hid (HRq.out.grown gw)
    replace HTq := Lib.hid (HTq.out.grown gw)
    replace H8 := Lib.hid (H8.out.grown gw)
    replace H9 := Lib.hid (H9.out.grown gw)
    replace HRt := Lib.hid (HRt.out.grown gw)
    replace HTt := Lib.hid (HTt.out.grown gw)
    replace H10 := Lib.hid (H10.out.grown gw)
    replace H11 := Lib.hid (H11.out.grown gw)
    replace HG := Lib.hid (World.grownBy.trans HG.out gw)
    have HS11 := Lib.hid (World.grownBy.size gw)
    clear gw
    have HS := Lib.hid (fun (Wh : World) (hWh : CF Wh b10 atx nt ct ∧ MF Wh b11 2 dt nt2 et) => (⟨hWh.1.1, hWh.2.1, hWh.2.2.1⟩ : (fun Wh : World => Wh.cell? ⟨b10, 0, none⟩ = some (.slice atx nt ct) ∧ Wh.cell? ⟨b11, 0, none⟩ = some (.int .i64 2) ∧ Wh.cell? ⟨b11, 1, none⟩ = some (.slice dt nt2 et)) Wh))
    have hdr : CF V6.drew b10 atx nt ct ∧ MF V6.drew b11 2 dt nt2 et := by rw [hwd]; exact ⟨H10.out, H11.out⟩
    refine wp_region_held_drew (S := (fun Wh : World => Wh.cell? ⟨b10, 0, none⟩ = some (.slice atx nt ct) ∧ Wh.cell? ⟨b11, 0, none⟩ = some (.int .i64 2) ∧ Wh.cell? ⟨b11, 1, none⟩ = some (.slice dt nt2 et))) (by kernel_rfl) (HS.out _ hdr) (fun hHeld => ?_)
    rw [hwd] at hHeld ⊢
    clear hwd
    refine wpAnyH_take (i := 0) (oi := { dst := some 33, op := Op.load 27 (Operand.tmp 10), type := 27, pos := "closure.go:55", after := #[], guard := none }) (v := ?_) rfl (by kernel_rfl) (by kernel_rfl) (by kernel_rfl) (fun _ _ _ h => h) (Or.inl ⟨by rfl, ?_⟩) (by assumption) ?_
    rotate_left 1
    · (intro W h; (try dsimp only at h); go_simp <;> with_reducible rfl)
    try simp only [Act.put, sA, sB, sC]
    refine wpAnyH_take (i := 1) (oi := { dst := some 34, op := Op.load 35 (Operand.tmp 11), type := 35, pos := "closure.go:55", after := #[{ on := 2, ground := Ground.gcOnly Departure.lateStores }], guard := none }) (v := ?_) rfl (by kernel_rfl) (by kernel_rfl) (by kernel_rfl) (fun _ _ _ h => h) (Or.inl ⟨by rfl, ?_⟩) (by assumption) ?_
    rotate_left 1
    · (intro W h; (try dsimp only at h); go_simp <;> with_reducible rfl)
    try simp only [Act.put, sA, sB, sC]
    refine wpAnyH_ready (rs := [2]) (by kernel_rfl) (by simp) ?_
    refine (AllReadyH.cons (o := { dst := none, op := Op.store 27 (Operand.tmp 6) (Operand.tmp 33), type := 0, pos := "closure.go:55", after := #[{ on := 0, ground := Ground.data }, { on := 0, ground := Ground.phase }, { on := 1, ground := Ground.textOnly Departure.lateStores }], guard := none }) rfl (fun K hK => ?_) AllReadyH.nil)
    rw [if_pos (by rfl)]
    have k1 := H2.out.1
    have kf := H2.out.2
    go_simp
    clear k1 kf
    have nw0 := H2.out.cf (.slice atx nt ct) H0.out (by have := HN.out; have := HS1.out; have := HS2.out; have := HS3.out; have := HS4.out; have := HS5.out; have := HS6.out; have := HS7.out; have := HS8.out; have := HS9.out; have := HS10.out; have := HS11.out; omega)
    have nw1 := H2.out.mf (.slice atx nt ct) H1.out
    have nw2 := H2.out.put atx nt ct
    have nw3 := H2.out.mf (.slice atx nt ct) H3.out
    have nwX := H2.out.gates (.slice atx nt ct) HX.out
    have nwM := H2.out.cells (.slice atx nt ct) HM.out
    have nwRq := H2.out.gates (.slice atx nt ct) HRq.out
    have nwTq := H2.out.cells (.slice atx nt ct) HTq.out
    have nw8 := H2.out.cf (.slice atx nt ct) H8.out (by have := HN.out; have := HS1.out; have := HS2.out; have := HS3.out; have := HS4.out; have := HS5.out; have := HS6.out; have := HS7.out; have := HS8.out; have := HS9.out; have := HS10.out; have := HS11.out; omega)
    have nw9 := H2.out.mf (.slice atx nt ct) H9.out
    have nwRt := H2.out.gates (.slice atx nt ct) HRt.out
    have nwTt := H2.out.cells (.slice atx nt ct) HTt.out
    have nw10 := H2.out.cf (.slice atx nt ct) H10.out (by have := HN.out; have := HS1.out; have := HS2.out; have := HS3.out; have := HS4.out; have := HS5.out; have := HS6.out; have := HS7.out; have := HS8.out; have := HS9.out; have := HS10.out; have := HS11.out; omega)
    have nw11 := H2.out.mf (.slice atx nt ct) H11.out
    have nG := CF.grows HG.out (by have := HN.out; have := HS1.out; have := HS2.out; have := HS3.out; have := HS4.out; have := HS5.out; have := HS6.out; have := HS7.out; have := HS8.out; have := HS9.out; have := HS10.out; have := HS11.out; omega) (.slice atx nt ct) (b := b2)
    have nS : (World.setCell wd ⟨b2, 0, none⟩ (.slice atx nt ct)).heap.size = wd.heap.size := by simp
    obtain ⟨V7, hV⟩ : ∃ z, World.setCell wd ⟨b2, 0, none⟩ (.slice atx nt ct) = z := ⟨_, rfl⟩
    rw [hV] at nw0 nw1 nw2 nw3 nwX nwM nwRq nwTq nw8 nw9 nwRt nwTt nw10 nw11 nG nS ⊢
    clear hV
    replace H0 := Lib.hid nw0
    replace H1 := Lib.hid nw1
    replace H2 := Lib.hid nw2
    replace H3 := Lib.hid nw3
    replace HX := Lib.hid nwX
    replace HM := Lib.hid nwM
    replace HRq := Lib.hid nwRq
    replace HTq := Lib.hid nwTq
    replace H8 := Lib.hid nw8
    replace H9 := Lib.hid nw9
    replace HRt := Lib.hid nwRt
    replace HTt := Lib.hid nwTt
    replace H10 := Lib.hid nw10
    replace H11 := Lib.hid nw11
    replace HG := Lib.hid nG
    have HS12 := Lib.hid nS
    clear nG nS nw0 nw1 nw2 nw3 nwX nwM nwRq nwTq nw8 nw9 nwRt nwTt nw10 nw11
    refine hK.out _ _ (HS.out _ ⟨H10.out, H11.out⟩) (fun hHeld => ?_)
    clear hK K
    try simp only [Act.put, sA, sB, sC]
    refine wpAnyH_ready (rs := [3]) (by kernel_rfl) (by simp) ?_
    refine (AllReadyH.cons (o := { dst := none, op := Op.store 35 (Operand.tmp 7) (Operand.tmp 34), type := 0, pos := "closure.go:55", after := #[{ on := 1, ground := Ground.data }, { on := 2, ground := Ground.chain }, { on := 0, ground := Ground.phase }, { on := 1, ground := Ground.phase }, { on := 2, ground := Ground.phase }], guard := none }) rfl (fun K hK => ?_) AllReadyH.nil)
    rw [if_pos (by rfl)]
    have k1 := H3.out.1
    have k2 := H3.out.2.1
    have kf := H3.out.2.2.1
    have kg := H3.out.2.2.2
    go_simp
    clear k1 k2 kf kg
    have nw0 := H3.out.cf (.int .i64 2) (.slice dt nt2 et) H0.out
    have nw1 := H3.out.mf (.int .i64 2) (.slice dt nt2 et) H1.out (by have := HN.out; have := HS1.out; have := HS2.out; have := HS3.out; have := HS4.out; have := HS5.out; have := HS6.out; have := HS7.out; have := HS8.out; have := HS9.out; have := HS10.out; have := HS11.out; have := HS12.out; omega)
    have nw2 := H3.out.cf (.int .i64 2) (.slice dt nt2 et) H2.out
    have nw3 := H3.out.put 2 dt nt2 et
    have nwX := H3.out.gates (.int .i64 2) (.slice dt nt2 et) HX.out
    have nwM := H3.out.cells (.int .i64 2) (.slice dt nt2 et) HM.out
    have nwRq := H3.out.gates (.int .i64 2) (.slice dt nt2 et) HRq.out
    have nwTq := H3.out.cells (.int .i64 2) (.slice dt nt2 et) HTq.out
    have nw8 := H3.out.cf (.int .i64 2) (.slice dt nt2 et) H8.out
    have nw9 := H3.out.mf (.int .i64 2) (.slice dt nt2 et) H9.out (by have := HN.out; have := HS1.out; have := HS2.out; have := HS3.out; have := HS4.out; have := HS5.out; have := HS6.out; have := HS7.out; have := HS8.out; have := HS9.out; have := HS10.out; have := HS11.out; have := HS12.out; omega)
    have nwRt := H3.out.gates (.int .i64 2) (.slice dt nt2 et) HRt.out
    have nwTt := H3.out.cells (.int .i64 2) (.slice dt nt2 et) HTt.out
    have nw10 := H3.out.cf (.int .i64 2) (.slice dt nt2 et) H10.out
    have nw11 := H3.out.mf (.int .i64 2) (.slice dt nt2 et) H11.out (by have := HN.out; have := HS1.out; have := HS2.out; have := HS3.out; have := HS4.out; have := HS5.out; have := HS6.out; have := HS7.out; have := HS8.out; have := HS9.out; have := HS10.out; have := HS11.out; have := HS12.out; omega)
    have nG := MF.grows HG.out (by have := HN.out; have := HS1.out; have := HS2.out; have := HS3.out; have := HS4.out; have := HS5.out; have := HS6.out; have := HS7.out; have := HS8.out; have := HS9.out; have := HS10.out; have := HS11.out; have := HS12.out; omega) (.int .i64 2) (.slice dt nt2 et) (b := b3)
    have nS : (World.setCell (World.setCell V7 ⟨b3, 0, none⟩ (.int .i64 2)) ⟨b3, 1, none⟩ (.slice dt nt2 et)).heap.size = V7.heap.size := by simp
    unfold laidX at nw0 nw1 nw2 nw3 nwX nwM nwRq nwTq nw8 nw9 nwRt nwTt nw10 nw11 nG
    obtain ⟨V8, hV⟩ : ∃ z, World.setCell (World.setCell V7 ⟨b3, 0, none⟩ (.int .i64 2)) ⟨b3, 1, none⟩ (.slice dt nt2 et) = z := ⟨_, rfl⟩
    rw [hV] at nw0 nw1 nw2 nw3 nwX nwM nwRq nwTq nw8 nw9 nwRt nwTt nw10 nw11 nG nS ⊢
    clear hV
    replace H0 := Lib.hid nw0
    replace H1 := Lib.hid nw1
    replace H2 := Lib.hid nw2
    replace H3 := Lib.hid nw3
    replace HX := Lib.hid nwX
    replace HM := Lib.hid nwM
    replace HRq := Lib.hid nwRq
    replace HTq := Lib.hid nwTq
    replace H8 := Lib.hid nw8
    replace H9 := Lib.hid nw9
    replace HRt := Lib.hid nwRt
    replace HTt := Lib.hid nwTt
    replace H10 := Lib.hid nw10
    replace H11 := Lib.hid nw11
    replace HG := Lib.hid nG
    have HS13 := Lib.hid nS
    clear nG nS nw0 nw1 nw2 nw3 nwX nwM nwRq nwTq nw8 nw9 nwRt nwTt nw10 nw11
    refine hK.out _ _ (HS.out _ ⟨H10.out, H11.out⟩) (fun hHeld => ?_)
    clear hK K
    try simp only [Act.put, sA, sB, sC]
    refine wpAnyH_done (by kernel_rfl) ?_ _
    have hEND := hdr
    clear hHeld
    go_wp2_with fail
    refine bodyPost_ret (resU60 _ _ b2 b3 atx nt ct _ _ rfl rfl H2.out.1 H3.out.1 H3.out.2.1) rfl ?_
    rw [HSE.out]
    exact ⟨atx, ct, dt, nt2, et, by rw [HNL.out.2], HNt.out, HRt.out, HTt.out, HG.out⟩
  · have f1 : decide (nt < nq) = false := decide_eq_false hlt
    have f2 : decide ((nt : Int) < (nq : Int)) = false := decide_eq_false (by omega)
    have HSE := Lib.hid (show smP n gs m = (gq, lq) from by rw [HSM.out, HNL.out.1, HNL.out.2, if_neg hlt])
    go_wp2_with fail
    clear f1 f2
    clear q8 q10
    obtain ⟨wd, hwd⟩ : ∃ z, V6.drew = z := ⟨_, rfl⟩
    have gw : V6.grownBy wd none := by rw [← hwd]; exact ⟨rfl, rfl, rfl, Nat.le_refl _, fun _ _ _ => rfl⟩
    replace H0 := Lib.hid (H0.out.grown gw)
    replace H1 := Lib.hid (H1.out.grown gw)
    replace H2 := Lib.hid (H2.out.grown gw)
    replace H3 := Lib.hid (H3.out.grown gw)
    replace HX := Lib.hid (HX.out.grown gw)
    replace HM := Lib.hid (HM.out.grown gw)
    replace HRq := Lib.hid (HRq.out.grown gw)
    replace HTq := Lib.hid (HTq.out.grown gw)
    replace H8 := Lib.hid (H8.out.grown gw)
    replace H9 := Lib.hid (H9.out.grown gw)
    replace HRt := Lib.hid (HRt.out.grown gw)
    replace HTt := Lib.hid (HTt.out.grown gw)
    replace H10 := Lib.hid (H10.out.grown gw)
    replace H11 := Lib.hid (H11.out.grown gw)
    replace HG := Lib.hid (World.grownBy.trans HG.out gw)
    have HS11 := Lib.hid (World.grownBy.size gw)
    clear gw
    have HS := Lib.hid (fun (Wh : World) (hWh : CF Wh b8 aq nq cq ∧ MF Wh b9 2 dq nq2 eqx) => (⟨hWh.1.1, hWh.2.1, hWh.2.2.1⟩ : (fun Wh : World => Wh.cell? ⟨b8, 0, none⟩ = some (.slice aq nq cq) ∧ Wh.cell? ⟨b9, 0, none⟩ = some (.int .i64 2) ∧ Wh.cell? ⟨b9, 1, none⟩ = some (.slice dq nq2 eqx)) Wh))
    have hdr : CF V6.drew b8 aq nq cq ∧ MF V6.drew b9 2 dq nq2 eqx := by rw [hwd]; exact ⟨H8.out, H9.out⟩
    refine wp_region_held_drew (S := (fun Wh : World => Wh.cell? ⟨b8, 0, none⟩ = some (.slice aq nq cq) ∧ Wh.cell? ⟨b9, 0, none⟩ = some (.int .i64 2) ∧ Wh.cell? ⟨b9, 1, none⟩ = some (.slice dq nq2 eqx))) (by kernel_rfl) (HS.out _ hdr) (fun hHeld => ?_)
    rw [hwd] at hHeld ⊢
    clear hwd
    refine wpAnyH_take (i := 0) (oi := { dst := some 35, op := Op.load 27 (Operand.tmp 8), type := 27, pos := "closure.go:57", after := #[], guard := none }) (v := ?_) rfl (by kernel_rfl) (by kernel_rfl) (by kernel_rfl) (fun _ _ _ h => h) (Or.inl ⟨by rfl, ?_⟩) (by assumption) ?_
    rotate_left 1
    · (intro W h; (try dsimp only at h); go_simp <;> with_reducible rfl)
    try simp only [Act.put, sA, sB, sC]
    refine wpAnyH_take (i := 1) (oi := { dst := some 36, op := Op.load 35 (Operand.tmp 9), type := 35, pos := "closure.go:57", after := #[{ on := 2, ground := Ground.gcOnly Departure.lateStores }], guard := none }) (v := ?_) rfl (by kernel_rfl) (by kernel_rfl) (by kernel_rfl) (fun _ _ _ h => h) (Or.inl ⟨by rfl, ?_⟩) (by assumption) ?_
    rotate_left 1
    · (intro W h; (try dsimp only at h); go_simp <;> with_reducible rfl)
    try simp only [Act.put, sA, sB, sC]
    refine wpAnyH_ready (rs := [2]) (by kernel_rfl) (by simp) ?_
    refine (AllReadyH.cons (o := { dst := none, op := Op.store 27 (Operand.tmp 6) (Operand.tmp 35), type := 0, pos := "closure.go:57", after := #[{ on := 0, ground := Ground.data }, { on := 0, ground := Ground.phase }, { on := 1, ground := Ground.textOnly Departure.lateStores }], guard := none }) rfl (fun K hK => ?_) AllReadyH.nil)
    rw [if_pos (by rfl)]
    have k1 := H2.out.1
    have kf := H2.out.2
    go_simp
    clear k1 kf
    have nw0 := H2.out.cf (.slice aq nq cq) H0.out (by have := HN.out; have := HS1.out; have := HS2.out; have := HS3.out; have := HS4.out; have := HS5.out; have := HS6.out; have := HS7.out; have := HS8.out; have := HS9.out; have := HS10.out; have := HS11.out; omega)
    have nw1 := H2.out.mf (.slice aq nq cq) H1.out
    have nw2 := H2.out.put aq nq cq
    have nw3 := H2.out.mf (.slice aq nq cq) H3.out
    have nwX := H2.out.gates (.slice aq nq cq) HX.out
    have nwM := H2.out.cells (.slice aq nq cq) HM.out
    have nwRq := H2.out.gates (.slice aq nq cq) HRq.out
    have nwTq := H2.out.cells (.slice aq nq cq) HTq.out
    have nw8 := H2.out.cf (.slice aq nq cq) H8.out (by have := HN.out; have := HS1.out; have := HS2.out; have := HS3.out; have := HS4.out; have := HS5.out; have := HS6.out; have := HS7.out; have := HS8.out; have := HS9.out; have := HS10.out; have := HS11.out; omega)
    have nw9 := H2.out.mf (.slice aq nq cq) H9.out
    have nwRt := H2.out.gates (.slice aq nq cq) HRt.out
    have nwTt := H2.out.cells (.slice aq nq cq) HTt.out
    have nw10 := H2.out.cf (.slice aq nq cq) H10.out (by have := HN.out; have := HS1.out; have := HS2.out; have := HS3.out; have := HS4.out; have := HS5.out; have := HS6.out; have := HS7.out; have := HS8.out; have := HS9.out; have := HS10.out; have := HS11.out; omega)
    have nw11 := H2.out.mf (.slice aq nq cq) H11.out
    have nG := CF.grows HG.out (by have := HN.out; have := HS1.out; have := HS2.out; have := HS3.out; have := HS4.out; have := HS5.out; have := HS6.out; have := HS7.out; have := HS8.out; have := HS9.out; have := HS10.out; have := HS11.out; omega) (.slice aq nq cq) (b := b2)
    have nS : (World.setCell wd ⟨b2, 0, none⟩ (.slice aq nq cq)).heap.size = wd.heap.size := by simp
    obtain ⟨V7, hV⟩ : ∃ z, World.setCell wd ⟨b2, 0, none⟩ (.slice aq nq cq) = z := ⟨_, rfl⟩
    rw [hV] at nw0 nw1 nw2 nw3 nwX nwM nwRq nwTq nw8 nw9 nwRt nwTt nw10 nw11 nG nS ⊢
    clear hV
    replace H0 := Lib.hid nw0
    replace H1 := Lib.hid nw1
    replace H2 := Lib.hid nw2
    replace H3 := Lib.hid nw3
    replace HX := Lib.hid nwX
    replace HM := Lib.hid nwM
    replace HRq := Lib.hid nwRq
    replace HTq := Lib.hid nwTq
    replace H8 := Lib.hid nw8
    replace H9 := Lib.hid nw9
    replace HRt := Lib.hid nwRt
    replace HTt := Lib.hid nwTt
    replace H10 := Lib.hid nw10
    replace H11 := Lib.hid nw11
    replace HG := Lib.hid nG
    have HS12 := Lib.hid nS
    clear nG nS nw0 nw1 nw2 nw3 nwX nwM nwRq nwTq nw8 nw9 nwRt nwTt nw10 nw11
    refine hK.out _ _ (HS.out _ ⟨H8.out, H9.out⟩) (fun hHeld => ?_)
    clear hK K
    try simp only [Act.put, sA, sB, sC]
    refine wpAnyH_ready (rs := [3]) (by kernel_rfl) (by simp) ?_
    refine (AllReadyH.cons (o := { dst := none, op := Op.store 35 (Operand.tmp 7) (Operand.tmp 36), type := 0, pos := "closure.go:57", after := #[{ on := 1, ground := Ground.data }, { on := 2, ground := Ground.chain }, { on := 0, ground := Ground.phase }, { on := 1, ground := Ground.phase }, { on := 2, ground := Ground.phase }], guard := none }) rfl (fun K hK => ?_) AllReadyH.nil)
    rw [if_pos (by rfl)]
    have k1 := H3.out.1
    have k2 := H3.out.2.1
    have kf := H3.out.2.2.1
    have kg := H3.out.2.2.2
    go_simp
    clear k1 k2 kf kg
    have nw0 := H3.out.cf (.int .i64 2) (.slice dq nq2 eqx) H0.out
    have nw1 := H3.out.mf (.int .i64 2) (.slice dq nq2 eqx) H1.out (by have := HN.out; have := HS1.out; have := HS2.out; have := HS3.out; have := HS4.out; have := HS5.out; have := HS6.out; have := HS7.out; have := HS8.out; have := HS9.out; have := HS10.out; have := HS11.out; have := HS12.out; omega)
    have nw2 := H3.out.cf (.int .i64 2) (.slice dq nq2 eqx) H2.out
    have nw3 := H3.out.put 2 dq nq2 eqx
    have nwX := H3.out.gates (.int .i64 2) (.slice dq nq2 eqx) HX.out
    have nwM := H3.out.cells (.int .i64 2) (.slice dq nq2 eqx) HM.out
    have nwRq := H3.out.gates (.int .i64 2) (.slice dq nq2 eqx) HRq.out
    have nwTq := H3.out.cells (.int .i64 2) (.slice dq nq2 eqx) HTq.out
    have nw8 := H3.out.cf (.int .i64 2) (.slice dq nq2 eqx) H8.out
    have nw9 := H3.out.mf (.int .i64 2) (.slice dq nq2 eqx) H9.out (by have := HN.out; have := HS1.out; have := HS2.out; have := HS3.out; have := HS4.out; have := HS5.out; have := HS6.out; have := HS7.out; have := HS8.out; have := HS9.out; have := HS10.out; have := HS11.out; have := HS12.out; omega)
    have nwRt := H3.out.gates (.int .i64 2) (.slice dq nq2 eqx) HRt.out
    have nwTt := H3.out.cells (.int .i64 2) (.slice dq nq2 eqx) HTt.out
    have nw10 := H3.out.cf (.int .i64 2) (.slice dq nq2 eqx) H10.out
    have nw11 := H3.out.mf (.int .i64 2) (.slice dq nq2 eqx) H11.out (by have := HN.out; have := HS1.out; have := HS2.out; have := HS3.out; have := HS4.out; have := HS5.out; have := HS6.out; have := HS7.out; have := HS8.out; have := HS9.out; have := HS10.out; have := HS11.out; have := HS12.out; omega)
    have nG := MF.grows HG.out (by have := HN.out; have := HS1.out; have := HS2.out; have := HS3.out; have := HS4.out; have := HS5.out; have := HS6.out; have := HS7.out; have := HS8.out; have := HS9.out; have := HS10.out; have := HS11.out; have := HS12.out; omega) (.int .i64 2) (.slice dq nq2 eqx) (b := b3)
    have nS : (World.setCell (World.setCell V7 ⟨b3, 0, none⟩ (.int .i64 2)) ⟨b3, 1, none⟩ (.slice dq nq2 eqx)).heap.size = V7.heap.size := by simp
    unfold laidX at nw0 nw1 nw2 nw3 nwX nwM nwRq nwTq nw8 nw9 nwRt nwTt nw10 nw11 nG
    obtain ⟨V8, hV⟩ : ∃ z, World.setCell (World.setCell V7 ⟨b3, 0, none⟩ (.int .i64 2)) ⟨b3, 1, none⟩ (.slice dq nq2 eqx) = z := ⟨_, rfl⟩
    rw [hV] at nw0 nw1 nw2 nw3 nwX nwM nwRq nwTq nw8 nw9 nwRt nwTt nw10 nw11 nG nS ⊢
    clear hV
    replace H0 := Lib.hid nw0
    replace H1 := Lib.hid nw1
    replace H2 := Lib.hid nw2
    replace H3 := Lib.hid nw3
    replace HX := Lib.hid nwX
    replace HM := Lib.hid nwM
    replace HRq := Lib.hid nwRq
    replace HTq := Lib.hid nwTq
    replace H8 := Lib.hid nw8
    replace H9 := Lib.hid nw9
    replace HRt := Lib.hid nwRt
    replace HTt := Lib.hid nwTt
    replace H10 := Lib.hid nw10
    replace H11 := Lib.hid nw11
    replace HG := Lib.hid nG
    have HS13 := Lib.hid nS
    clear nG nS nw0 nw1 nw2 nw3 nwX nwM nwRq nwTq nw8 nw9 nwRt nwTt nw10 nw11
    refine hK.out _ _ (HS.out _ ⟨H8.out, H9.out⟩) (fun hHeld => ?_)
    clear hK K
    try simp only [Act.put, sA, sB, sC]
    refine wpAnyH_done (by kernel_rfl) ?_ _
    have hEND := hdr
    clear hHeld
    go_wp2_with fail
    refine bodyPost_ret (resU60 _ _ b2 b3 aq nq cq _ _ rfl rfl H2.out.1 H3.out.1 H3.out.2.1) rfl ?_
    rw [HSE.out]
    exact ⟨aq, cq, dq, nq2, eqx, by rw [HNL.out.1], HNq.out, HRq.out, HTq.out, HG.out⟩
end Go.Proofs.YthdhmflodiincaaGreat

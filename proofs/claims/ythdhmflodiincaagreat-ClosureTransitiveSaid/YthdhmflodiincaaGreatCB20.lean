/- Texts of the proof: UG UH0 UK. -/
import Derived.Test.YthdhmflodiincaaGreatCB16
import Derived.Test.YthdhmflodiincaaGreatCB12
import Derived.Test.YthdhmflodiincaaGreatCB14
import Derived.Deep.DeepCutAuto
import Derived.Test.YthdhmflodiincaaGreatCB19
import Derived.Test.YthdhmflodiincaaGreatCB13
import Derived.Test.YthdhmflodiincaaGreatCB05
set_option maxRecDepth 100000
set_option maxHeartbeats 8000000
namespace Go.Proofs.YthdhmflodiincaaGreat
open Go.RowKit Go.Maps

theorem ginput_calls (gs : List Gt) (v : Nat) (p : Nat) (M : Nat → Prop) (w : World) (hi : Int) (h : GX p M w gs hi) (hG : Good gs) (hl : gs.length ≤ 990) (h1 : 1 ≤ v) (h2 : v ≤ 20000) :
    Calls Tryz.prog 98 #[.pointer (some ⟨p, 0, none⟩), .int .i64 (v : Int)] w fun e w' => e = .returned (.int .i64 (inputC gs (v : Int)).2) ∧ PX p M w (inputC gs (v : Int)).1 (hi + (gs.length : Int)) w' := by
  have HWG := Lib.hid (good_wf hG (by omega))
  obtain ⟨o, va, vc, mb, vis, g1, g2, g3⟩ := h
  have HE := Lib.hid (show inputC gs (v : Int) = addG gs (1, (v : Int), 0) from by unfold inputC; rw [if_neg (by omega)])
  have HR := Lib.hid (greference_calls gs (1, (v : Int), 0) 0 p o va vc mb vis w M g1 hl g2.1 ⟨(show (Lit.int .i64 1).wf = true by decide), wfG64 (show 0 ≤ (v : Int) by omega) (show (v : Int) ≤ 1000000 by omega), (show (Lit.int .i64 0).wf = true by decide)⟩ HWG.out hG.one (fun i _ => Nat.zero_le _) g3)
  have HG2 := Lib.hid g2
  have f1 : decide (v < 1) = false := decide_eq_false (by omega)
  have f2 : decide ((v : Int) < 1) = false := decide_eq_false (by omega)
  have f3 : decide (20000 < v) = false := decide_eq_false (by omega)
  have f4 : decide ((20000 : Int) < (v : Int)) = false := decide_eq_false (by omega)
  clear g1 g2 g3 hG hl h1 h2
  go_enter Tryz.func98, Tryz.ntmps98
  go_wp2_with fail
  refine HR.out.mono ?_
  rintro e w2 ⟨o', va', vc', mb', vis', rfl, hr1, hr2, hr3, hr4⟩
  have H1 := Lib.hid hr1
  have H2 := Lib.hid hr2
  have H3 := Lib.hid hr3
  have H4 := Lib.hid hr4
  clear hr1 hr2 hr3 hr4
  go_wp2_with fail
  go_ret
  exact ⟨by rw [HE.out]; rfl, by rw [HE.out]; exact ⟨⟨o', va', vc', mb', vis', H1.out, by have := HG2.out; have := H2.out; omega, H4.out⟩, H3.out⟩⟩
theorem boxes2 (w : World) (xa : Option Addr) (ng xc : Nat) :
    ∃ W b0 b1, (w.alloc (.cells #[.slice xa ng xc] 27)).alloc (.cells #[.slice none 0 0] 27) = W ∧ w.grownBy W none ∧ W.heap.size = w.heap.size + 2 ∧ (w.heap.size = b0 ∧ w.heap.size + 1 = b1) ∧ CF W b0 xa ng xc ∧ CF W b1 none 0 0 :=
  ⟨_, _, _, rfl, (World.grownBy_alloc w _ none).trans (World.grownBy_alloc _ _ none), by simp, ⟨rfl, rfl⟩, ⟨by go_simp, by go_simp⟩, ⟨by go_simp, by go_simp⟩⟩
theorem resU108 (tmps : Array Value) (w : World) (b : Nat) (a : Option Addr) (n d : Nat) (x : Value) (ht : tmps.getD 6 undef = .pointer (some ⟨b, 0, none⟩)) (hu : tmps.getD 7 undef = x) (h0 : w.cell? ⟨b, 0, none⟩ = some (.slice a n d)) :
    (results Tryz.f74 tmps).run Tryz.prog w = .ok (.tuple #[.agg #[.slice a n d], x]) w := by
  have ht' : tmps[6]?.getD undef = .pointer (some ⟨b, 0, none⟩) := by simpa using ht
  have hu' : tmps[7]?.getD undef = x := by simpa using hu
  simp [results, ht', hu', go_sem, h0, Result.andThen]
theorem cand_calls (w : World) (gs g : List Gt) (x y : Int) (r : Int) (xa : Option Addr) (xc ng : Nat) (hng : gs.length = ng) (h : GatesW w xa xc gs) (hG : Good gs) (hl : ng ≤ 990) (e : andC gs x y = (g, r)) :
    Calls Tryz.prog 74 #[.agg #[.slice xa ng xc], .int .i64 x, .int .i64 y] w (Ans w g r) := by
  have HF := Lib.hid (fun (U : World) (hU : GatesW U xa xc gs) => from_calls gs xa xc U hU)
  rw [hng] at HF
  have HCC := Lib.hid (fun (p : Nat) (V : World) (hV : GX p (fun k => k = p) V gs 0) => gand_c gs x y p g r e hG (by omega) (fun k => k = p) V 0 hV)
  have HGL := Lib.hid (show g.length ≤ 1000 from by have h1 := @and_len gs x y; rw [e] at h1; have h2 : g.length ≤ gs.length + 1 := h1; omega)
  obtain ⟨W, b0, b1, hW, hg, hsz, ⟨hb0, hb1⟩, k0, k1⟩ := boxes2 w xa ng xc
  have HG := Lib.hid hg
  have H0 := Lib.hid k0
  have H1 := Lib.hid k1
  have HN := Lib.hid (show w.heap.size ≤ b0 ∧ b0 < b1 ∧ b1 < W.heap.size from by omega)
  have HX := Lib.hid (h.grown hg)
  have HB := Lib.hid (And.intro hb1 hb0)
  clear hg k0 k1 hsz h hb0 hb1 hng hG hl e
  go_enter Tryz.func74, Tryz.ntmps74
  go_upto_region 1 with fail
  rw [HB.out.1, HB.out.2]
  clear hW HB
  have q0 := H0.out.1
  go_wp2_with fail
  clear q0
  refine (HF.out W HX.out).mono ?_
  rintro e V ⟨p, rfl, hp, hgr, gw⟩
  have HGX := Lib.hid (GX.of hgr)
  have HP := Lib.hid (And.intro hp gw)
  clear hgr hp gw
  go_wp2_with fail
  refine (HCC.out p V HGX.out).mono ?_
  rintro e U ⟨rfl, hi', hgx2, hof⟩
  have HGU := Lib.hid (show W.grownBy U none from hof.grown HP.out.2 (fun k e => by have e' : k = p := e; have := HP.out.1; omega))
  have HGX2 := Lib.hid hgx2
  clear hgx2 hof
  go_wp2_with fail
  refine (gcircuit_calls g p _ U W hi' HGX2.out HGU.out HGL.out HP.out.1).mono ?_
  rintro e Z ⟨ca, cc, rfl, hsp, gw⟩
  have hr := hsp.here
  clear hsp
  replace H0 := Lib.hid (H0.out.grown gw)
  replace H1 := Lib.hid (H1.out.grown gw)
  replace HG := Lib.hid (World.grownBy.trans HG.out gw)
  have HS1 := Lib.hid (World.grownBy.size gw)
  clear gw
  have HR := Lib.hid hr
  clear hr
  have q1 := H1.out.1
  have f1 := H1.out.2
  go_wp2_with fail
  clear q1 f1
  have nw0 := H1.out.cf (.slice ca g.length cc) H0.out (by have := HN.out; have := HS1.out; omega)
  have nw1 := H1.out.put ca g.length cc
  have nwR := H1.out.gates (.slice ca g.length cc) HR.out
  have nG := CF.grows HG.out (by have := HN.out; have := HS1.out; omega) (.slice ca g.length cc) (b := b1)
  have nS : (World.setCell Z ⟨b1, 0, none⟩ (.slice ca g.length cc)).heap.size = Z.heap.size := by simp
  obtain ⟨V1, hV⟩ : ∃ z, World.setCell Z ⟨b1, 0, none⟩ (.slice ca g.length cc) = z := ⟨_, rfl⟩
  rw [hV] at nw0 nw1 nwR nG nS ⊢
  clear hV
  replace H0 := Lib.hid nw0
  replace H1 := Lib.hid nw1
  replace HR := Lib.hid nwR
  replace HG := Lib.hid nG
  have HS2 := Lib.hid nS
  clear nG nS nw0 nw1 nwR
  exact bodyPost_ret (resU108 _ _ b1 ca g.length cc _ rfl rfl H1.out.1) rfl ⟨ca, cc, rfl, HR.out, HG.out⟩
theorem resU104 (tmps : Array Value) (w : World) (b : Nat) (a : Option Addr) (n d : Nat) (x : Value) (ht : tmps.getD 4 undef = .pointer (some ⟨b, 0, none⟩)) (hu : tmps.getD 5 undef = x) (h0 : w.cell? ⟨b, 0, none⟩ = some (.slice a n d)) :
    (results Tryz.f73 tmps).run Tryz.prog w = .ok (.tuple #[.agg #[.slice a n d], x]) w := by
  have ht' : tmps[4]?.getD undef = .pointer (some ⟨b, 0, none⟩) := by simpa using ht
  have hu' : tmps[5]?.getD undef = x := by simpa using hu
  simp [results, ht', hu', go_sem, h0, Result.andThen]
theorem cinput_calls (w : World) (gs g : List Gt) (v : Nat) (r : Int) (xa : Option Addr) (xc ng : Nat) (hng : gs.length = ng) (h : GatesW w xa xc gs) (hG : Good gs) (hl : ng ≤ 990) (h1 : 1 ≤ v) (h2 : v ≤ 20000) (e : inputC gs (v : Int) = (g, r)) :
    Calls Tryz.prog 73 #[.agg #[.slice xa ng xc], .int .i64 (v : Int)] w (Ans w g r) := by
  have HF := Lib.hid (fun (U : World) (hU : GatesW U xa xc gs) => from_calls gs xa xc U hU)
  rw [hng] at HF
  have HCC := Lib.hid (fun (p : Nat) (V : World) (hV : GX p (fun k => k = p) V gs 0) => show Calls Tryz.prog 98 #[.pointer (some ⟨p, 0, none⟩), .int .i64 (v : Int)] V fun e w' => e = .returned (.int .i64 r) ∧ ∃ hi', GX p (fun k => k = p ∨ V.heap.size ≤ k) w' g hi' ∧ Off (fun k => k = p) V w' from by
    have h9 := ginput_calls gs v p (fun k => k = p) V 0 hV hG (by omega) h1 h2
    rw [e] at h9
    exact h9.mono (fun e w' hh => ⟨hh.1, _, hh.2.1, hh.2.2⟩))
  have HGL := Lib.hid (show g.length ≤ 1000 from by have h9 := @input_len gs (v : Int); rw [e] at h9; have h8 : g.length ≤ gs.length + 1 := h9; omega)
  obtain ⟨W, b0, b1, hW, hg, hsz, ⟨hb0, hb1⟩, k0, k1⟩ := boxes2 w xa ng xc
  have HG := Lib.hid hg
  have H0 := Lib.hid k0
  have H1 := Lib.hid k1
  have HN := Lib.hid (show w.heap.size ≤ b0 ∧ b0 < b1 ∧ b1 < W.heap.size from by omega)
  have HX := Lib.hid (h.grown hg)
  have HB := Lib.hid (And.intro hb1 hb0)
  clear hg k0 k1 hsz h hb0 hb1 hng hG hl e h1 h2
  go_enter Tryz.func73, Tryz.ntmps73
  go_upto_region 1 with fail
  rw [HB.out.1, HB.out.2]
  clear hW HB
  have q0 := H0.out.1
  go_wp2_with fail
  clear q0
  refine (HF.out W HX.out).mono ?_
  rintro e V ⟨p, rfl, hp, hgr, gw⟩
  have HGX := Lib.hid (GX.of hgr)
  have HP := Lib.hid (And.intro hp gw)
  clear hgr hp gw
  go_wp2_with fail
  refine (HCC.out p V HGX.out).mono ?_
  rintro e U ⟨rfl, hi', hgx2, hof⟩
  have HGU := Lib.hid (show W.grownBy U none from hof.grown HP.out.2 (fun k e => by have e' : k = p := e; have := HP.out.1; omega))
  have HGX2 := Lib.hid hgx2
  clear hgx2 hof
  go_wp2_with fail
  refine (gcircuit_calls g p _ U W hi' HGX2.out HGU.out HGL.out HP.out.1).mono ?_
  rintro e Z ⟨ca, cc, rfl, hsp, gw⟩
  have hr := hsp.here
  clear hsp
  replace H0 := Lib.hid (H0.out.grown gw)
  replace H1 := Lib.hid (H1.out.grown gw)
  replace HG := Lib.hid (World.grownBy.trans HG.out gw)
  have HS1 := Lib.hid (World.grownBy.size gw)
  clear gw
  have HR := Lib.hid hr
  clear hr
  have q1 := H1.out.1
  have f1 := H1.out.2
  go_wp2_with fail
  clear q1 f1
  have nw0 := H1.out.cf (.slice ca g.length cc) H0.out (by have := HN.out; have := HS1.out; omega)
  have nw1 := H1.out.put ca g.length cc
  have nwR := H1.out.gates (.slice ca g.length cc) HR.out
  have nG := CF.grows HG.out (by have := HN.out; have := HS1.out; omega) (.slice ca g.length cc) (b := b1)
  have nS : (World.setCell Z ⟨b1, 0, none⟩ (.slice ca g.length cc)).heap.size = Z.heap.size := by simp
  obtain ⟨V1, hV⟩ : ∃ z, World.setCell Z ⟨b1, 0, none⟩ (.slice ca g.length cc) = z := ⟨_, rfl⟩
  rw [hV] at nw0 nw1 nwR nG nS ⊢
  clear hV
  replace H0 := Lib.hid nw0
  replace H1 := Lib.hid nw1
  replace HR := Lib.hid nwR
  replace HG := Lib.hid nG
  have HS2 := Lib.hid nS
  clear nG nS nw0 nw1 nwR
  exact bodyPost_ret (resU104 _ _ b1 ca g.length cc _ rfl rfl H1.out.1) rfl ⟨ca, cc, rfl, HR.out, HG.out⟩
end Go.Proofs.YthdhmflodiincaaGreat

namespace Go.Proofs.YthdhmflodiincaaGreat
open Go.RowKit Go.Maps

section
variable {w w' : World} {b p k : Nat} {T : Int → Bool} {t : Int → Int} {a : Option Addr} {n c : Nat} {ar : Int} {g : List Gt} {m : List Cl}
theorem MapT.ne (h : MapT w b k T t) {A : Addr} {v : Value} (hA : w.cell? A = some v) (hs : A.spot = none) : A.block ≠ b := fun e => by
  obtain ⟨x, o, s⟩ := A
  simp only at hs e
  subst hs; subst e
  exact h.not_cells hA
theorem MapT.cell (h : MapT w b k T t) (hg : w.grownBy w' (some b)) {x o : Nat} {v : Value} (hA : w.cell? ⟨x, o, none⟩ = some v) : w'.cell? ⟨x, o, none⟩ = some v :=
  hg.cell hA (fun e => h.ne hA rfl (by injection e))
theorem MapT.fr (h : MapT w b k T t) (hg : w.grownBy w' (some b)) {x o o' : Nat} {v : Value} (hA : w.cell? ⟨x, o, none⟩ = some v) : w'.frozen? ⟨x, o', none⟩ = w.frozen? ⟨x, o', none⟩ :=
  World.frozen?_of_block (a := ⟨x, o', none⟩) (hg.block x (lies_lt hA) (fun e => h.ne hA rfl (by injection e)))
theorem MapT.cf (h : MapT w b k T t) (hg : w.grownBy w' (some b)) (h' : CF w p a n c) : CF w' p a n c := ⟨h.cell hg h'.1, (h.fr hg h'.1).trans h'.2⟩
theorem MapT.mf (h : MapT w b k T t) (hg : w.grownBy w' (some b)) (h' : MF w p ar a n c) : MF w' p ar a n c := ⟨h.cell hg h'.1, h.cell hg h'.2.1, (h.fr hg h'.1).trans h'.2.2.1, (h.fr hg h'.1).trans h'.2.2.2⟩
theorem MapT.cells (h : MapT w b k T t) (hg : w.grownBy w' (some b)) (h' : CellsW w a c m) : CellsW w' a c m := by
  obtain ⟨hc, h' | ⟨x, o, ha, hh⟩⟩ := h'
  · exact ⟨hc, .inl h'⟩
  · exact ⟨hc, .inr ⟨x, o, ha, fun j z hj => ⟨h.cell hg (hh j z hj).1, h.cell hg (hh j z hj).2⟩⟩⟩
theorem MapT.gates (h : MapT w b k T t) (hg : w.grownBy w' (some b)) (h' : GatesW w a c g) : GatesW w' a c g := by
  obtain ⟨hc, h' | ⟨x, o, ha, ht, hh⟩⟩ := h'
  · exact ⟨hc, .inl h'⟩
  · cases g with
    | nil => exact ⟨hc, .inl rfl⟩
    | cons z l =>
      have h0 := (hh 0 z rfl).1
      exact ⟨hc, .inr ⟨x, o, ha, ht.grown hg (fun e => h.ne h0 rfl (by injection e)), fun j z hj => ⟨h.cell hg (hh j z hj).1, h.cell hg (hh j z hj).2.1, h.cell hg (hh j z hj).2.2⟩⟩⟩
theorem MapT.grown (h : MapT w b k T t) (hg : w.grownBy w' none) : MapT w' b k T t := h.kept hg (by simp)
theorem MapT.setc {v : Value} (h : MapT w b k T t) (h' : CF w p a n c) : MapT (w.setCell ⟨p, 0, none⟩ v) b k T t := h.kept (grown_set w p 0 v) (fun e => h.ne h'.1 rfl (by injection e with e; exact e.symm))
theorem MapT.setm {u v : Value} (h : MapT w b k T t) (h' : MF w p ar a n c) : MapT (laidX w p u v) b k T t :=
  (h.kept (grown_set w p 0 u) (fun e => h.ne h'.1 rfl (by injection e with e; exact e.symm))).kept (grown_set _ p 1 v) (fun e => h.ne h'.1 rfl (by injection e with e; exact e.symm))
end
def tabB (l : List Cl) : Int → Bool := l.foldl (fun T c => fun j => j == c.1 || T j) fun _ => false
def tabV (l : List Cl) : Int → Int := l.foldl (fun t c => fun j => if j = c.1 then c.2 else t j) fun _ => 1
theorem tabB_snoc (l : List Cl) (c : Cl) : tabB (l ++ [c]) = fun j => j == c.1 || tabB l j := by unfold tabB; rw [List.foldl_append]; rfl
theorem tabV_snoc (l : List Cl) (c : Cl) : tabV (l ++ [c]) = fun j => if j = c.1 then c.2 else tabV l j := by unfold tabV; rw [List.foldl_append]; rfl
theorem snoc_ind {P : List Cl → Prop} (h0 : P []) (h1 : ∀ l c, P l → P (l ++ [c])) (l : List Cl) : P l := by
  have h : ∀ l : List Cl, P l.reverse := fun l => by
    induction l with
    | nil => exact h0
    | cons c l ih => rw [List.reverse_cons]; exact h1 _ _ ih
  have := h l.reverse
  rwa [List.reverse_reverse] at this
theorem tabB_in (l : List Cl) (k : Int) : tabB l k = inM l k := by
  refine snoc_ind (P := fun l => tabB l k = inM l k) rfl (fun l c ih => ?_) l
  · rw [tabB_snoc]
    simp only [ih]
    unfold inM
    rw [List.any_append]
    simp only [List.any_cons, List.any_nil, Bool.or_false]
    rw [Bool.or_comm]
    congr 1
    rw [Bool.eq_iff_iff]
    simp only [beq_iff_eq]
    exact eq_comm
theorem tabV_at (l : List Cl) (h : UpM l) (k : Int) : tabV l k = atM l k := by
  refine snoc_ind (P := fun l => UpM l → tabV l k = atM l k) (fun _ => rfl) (fun l c ih h => ?_) l h
  · have hl : UpM l := by unfold UpM at h ⊢; rw [List.map_append, List.pairwise_append] at h; exact h.1
    have hx : ∀ d ∈ l, d.1 < c.1 := fun d hd => by
      unfold UpM at h
      rw [List.map_append, List.pairwise_append] at h
      exact h.2.2 d.1 (List.mem_map_of_mem hd) c.1 (by simp)
    rw [tabV_snoc]
    by_cases e : k = c.1
    · subst e
      simp only [if_true]
      obtain ⟨c1, c2⟩ := c
      exact (atM_snoc_new (fun d hd e => by have := hx d hd; simp only at this; omega)).symm
    · simp only [if_neg e]
      rw [ih hl]
      exact (atM_snoc_old (fun e2 => e e2.symm)).symm
def acF (n : Nat) (l : List Cl) (r : Int) (x : Nat) : Pr Int := andP r (notR (atM l ((x : Int) * n + x)))
def acP (n : Nat) (l : List Cl) : Pr Int := foldP (acF n l) (List.range n) 0
theorem run_acF (n : Nat) (l : List Cl) (x : Nat) (gs : List Gt) : (foldP (acF n l) (List.range (x + 1)) 0).run gs = andC ((foldP (acF n l) (List.range x) 0).run gs).1 ((foldP (acF n l) (List.range x) 0).run gs).2 (notR (atM l ((x : Int) * n + x))) := by
  rw [List.range_succ, run_foldP_append, run_foldP_cons, run_foldP_nil]
  rfl
def acR (n : Nat) (gs : List Gt) (a : List Cl) : List Gt × Int := (acP n (smP n gs a).2).run (smP n gs a).1
theorem smP_ok {n : Nat} {gs : List Gt} {a : List Cl} (hG : Good gs) (ha : Sq n gs a) (hn1 : 1 ≤ n) (hn : n ≤ 4) (hl : gs.length ≤ 1000) :
    Good (smP n gs a).1 ∧ gs <+: (smP n gs a).1 ∧ (smP n gs a).1.length ≤ gs.length + roundC n * 2 ∧ Sq n (smP n gs a).1 (smP n gs a).2 ∧ ∀ v x y, x < n → y < n → (relM (smP n gs a).1 v n (smP n gs a).2 x y ↔ Way (relM gs v n a) n n x y) := by
  obtain ⟨q1, q2, q3, q4, q5⟩ := stQ_ok hG ha hn hl (sqR n) (Nat.le_trans (sqR_le n) (by decide))
  obtain ⟨s1, s2, s3, s4, s5⟩ := stS_ok hG ha hn hl (n - 1) (by omega)
  have hq : roundC n * sqR n ≤ roundC n * 2 := Nat.mul_le_mul_left _ (sqR_le n)
  unfold smP
  split
  · rename_i hlt
    exact ⟨s1, s2, by omega, s4, fun v x y hx hy => by rw [s5 v x y hx hy, Nat.sub_add_cancel hn1]⟩
  · exact ⟨q1, q2, by omega, q4, fun v x y hx hy => by
      rw [q5 v x y hx hy]
      exact ⟨fun h => h.short, fun h => h.wide (sqR_way n hn)⟩⟩
theorem boxes3 (w : World) (xa : Option Addr) (ng xc : Nat) (ar : Int) (ma : Option Addr) (nm mc : Nat) :
    ∃ W b0 b1 b2, ((w.alloc (.cells #[.slice xa ng xc] 27)).alloc (.cells #[.int .i64 ar, .slice ma nm mc] 35)).alloc (.cells #[.slice none 0 0] 27) = W ∧ w.grownBy W none ∧ W.heap.size = w.heap.size + 3 ∧ (w.heap.size = b0 ∧ w.heap.size + 1 = b1 ∧ w.heap.size + 1 + 1 = b2) ∧
      CF W b0 xa ng xc ∧ MF W b1 ar ma nm mc ∧ CF W b2 none 0 0 :=
  ⟨_, _, _, _, rfl, ((World.grownBy_alloc w _ none).trans (World.grownBy_alloc _ _ none)).trans (World.grownBy_alloc _ _ none), by simp, ⟨rfl, rfl, rfl⟩,
    ⟨by go_simp, by go_simp⟩, ⟨by go_simp, by go_simp, by go_simp, by go_simp⟩, ⟨by go_simp, by go_simp⟩⟩
end Go.Proofs.YthdhmflodiincaaGreat

namespace Go.Proofs.YthdhmflodiincaaGreat
open Go.RowKit Go.Maps

theorem values15_calls (x : Nat) (hx : x < 256) (w : World) :
    Calls Tryz.prog 34 #[.int .u8 (x : Int)] w fun e w' => ∃ b d, e = .returned (.slice b 8 d) ∧ BoolsW w' b d (valsL x) ∧ w.grownBy w' none := by
  obtain ⟨i0, hi0, hz0, hz1, hz2⟩ := info_parts info4
  obtain ⟨BZ, hBZ⟩ : ∃ z, w.heap.size = z := ⟨_, rfl⟩
  have HBZ := Lib.hid hBZ
  clear hBZ
  go_enter Tryz.func34, Tryz.ntmps34
  go_wp2_with fail
  go_loopg [0, 3, 4] 8 (fun gk s0 s3 s4 wr => ∃ (k b : Nat) (xa : Option Addr) (xc : Nat), s0 = .int .u8 (b : Int) ∧ s3 = .slice xa k xc ∧ s4 = .int .i64 (k : Int) ∧ gk = 8 - k ∧ k ≤ 8 ∧ b = x / 2 ^ k ∧ wr.ownsRow BZ 4 1 (.slice xa k xc) k (boolCells ((valsL x).take k)) ∧ w.grownBy wr none ∧ BZ ≤ wr.heap.size)
  case atStart => exact ⟨0, x, _, _, rfl, rfl, rfl, rfl, Nat.zero_le _, by simp, World.ownsRow_nil _ _ _ _, grown_refl _ _, by rw [HBZ.out]; exact Nat.le_refl _⟩
  case round =>
    obtain ⟨k, b, xa, xc, rfl, rfl, rfl, hgk, hk, hb, hown, hgr, hbz⟩ := hrel
    have HI := Lib.hid (And.intro hgk (And.intro hb (And.intro hgr hbz)))
    have HO := Lib.hid hown
    have hb2 : b < 256 := by rw [hb]; exact Nat.lt_of_le_of_lt (Nat.div_le_self _ _) hx
    clear hgk hb hown hgr hbz
    by_cases hkn : k < 8
    · have f1 : decide (k < 8) = true := decide_eq_true hkn
      have f2 : decide ((k : Int) < 8) = true := decide_eq_true (by omega)
      have hk1 : IntKind.i64.wrap ((k : Int) + 1) = ((k + 1 : Nat) : Int) := by rw [IntWalk.i64_in _ (by omega)]; omega
      obtain ⟨r, hr⟩ : ∃ z, b % 2 = z := ⟨_, rfl⟩
      obtain ⟨q, hq⟩ : ∃ z, b / 2 = z := ⟨_, rfl⟩
      have hr2 : r < 2 := by omega
      have hm : (b : Int).tmod 2 = (r : Int) := by rw [Int.tmod_eq_emod_of_nonneg (by omega)]; omega
      have hd : (b : Int) / 2 = (q : Int) := by omega
      have hd2 : (b : Int).tdiv 2 = (q : Int) := by rw [Int.tdiv_eq_ediv_of_nonneg (by omega)]; exact hd
      have HSN := Lib.hid (valsL_snoc x hkn)
      rw [← HI.out.2.1, hr] at HSN
      obtain ⟨Lk, hLk⟩ : ∃ L, (valsL x).take k = L := ⟨_, rfl⟩
      rw [hLk] at HO HSN
      have hv2 : ((r : Int) == 1) = decide (r = 1) := by rcases (show r = 0 ∨ r = 1 by omega) with e | e <;> rw [e] <;> rfl
      have hv3 : (r == 1) = decide (r = 1) := by rcases (show r = 0 ∨ r = 1 by omega) with e | e <;> rw [e] <;> rfl
      obtain ⟨v, hv⟩ : ∃ z, decide (r = 1) = z := ⟨_, rfl⟩
      rw [hv] at HSN hv2 hv3
      have HBN := Lib.hid (show q = x / 2 ^ (k + 1) from by rw [← hq, HI.out.2.1, Nat.div_div_eq_div_mul, ← Nat.pow_succ])
      clear hq hr hv
      have HSZ := Lib.hid HI.out.2.2.2
      go_wp2_with (at_builtin; refine wpList_append_own_at _ rfl _ _ 37 rfl BZ 4 i0 (.bool false) 1 1 Tryz.underlying37 hi0 hz0 hz1 hz2 rfl (by decide) _ k (boolCells Lk) rfl (HO.out.alloc _) ⟨wr.heap.size, 0, none⟩ 1 1 [.bool v] rfl rfl (cell_one_new _ _ _) (fun u hu => by simp at hu; subst hu; rfl) (by unfold maxLen; omega) (by omega) (by have := HSZ.out; simp; omega) ?_)
      intro v' w6 hown' hgrow6 _ hat6
      obtain ⟨rgA, rcA, rfl⟩ := own_shape hown'
      have hga := World.grownBy_alloc wr (.cells #[.bool v] 4) none
      have HN := Lib.hid (show w6.ownsRow BZ 4 1 (.slice rgA (k + 1) rcA) (k + 1) (boolCells ((valsL x).take (k + 1))) ∧ w.grownBy w6 none ∧ BZ ≤ w6.heap.size from ⟨by rw [HSN.out, boolCells, List.map_append]; exact hown', grown_own (World.grownBy.trans HI.out.2.2.1 hga) hgrow6 (fun y e => by have h1 := (HO.out.lt y e).1; have h2 := HBZ.out; omega), Nat.le_trans HSZ.out (Nat.le_trans hga.size hgrow6.size)⟩)
      clear hown' hgrow6 hat6 hga
      go_wp2_with fail
      go_roundg (8 - (k + 1))
      case measure => rw [HI.out.1]; omega
      case rel => exact ⟨k + 1, q, rgA, rcA, rfl, rfl, rfl, rfl, by omega, HBN.out, HN.out.1, HN.out.2.1, HN.out.2.2⟩
    · have f1 : decide (k < 8) = false := decide_eq_false hkn
      have f2 : decide ((k : Int) < 8) = false := decide_eq_false (by omega)
      have hk8 : k = 8 := by omega
      have HROW := Lib.hid (show ∃ d, (Value.slice xa k xc) = .slice xa 8 d ∧ d = xc ∧ BoolsW wr xa xc (valsL x) from by
        have h := HO.out
        rw [List.take_of_length_le (by rw [valsL_len]; omega)] at h
        have e8 : k = (valsL x).length := by rw [valsL_len]; exact hk8
        rw [e8] at h
        obtain ⟨a9, c9, e9, hs9⟩ := bools_span h
        cases e9
        exact ⟨xc, by rw [hk8], rfl, hs9.here⟩)
      clear hkn
      go_wp2_with fail
      go_ret
      obtain ⟨d, e1, rfl, h3⟩ := HROW.out
      exact ⟨xa, d, (by rw [e1]; rfl), h3, HI.out.2.2.1⟩
theorem boxesB (w : World) :
    ∃ W b0 b1, (w.alloc (.cells #[.slice none 0 0] 27)).alloc (.cells #[.int .i64 0, .slice none 0 0] 35) = W ∧ w.grownBy W none ∧ W.heap.size = w.heap.size + 2 ∧ (w.heap.size = b0 ∧ w.heap.size + 1 = b1) ∧ CF W b0 none 0 0 ∧ MF W b1 0 none 0 0 :=
  ⟨_, _, _, rfl, (World.grownBy_alloc w _ none).trans (World.grownBy_alloc _ _ none), by simp, ⟨rfl, rfl⟩, ⟨by go_simp, by go_simp⟩, ⟨by go_simp, by go_simp, by go_simp, by go_simp⟩⟩
theorem resU55 (tmps : Array Value) (w : World) (b c : Nat) (a : Option Addr) (n d : Nat) (x y z : Value) (ht : tmps.getD 6 undef = .pointer (some ⟨b, 0, none⟩)) (hz : tmps.getD 7 undef = z) (hu : tmps.getD 8 undef = .pointer (some ⟨c, 0, none⟩)) (h0 : w.cell? ⟨b, 0, none⟩ = some (.slice a n d)) (h1 : w.cell? ⟨c, 0, none⟩ = some x) (h2 : w.cell? ⟨c, 1, none⟩ = some y) :
    (results Tryz.f33 tmps).run Tryz.prog w = .ok (.tuple #[.agg #[.slice a n d], z, .agg #[x, y]]) w := by
  have ht' : tmps[6]?.getD undef = .pointer (some ⟨b, 0, none⟩) := by simpa using ht
  have hz' : tmps[7]?.getD undef = z := by simpa using hz
  have hu' : tmps[8]?.getD undef = .pointer (some ⟨c, 0, none⟩) := by simpa using hu
  simp [results, ht', hu', hz', go_sem, h0, h1, h2, Result.andThen]
theorem made15_calls (s n : Nat) (l : List Stp) (X : List Nat) (g : List Gt) (refs : List Int) (M : List Cl) (nl nx ng : Nat) (sa xa : Option Addr) (sc xc : Nat) (w : World) (hs : s < 256) (hn : s % 4 + 1 = n) (hnl : l.length = nl) (hnx : X.length = nx) (hng : g.length = ng) (hl20 : nl ≤ 20)
    (hl : StpsW w sa sc l) (ho : ∀ s ∈ l, StpOk s) (hx : U8W w xa xc X) (hxb : ∀ z ∈ X, z < 256) (hxm : X.length ≤ 9223372036854775807) (e : buildC l = (g, refs)) (eM : madeC refs X (min (n ^ 2) nx) = M) :
    Calls Tryz.prog 33 #[.int .u8 (s : Int), .slice sa nl sc, .slice xa nx xc] w fun e w' => ∃ a c b m d, e = .returned (.tuple #[.agg #[.slice a ng c], .int .i64 (n : Int), .agg #[.int .i64 2, .slice b m d]]) ∧ M.length = m ∧ GatesW w' a c g ∧ CellsW w' b d M ∧ w.grownBy w' none := by
  have hbu := built l (by omega)
  rw [e] at hbu
  obtain ⟨nr, hnr⟩ : ∃ z, refs.length = z := ⟨_, rfl⟩
  have HBC := Lib.hid (fun (U : World) (hU : w.grownBy U none) => rbuild_calls l sa sc U e (hl.grown hU) (by omega) ho)
  rw [hnl, hng, hnr] at HBC
  have HMC := Lib.hid (fun (U : World) (ra : Option Addr) (rc : Nat) (hR : IntsW U ra rc refs) (hU : w.grownBy U none) => made_calls refs n 2 X ra rc xa xc U hR (hx.grown hU) (by have h1 := hbu.refs; simp only at h1; omega) hxm (fun r hr => by have h1 := hbu.ok r hr; have h2 := hbu.len; simp only at h1 h2; unfold Ok at h1; omega) hxb (by omega) (by omega) (by omega) (by omega))
  rw [hnx, eM, hnr, show ((2 : Nat) : Int) = 2 from rfl] at HMC
  obtain ⟨r, hr⟩ : ∃ z, s % 4 = z := ⟨_, rfl⟩
  have e1 : (s : Int).tmod 4 = (r : Int) := by rw [Int.tmod_eq_emod_of_nonneg (by omega)]; omega
  have b1 : r < 4 := by omega
  have k1 : IntKind.i64.wrap ((r : Int) + 1) = (n : Int) := by rw [IntWalk.i64_in _ (by omega)]; omega
  obtain ⟨W, p0, p1, hW, hg, hsz, ⟨hb0, hb1⟩, k0, k2⟩ := boxesB w
  have HG := Lib.hid hg
  have H0 := Lib.hid k0
  have H1 := Lib.hid k2
  have HN := Lib.hid (show w.heap.size ≤ p0 ∧ p0 < p1 ∧ p1 < W.heap.size from by omega)
  have HB := Lib.hid (And.intro hb1 hb0)
  clear hg k0 k2 hsz hb0 hb1 hbu hn hr hl ho hx hxb hxm e eM hng hnr hnl hnx hl20
  go_enter Tryz.func33, Tryz.ntmps33
  go_upto_region 1 with fail
  rw [HB.out.1, HB.out.2]
  clear hW HB
  go_wp2_with fail
  refine (HBC.out W HG.out).mono ?_
  rintro e V1 ⟨a2, c2, ra, rc, rfl, hr, hrr, gw⟩
  replace H0 := Lib.hid (H0.out.grown gw)
  replace H1 := Lib.hid (H1.out.grown gw)
  replace HG := Lib.hid (World.grownBy.trans HG.out gw)
  have HS1 := Lib.hid (World.grownBy.size gw)
  clear gw
  have HR := Lib.hid hr
  have HRR := Lib.hid hrr
  clear hr hrr HBC
  go_upto_region 2 with fail
  have gw := World.grownBy_alloc V1 (.cells #[.slice a2 ng c2] 27) none
  have hb := CF.new V1 a2 ng c2
  obtain ⟨V2, hV⟩ : ∃ z, World.alloc V1 (.cells #[.slice a2 ng c2] 27) = z := ⟨_, rfl⟩
  have hz : V2.heap.size = V1.heap.size + 1 := by rw [← hV]; simp
  rw [hV] at gw hb ⊢
  clear hV
  obtain ⟨p2, hbb⟩ : ∃ z, V1.heap.size = z := ⟨_, rfl⟩
  rw [hbb] at hb ⊢
  have HS2 := Lib.hid (show V1.heap.size = p2 ∧ V2.heap.size = p2 + 1 from by omega)
  clear hz hbb
  replace H0 := Lib.hid (H0.out.grown gw)
  replace H1 := Lib.hid (H1.out.grown gw)
  replace HR := Lib.hid (HR.out.grown gw)
  replace HRR := Lib.hid (HRR.out.grown gw)
  replace HG := Lib.hid (World.grownBy.trans HG.out gw)
  have HS3 := Lib.hid (World.grownBy.size gw)
  clear gw
  have H2 := Lib.hid hb
  clear hb
  go_upto_region 3 with fail
  clear e1 b1 k1
  obtain ⟨wd, hwd⟩ : ∃ z, V2.drew = z := ⟨_, rfl⟩
  have gw : V2.grownBy wd none := by rw [← hwd]; exact ⟨rfl, rfl, rfl, Nat.le_refl _, fun _ _ _ => rfl⟩
  replace H0 := Lib.hid (H0.out.grown gw)
  replace H1 := Lib.hid (H1.out.grown gw)
  replace HR := Lib.hid (HR.out.grown gw)
  replace HRR := Lib.hid (HRR.out.grown gw)
  replace H2 := Lib.hid (H2.out.grown gw)
  replace HG := Lib.hid (World.grownBy.trans HG.out gw)
  have HS4 := Lib.hid (World.grownBy.size gw)
  clear gw
  have HS := Lib.hid (fun (Wh : World) (hWh : CF Wh p2 a2 ng c2) => (hWh.1 : (fun Wh : World => Wh.cell? ⟨p2, 0, none⟩ = some (.slice a2 ng c2)) Wh))
  have hdr : CF V2.drew p2 a2 ng c2 := by rw [hwd]; exact H2.out
  refine wp_region_held_drew (S := (fun Wh : World => Wh.cell? ⟨p2, 0, none⟩ = some (.slice a2 ng c2))) (by kernel_rfl) (HS.out _ hdr) (fun hHeld => ?_)
  rw [hwd] at hHeld ⊢
  clear hwd
  refine wpAnyH_take (i := 0) (oi := { dst := some 21, op := Op.load 27 (Operand.tmp 9), type := 27, pos := "law.go:36", after := #[], guard := none }) (v := ?_) rfl (by kernel_rfl) (by kernel_rfl) (by kernel_rfl) (fun _ _ _ h => h) (Or.inl ⟨by rfl, ?_⟩) (by assumption) ?_
  rotate_left 1
  · (intro W h; (try dsimp only at h); go_simp <;> with_reducible rfl)
  try simp only [Act.put, sA, sB, sC]
  refine wpAnyH_take (i := 1) (oi := { dst := some 22, op := Op.move (Operand.tmp 11), type := 3, pos := "law.go:36", after := #[{ on := 6, ground := Ground.gcOnly Departure.lateStores }], guard := none }) (v := ?_) rfl (by kernel_rfl) (by kernel_rfl) (by kernel_rfl) (fun _ _ _ h => h) (Or.inl ⟨by rfl, ?_⟩) (by assumption) ?_
  rotate_left 1
  · (intro W h; (try dsimp only at h); go_simp <;> with_reducible rfl)
  try simp only [Act.put, sA, sB, sC]
  refine wpAnyH_take (i := 2) (oi := { dst := some 23, op := Op.move (Operand.tmp 10), type := 28, pos := "law.go:36", after := #[], guard := none }) (v := ?_) rfl (by kernel_rfl) (by kernel_rfl) (by kernel_rfl) (fun _ _ _ h => h) (Or.inl ⟨by rfl, ?_⟩) (by assumption) ?_
  rotate_left 1
  · (intro W h; (try dsimp only at h); go_simp <;> with_reducible rfl)
  try simp only [Act.put, sA, sB, sC]
  refine wpAnyH_take (i := 3) (oi := { dst := some 24, op := Op.move (Operand.tmp 11), type := 3, pos := "law.go:36", after := #[], guard := none }) (v := ?_) rfl (by kernel_rfl) (by kernel_rfl) (by kernel_rfl) (fun _ _ _ h => h) (Or.inl ⟨by rfl, ?_⟩) (by assumption) ?_
  rotate_left 1
  · (intro W h; (try dsimp only at h); go_simp <;> with_reducible rfl)
  try simp only [Act.put, sA, sB, sC]
  refine wpAnyH_take (i := 4) (oi := { dst := some 25, op := Op.move (Operand.tmp 2), type := 23, pos := "law.go:36", after := #[], guard := none }) (v := ?_) rfl (by kernel_rfl) (by kernel_rfl) (by kernel_rfl) (fun _ _ _ h => h) (Or.inl ⟨by rfl, ?_⟩) (by assumption) ?_
  rotate_left 1
  · (intro W h; (try dsimp only at h); go_simp <;> with_reducible rfl)
  try simp only [Act.put, sA, sB, sC]
  refine wpAnyH_ready (rs := [5]) (by kernel_rfl) (by simp) ?_
  refine (AllReadyH.cons (o := { dst := some 26, op := Op.call { callee := Callee.value (Operand.func 10), args := #[Operand.tmp 23, Operand.tmp 24, Operand.const (Value.int IntKind.i64 2), Operand.tmp 25], argTypes := #[28, 3, 3, 23] }, type := 35, pos := "law.go:36", after := #[{ on := 2, ground := Ground.data }, { on := 3, ground := Ground.data }, { on := 4, ground := Ground.data }], guard := none }) rfl (fun K hK => ?_) AllReadyH.nil)
  rw [if_pos (by rfl)]
  go_simp
  go_at_call 10
  refine (HMC.out wd ra rc HRR.out HG.out).mono ?_
  rintro e U ⟨b5, d5, m5, rfl, hm5, hr5, gw⟩
  replace H0 := Lib.hid (H0.out.grown gw)
  replace H1 := Lib.hid (H1.out.grown gw)
  replace HR := Lib.hid (HR.out.grown gw)
  replace HRR := Lib.hid (HRR.out.grown gw)
  replace H2 := Lib.hid (H2.out.grown gw)
  replace HG := Lib.hid (World.grownBy.trans HG.out gw)
  have HS5 := Lib.hid (World.grownBy.size gw)
  clear gw
  have HT := Lib.hid hr5
  have HM5 := Lib.hid hm5
  clear hr5 hm5 HRR
  go_wp2_with fail
  refine hK.out _ _ (HS.out _ H2.out) (fun hHeld => ?_)
  clear hK K
  try simp only [Act.put, sA, sB, sC]
  refine wpAnyH_ready (rs := [6]) (by kernel_rfl) (by simp) ?_
  refine (AllReadyH.cons (o := { dst := none, op := Op.store 27 (Operand.tmp 6) (Operand.tmp 21), type := 0, pos := "law.go:36", after := #[{ on := 0, ground := Ground.data }, { on := 5, ground := Ground.chain }, { on := 0, ground := Ground.phase }, { on := 1, ground := Ground.textOnly Departure.lateStores }, { on := 2, ground := Ground.textOnly Departure.lateStores }, { on := 3, ground := Ground.textOnly Departure.lateStores }, { on := 4, ground := Ground.textOnly Departure.lateStores }, { on := 5, ground := Ground.textOnly Departure.lateStoresUnsure }], guard := none }) rfl (fun K hK => ?_) AllReadyH.nil)
  rw [if_pos (by rfl)]
  have q0 := H0.out.1
  have kf := H0.out.2
  go_simp
  clear q0 kf
  have nw0 := H0.out.put a2 ng c2
  have nw1 := H0.out.mf (.slice a2 ng c2) H1.out
  have nwR := H0.out.gates (.slice a2 ng c2) HR.out
  have nw2 := H0.out.cf (.slice a2 ng c2) H2.out (by have := HN.out; have := HS1.out; have := HS2.out; have := HS3.out; have := HS4.out; have := HS5.out; omega)
  have nwT := H0.out.cells (.slice a2 ng c2) HT.out
  have nG := CF.grows HG.out (by have := HN.out; have := HS1.out; have := HS2.out; have := HS3.out; have := HS4.out; have := HS5.out; omega) (.slice a2 ng c2) (b := p0)
  have nS : (World.setCell U ⟨p0, 0, none⟩ (.slice a2 ng c2)).heap.size = U.heap.size := by simp
  obtain ⟨V3, hV⟩ : ∃ z, World.setCell U ⟨p0, 0, none⟩ (.slice a2 ng c2) = z := ⟨_, rfl⟩
  rw [hV] at nw0 nw1 nwR nw2 nwT nG nS ⊢
  clear hV
  replace H0 := Lib.hid nw0
  replace H1 := Lib.hid nw1
  replace HR := Lib.hid nwR
  replace H2 := Lib.hid nw2
  replace HT := Lib.hid nwT
  replace HG := Lib.hid nG
  have HS6 := Lib.hid nS
  clear nG nS nw0 nw1 nwR nw2 nwT
  refine hK.out _ _ (HS.out _ H2.out) (fun hHeld => ?_)
  clear hK K
  try simp only [Act.put, sA, sB, sC]
  refine wpAnyH_take (i := 7) (oi := { dst := some 7, op := Op.assign (Operand.tmp 22), type := 3, pos := "law.go:36", after := #[{ on := 1, ground := Ground.data }, { on := 6, ground := Ground.chain }, { on := 0, ground := Ground.phase }, { on := 1, ground := Ground.phase }, { on := 2, ground := Ground.textOnly Departure.lateStores }, { on := 3, ground := Ground.textOnly Departure.lateStores }, { on := 4, ground := Ground.textOnly Departure.lateStores }, { on := 5, ground := Ground.textOnly Departure.lateStoresUnsure }, { on := 6, ground := Ground.phase }], guard := none }) (v := ?_) rfl (by kernel_rfl) (by kernel_rfl) (by kernel_rfl) (fun _ _ _ h => h) (Or.inl ⟨by rfl, ?_⟩) (by assumption) ?_
  rotate_left 1
  · (intro W h; (try dsimp only at h); go_simp <;> with_reducible rfl)
  try simp only [Act.put, sA, sB, sC]
  refine wpAnyH_ready (rs := [8]) (by kernel_rfl) (by simp) ?_
  refine (AllReadyH.cons (o := { dst := none, op := Op.store 35 (Operand.tmp 8) (Operand.tmp 26), type := 0, pos := "law.go:36", after := #[{ on := 5, ground := Ground.data }, { on := 7, ground := Ground.chain }, { on := 0, ground := Ground.phase }, { on := 1, ground := Ground.phase }, { on := 2, ground := Ground.phase }, { on := 3, ground := Ground.phase }, { on := 4, ground := Ground.phase }, { on := 5, ground := Ground.phase }, { on := 6, ground := Ground.phase }, { on := 7, ground := Ground.phase }], guard := none }) rfl (fun K hK => ?_) AllReadyH.nil)
  rw [if_pos (by rfl)]
  have q0 := H1.out.1
  have q1 := H1.out.2.1
  have q2 := H1.out.2.2.1
  have q3 := H1.out.2.2.2
  go_simp
  clear q0 q1 q2 q3
  have nw0 := H1.out.cf (.int .i64 2) (.slice b5 m5 d5) H0.out
  have nw1 := H1.out.put 2 b5 m5 d5
  have nwR := H1.out.gates (.int .i64 2) (.slice b5 m5 d5) HR.out
  have nw2 := H1.out.cf (.int .i64 2) (.slice b5 m5 d5) H2.out
  have nwT := H1.out.cells (.int .i64 2) (.slice b5 m5 d5) HT.out
  have nG := MF.grows HG.out (by have := HN.out; have := HS1.out; have := HS2.out; have := HS3.out; have := HS4.out; have := HS5.out; have := HS6.out; omega) (.int .i64 2) (.slice b5 m5 d5) (b := p1)
  have nS : (World.setCell (World.setCell V3 ⟨p1, 0, none⟩ (.int .i64 2)) ⟨p1, 1, none⟩ (.slice b5 m5 d5)).heap.size = V3.heap.size := by simp
  unfold laidX at nw0 nw1 nwR nw2 nwT nG
  obtain ⟨V4, hV⟩ : ∃ z, World.setCell (World.setCell V3 ⟨p1, 0, none⟩ (.int .i64 2)) ⟨p1, 1, none⟩ (.slice b5 m5 d5) = z := ⟨_, rfl⟩
  rw [hV] at nw0 nw1 nwR nw2 nwT nG nS ⊢
  clear hV
  replace H0 := Lib.hid nw0
  replace H1 := Lib.hid nw1
  replace HR := Lib.hid nwR
  replace H2 := Lib.hid nw2
  replace HT := Lib.hid nwT
  replace HG := Lib.hid nG
  have HS7 := Lib.hid nS
  clear nG nS nw0 nw1 nwR nw2 nwT
  refine hK.out _ _ (HS.out _ H2.out) (fun hHeld => ?_)
  clear hK K
  try simp only [Act.put, sA, sB, sC]
  refine wpAnyH_done (by kernel_rfl) ?_ _
  have hEND := hdr
  clear hHeld
  go_wp2_with fail
  refine bodyPost_ret (resU55 _ _ p0 p1 a2 ng c2 _ _ _ rfl rfl rfl H0.out.1 H1.out.1 H1.out.2.1) rfl ?_
  exact ⟨a2, c2, b5, m5, d5, rfl, HM5.out, HR.out, HT.out, HG.out⟩
end Go.Proofs.YthdhmflodiincaaGreat

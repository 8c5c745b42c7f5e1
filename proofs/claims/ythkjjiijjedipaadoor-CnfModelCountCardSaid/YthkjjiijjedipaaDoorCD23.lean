/- Texts of the proof: D2. -/
import Derived.Test.YthkjjiijjedipaaDoorCD15
import Derived.Test.YthkjjiijjedipaaDoorCD22
namespace Go.Proofs.YthkjjiijjedipaaDoor
open Go.RowKit

abbrev d2o0 : Oper := { dst := some 23, op := Op.call { callee := Callee.value (Operand.func 27), args := #[Operand.tmp 17, Operand.tmp 18, Operand.tmp 22], argTypes := #[27, 28, 56] }, type := 50, pos := "ref.go:167", after := #[{ on := 0, ground := Ground.data }, { on := 1, ground := Ground.data }, { on := 5, ground := Ground.data }], guard := none }
abbrev d2o1 : Oper := { dst := some 7, op := Op.alloc 27, type := 0, pos := "ref.go:167", after := #[], guard := none }
abbrev d2o2 : Oper := { dst := some 16, op := Op.move (Operand.tmp 23), type := 50, pos := "ref.go:167", after := #[{ on := 6, ground := Ground.data }], guard := none }
abbrev d2o3 : Oper := { dst := some 24, op := Op.extract (Operand.tmp 16) 0, type := 27, pos := "ref.go:167", after := #[{ on := 7, ground := Ground.data }], guard := none }
abbrev d2o4 : Oper := { dst := some 25, op := Op.extract (Operand.tmp 16) 1, type := 3, pos := "ref.go:167", after := #[{ on := 7, ground := Ground.data }, { on := 11, ground := Ground.gcOnly Departure.lateStores }], guard := none }
abbrev d2o5 : Oper := { dst := none, op := Op.store 27 (Operand.tmp 7) (Operand.tmp 24), type := 0, pos := "ref.go:167", after := #[{ on := 10, ground := Ground.data }, { on := 8, ground := Ground.data }, { on := 6, ground := Ground.chain }, { on := 0, ground := Ground.phase }, { on := 1, ground := Ground.phase }, { on := 2, ground := Ground.phase }, { on := 3, ground := Ground.phase }, { on := 4, ground := Ground.phase }, { on := 5, ground := Ground.phase }, { on := 6, ground := Ground.phase }, { on := 7, ground := Ground.phase }, { on := 8, ground := Ground.phase }, { on := 9, ground := Ground.textOnly Departure.lateStores }, { on := 10, ground := Ground.phase }], guard := none }
abbrev d2o6 : Oper := { dst := some 8, op := Op.assign (Operand.tmp 25), type := 3, pos := "ref.go:167", after := #[{ on := 9, ground := Ground.data }, { on := 11, ground := Ground.chain }, { on := 0, ground := Ground.phase }, { on := 1, ground := Ground.phase }, { on := 2, ground := Ground.phase }, { on := 3, ground := Ground.phase }, { on := 4, ground := Ground.phase }, { on := 5, ground := Ground.phase }, { on := 6, ground := Ground.phase }, { on := 7, ground := Ground.phase }, { on := 8, ground := Ground.phase }, { on := 9, ground := Ground.phase }, { on := 10, ground := Ground.phase }, { on := 11, ground := Ground.phase }], guard := none }
def bstep (p : List Gt × List Int) (s : Stp) : List Gt × List Int := ((doC p.1 p.2 s).1, p.2 ++ [(doC p.1 p.2 s).2])
def buildC (l : List Stp) : List Gt × List Int := l.foldl bstep ([(0, 0, 0)], [])
theorem build_snoc (l : List Stp) (s : Stp) : buildC (l ++ [s]) = bstep (buildC l) s := by unfold buildC; rw [List.foldl_append]; rfl
theorem pick_ok {gs : List Gt} (hp : 1 ≤ gs.length) {refs : List Int} (h : ∀ r ∈ refs, Ok gs r) (n : Nat) : Ok gs (pickL refs n) := by
  have h0 : Ok gs (pick0 refs n) := by
    unfold pick0
    split
    · exact ⟨by omega, by omega⟩
    · cases hg : refs[n / 2 % (refs.length + 1) - 1]? with
      | none => exact ⟨by simp, by simp; omega⟩
      | some r => exact h r (List.mem_of_getElem? hg)
  unfold pickL
  split
  · exact notR_ok h0
  · exact h0
theorem do_step {gs : List Gt} (hG : Good gs) (hl : gs.length ≤ 1000) {refs : List Int} (h : ∀ r ∈ refs, Ok gs r) (s : Stp) : Step gs (doC gs refs s) ∧ Ok (doC gs refs s).1 (doC gs refs s).2 ∧ (doC gs refs s).1.length ≤ gs.length + 3 := by
  have hp := hG.pos
  have oa := pick_ok hp h s.2.1
  have ob := pick_ok hp h s.2.2
  unfold doC
  split
  · exact ⟨step_input hG _, input_ok (by omega) (by omega) (by omega), by have := input_len (gs := gs) ((s.2.1 % 8 + 1 : Nat) : Int); omega⟩
  · split
    · exact ⟨step_and hG _ _, and_ok hG (by omega) oa ob, by have := and_len (gs := gs) (pickL refs s.2.1) (pickL refs s.2.2); omega⟩
    · split
      · exact ⟨step_or hG _ _, or_ok hG (by omega) oa ob, by have := or_len (gs := gs) (pickL refs s.2.1) (pickL refs s.2.2); omega⟩
      · exact ⟨step_iff hG _ _, iff_ok hG (by omega) oa ob, by have := iff_len (gs := gs) (pickL refs s.2.1) (pickL refs s.2.2); omega⟩
/-- What is built. -/
structure Built (p : List Gt × List Int) (k : Nat) : Prop where
  good : Good p.1
  len : p.1.length ≤ 1 + 3 * k
  refs : p.2.length = k
  ok : ∀ r ∈ p.2, Ok p.1 r
theorem built_nil : Built ([(0, 0, 0)], []) 0 := ⟨good_new, by simp, rfl, by simp⟩
theorem Built.step {p : List Gt × List Int} {k : Nat} (h : Built p k) (hk : k ≤ 300) (s : Stp) : Built (bstep p s) (k + 1) := by
  obtain ⟨h1, h2, h3⟩ := do_step h.good (by have := h.len; omega) h.ok s
  refine ⟨h1.good, by have := h.len; show (doC p.1 p.2 s).1.length ≤ _; omega, by show (p.2 ++ [(doC p.1 p.2 s).2]).length = _; rw [List.length_append, h.refs]; rfl, fun r hr => ?_⟩
  rcases List.mem_append.1 (show r ∈ p.2 ++ [(doC p.1 p.2 s).2] from hr) with hr | hr
  · exact (h.ok r hr).grow h1.pre
  · rw [List.mem_singleton.1 hr]; exact h2
theorem built_take (l : List Stp) (hl : l.length ≤ 300) : ∀ k, k ≤ l.length → Built (buildC (l.take k)) k
  | 0, _ => by rw [List.take_zero]; exact built_nil
  | k + 1, hk => by
    obtain ⟨s, hs⟩ : ∃ s, l[k]? = some s := ⟨_, List.getElem?_eq_getElem (by omega)⟩
    rw [List.take_add_one, hs, show (some s).toList = [s] from rfl, build_snoc]
    exact (built_take l hl k (by omega)).step (by omega) s
theorem built (l : List Stp) (hl : l.length ≤ 300) : Built (buildC l) l.length := by
  have := built_take l hl l.length (Nat.le_refl _)
  rwa [List.take_length] at this
theorem build_take_succ {l : List Stp} {k : Nat} {s : Stp} (hs : l[k]? = some s) : buildC (l.take (k + 1)) = bstep (buildC (l.take k)) s := by rw [List.take_add_one, hs, show (some s).toList = [s] from rfl, build_snoc]
theorem ok_le {gs : List Gt} (hl : gs.length ≤ 20000) {refs : List Int} (h : ∀ r ∈ refs, Ok gs r) : ∀ r ∈ refs, r ≤ 9223372036854775807 := fun r hr => by have := (h r hr).2; omega

/-- A row of gates is no block of another type. -/
theorem GatesW.past {w w' : World} {a : Option Addr} {c : Nat} {gs : List Gt} {B n k : Nat} {e : TypeId} {v : Value} {xs : List Value} (h : GatesW w a c gs) (hown : w.ownsRow B e k v n xs) (he : e ≠ 58) (hg : w.grownBy w' v.ownBlock) : GatesW w' a c gs := by
  obtain ⟨hc, h | ⟨b, o, ha, ht, hz⟩⟩ := h
  · exact ⟨hc, .inl h⟩
  · have hne : some b ≠ v.ownBlock := fun e2 => by
      rcases hown.2 with ⟨rfl, _⟩ | ⟨g, cap, cur, rfl, _, hg, _⟩
      · cases e2
      · injection e2 with e2
        have e2' : b = g := e2
        subst e2'
        obtain ⟨c2, f2, h2⟩ := ht
        rw [hg] at h2
        cases h2
        exact he rfl
    exact ⟨hc, .inr ⟨b, o, ha, ht.grown hg hne, fun j g hj => (hz j g hj).moved hg hne⟩⟩
theorem CB.past {w w' : World} {b B n k : Nat} {a : Option Addr} {c : Nat} {g : List Gt} {e : TypeId} {v : Value} {xs : List Value} (h : CB w b a c g) (hb : b < B) (hown : w.ownsRow B e k v n xs) (he : e ≠ 58) (hg : w.grownBy w' v.ownBlock) : CB w' b a c g := by
  have hne : some b ≠ v.ownBlock := fun e2 => by have := (hown.lt b e2.symm).1; omega
  exact ⟨hg.cell h.1 hne, (World.frozen?_of_block (a := ⟨b, 0, none⟩) (hg.block b (lies_lt h.1) hne)).trans h.2.1, h.2.2.past hown he hg⟩

/-- The cells of a step. -/
def StpAt (w : World) (b o : Nat) (s : Stp) : Prop :=
  w.cell? ⟨b, o, none⟩ = some (.int .u8 (s.1 : Int)) ∧ w.cell? ⟨b, o + 1, none⟩ = some (.int .u8 (s.2.1 : Int)) ∧ w.cell? ⟨b, o + 2, none⟩ = some (.int .u8 (s.2.2 : Int))
theorem StpAt.grown {w w' : World} {b o : Nat} {g : Stp} (h : StpAt w b o g) (hg : w.grownBy w' none) : StpAt w' b o g := ⟨hg.cell h.1 (by simp), hg.cell h.2.1 (by simp), hg.cell h.2.2 (by simp)⟩
/-- A row of steps that is read. -/
def StpsW (w : World) (a : Option Addr) (c : Nat) (gs : List Stp) : Prop :=
  gs.length ≤ c ∧ (gs = [] ∨ ∃ b o, a = some ⟨b, o, none⟩ ∧ ∀ (j : Nat) (g : Stp), gs[j]? = some g → StpAt w b (o + j * 3) g)
theorem StpsW.grown {w w' : World} {a : Option Addr} {c : Nat} {gs : List Stp} (h : StpsW w a c gs) (hg : w.grownBy w' none) : StpsW w' a c gs := by
  obtain ⟨hc, h | ⟨b, o, ha, hz⟩⟩ := h
  · exact ⟨hc, .inl h⟩
  · exact ⟨hc, .inr ⟨b, o, ha, fun j z hj => (hz j z hj).grown hg⟩⟩
theorem StpsW.at {w : World} {a : Option Addr} {c : Nat} {gs : List Stp} (h : StpsW w a c gs) {i : Nat} {g : Stp} (hz : gs[i]? = some g) : ∃ b o, a = some ⟨b, o, none⟩ ∧ StpAt w b (o + i * 3) g := by
  obtain ⟨_, h | ⟨b, o, ha, hc⟩⟩ := h
  · rw [h] at hz; simp at hz
  · exact ⟨b, o, ha, hc i g hz⟩
theorem rdo_len {gs g : List Gt} {r : Int} {refs : List Int} {n : Nat} (hn : refs.length = n) (s : Stp) (a : Option Addr) (c : Nat) (ra : Option Addr) (rc : Nat) (w : World) (e : doC gs refs s = (g, r)) (h : GatesW w a c gs) (hr : IntsW w ra rc refs) (hG : Good gs) (hl : gs.length ≤ 880) (hl2 : refs.length ≤ 1000) (hb : ∀ r ∈ refs, r ≤ 9223372036854775807) (hs : StpOk s) :
    Calls Tryd.prog 27 #[.agg #[.slice a gs.length c], .slice ra n rc, stpV s] w (Ans w g r) := by
  subst hn
  exact rdo_calls refs s a c ra rc w e h hr hG hl hl2 hb hs
theorem results11 (tmps : Array Value) (w : World) (b : Nat) (a : Option Addr) (n c : Nat) (x : Value) (ht : tmps.getD 2 undef = .pointer (some ⟨b, 0, none⟩)) (hs : tmps.getD 3 undef = x) (h0 : w.cell? ⟨b, 0, none⟩ = some (.slice a n c)) :
    (results Tryd.f9 tmps).run Tryd.prog w = .ok (.tuple #[.agg #[.slice a n c], x]) w := by
  have ht' : tmps[2]?.getD undef = .pointer (some ⟨b, 0, none⟩) := by simpa using ht
  have hs' : tmps[3]?.getD undef = x := by simpa using hs
  simp [results, ht', hs', go_sem, h0, Result.andThen]

set_option maxRecDepth 100000 in
set_option maxHeartbeats 4000000 in
theorem rbuild_calls {g : List Gt} {refs : List Int} (l : List Stp) (sa : Option Addr) (sc : Nat) (w : World) (e : buildC l = (g, refs)) (h : StpsW w sa sc l) (hl : l.length ≤ 60) (hs : ∀ s ∈ l, StpOk s) :
    Calls Tryd.prog 9 #[.slice sa l.length sc] w fun x w' => ∃ a c ra rc, x = .returned (.tuple #[.agg #[.slice a g.length c], .slice ra refs.length rc]) ∧ GatesW w' a c g ∧ IntsW w' ra rc refs ∧ w.grownBy w' none := by
  obtain ⟨n, hn⟩ : ∃ n, l.length = n := ⟨_, rfl⟩
  have hg0 := World.grownBy_alloc w (.cells #[.slice none 0 0] 27) none
  have e0 := BoxZ.new w
  obtain ⟨V0, hV0⟩ : ∃ W, w.alloc (.cells #[.slice none 0 0] 27) = W := ⟨_, rfl⟩
  rw [hV0] at hg0 e0
  have HZ := Lib.hid e0
  have HSL := Lib.hid (h.grown hg0)
  have HOK := Lib.hid (And.intro e hs)
  have HN := Lib.hid hn
  have HB := Lib.hid (fun k (hk : k ≤ n) => built_take l (by omega) k (by omega))
  have HG0 := Lib.hid hg0
  have HLT := Lib.hid (show w.heap.size < V0.heap.size from lies_lt e0.1)
  obtain ⟨i0, hi0, hz0, hz1, hz2⟩ := info_parts info3
  rw [hn] at hl ⊢
  clear e h hs hg0 hn e0
  go_enter Tryd.func9, Tryd.ntmps9
  go_wp2_with fail
  clear hV0
  refine (rnew_calls _).mono ?_
  rintro e V1 ⟨y, rfl, ⟨a0, c0, rfl, hr⟩, g1⟩
  go_upto_region 2 with fail
  have hb := CB.new hr
  have g2 := World.grownBy_alloc V1 (.cells #[.slice a0 ([(0, 0, 0)] : List Gt).length c0] 27) none
  have hbc : V0.heap.size ≤ V1.heap.size := g1.size
  replace hb : CB (V1.alloc (.cells #[.slice a0 1 c0] 27)) V1.heap.size a0 c0 [(0, 0, 0)] := hb
  replace g2 : V1.grownBy (V1.alloc (.cells #[.slice a0 1 c0] 27)) none := g2
  have hsz : V1.heap.size < (V1.alloc (.cells #[.slice a0 1 c0] 27)).heap.size := by simp
  obtain ⟨V2, hV2⟩ : ∃ z, World.alloc V1 (.cells #[.slice a0 1 c0] 27) = z := ⟨_, rfl⟩
  rw [hV2] at hb g2 hsz ⊢
  clear hV2 hr
  obtain ⟨bc, hbb⟩ : ∃ b, V1.heap.size = b := ⟨_, rfl⟩
  rw [hbb] at hb hbc hsz ⊢
  clear hbb
  have HBC := Lib.hid (And.intro hbc hsz)
  have HG2 := Lib.hid (World.grownBy.trans g1 g2)
  have HB0 := Lib.hid hb
  clear g1 g2 hb hbc hsz
  go_wp2_with fail
  go_loopg [5, 6] n (fun gk s5 s6 wr => ∃ (k : Nat) (ra : Option Addr) (rc : Nat) (a : Option Addr) (c : Nat), s5 = .slice ra k rc ∧ s6 = .int .i64 (k : Int) ∧ gk = n - k ∧ k ≤ n ∧ wr.ownsRow V2.heap.size 3 1 (.slice ra k rc) k (intCells (buildC (l.take k)).2) ∧ CB wr bc a c (buildC (l.take k)).1 ∧ V0.grownBy wr none ∧ V2.heap.size ≤ wr.heap.size)
  case atStart => exact ⟨0, none, 0, a0, c0, rfl, rfl, rfl, Nat.zero_le _, World.ownsRow_nil _ _ _ _, HB0.out, HG2.out, Nat.le_refl _⟩
  case round =>
    obtain ⟨k, ra, rc, a, c, rfl, rfl, hgk, hk, hown, hcb, hgr, hsz2⟩ := hrel
    have HI := Lib.hid hgk; clear hgk
    have HOW := Lib.hid hown; clear hown
    have HBK := Lib.hid (HB.out k hk)
    obtain ⟨gg, hgg⟩ : ∃ z, buildC (l.take k) = z := ⟨_, rfl⟩
    obtain ⟨gs, rs⟩ := gg
    rw [hgg] at HOW HBK hcb
    have Hc := Lib.hid hcb; clear hcb
    have HGR := Lib.hid hgr; clear hgr
    have HS2 := Lib.hid hsz2; clear hsz2
    have HGG := Lib.hid hgg; clear hgg
    have HRS := Lib.hid (show rs.length = k from HBK.out.refs)
    have q0 := Hc.out.1
    have qf := Hc.out.2.1
    by_cases hkn : k < n
    · have f1 : decide (k < n) = true := decide_eq_true hkn
      have hk1 : IntKind.i64.wrap ((k : Int) + 1) = ((k + 1 : Nat) : Int) := by rw [IntWalk.i64_in _ (by omega)]; omega
      have hjn : (k : Int) < (n : Int) := by omega
      have hj0 : (0 : Int) ≤ (k : Int) := by omega
      obtain ⟨s, hs⟩ : ∃ s, l[k]? = some s := ⟨_, List.getElem?_eq_getElem (by rw [HN.out]; omega)⟩
      obtain ⟨ba, oa, rfl, x0, x1, x2⟩ := (HSL.out.grown HGR.out).at hs
      obtain ⟨g2, r2, e2⟩ : ∃ g r, doC gs rs s = (g, r) := ⟨_, _, rfl⟩
      have HE2 := Lib.hid e2
      have HST := Lib.hid (show buildC (l.take (k + 1)) = (g2, rs ++ [r2]) by rw [build_take_succ hs, HGG.out]; unfold bstep; simp only; rw [e2])
      have HSO := Lib.hid (HOK.out.2 s (List.mem_of_getElem? hs))
      have HRW := Lib.hid (show IntsW wr ra rc rs from by
        have h1 := HOW.out
        rw [← HRS.out] at h1
        obtain ⟨a', c', e', hs'⟩ := ints_span h1
        cases e'
        exact hs'.here.weak)
      have HX := Lib.hid (And.intro x0 (And.intro x1 x2))
      clear hs e2 x0 x1 x2
      go_upto_region 6 with fail
      clear q0 qf
      have HG := Lib.hid HGR.out
      have HGW := Lib.hid (grown_refl wr none)
      go_cut [7, 8] (fun s0 s1 wx => ∃ b a c, s0 = .pointer (some ⟨b, 0, none⟩) ∧ s1 = .int .i64 (r2) ∧ wr.heap.size ≤ b ∧ CB wx b a c g2 ∧ wr.grownBy wx none)
      case first =>
        have HS := Lib.hid (fun (Wh : World) (hWh : wr.grownBy Wh none) => (⟨hWh, hWh.cell Hc.out.1 (by simp), hWh.cell HX.out.1 (by simp), hWh.cell HX.out.2.1 (by simp), hWh.cell HX.out.2.2 (by simp)⟩ : (fun Wh : World => wr.grownBy Wh none ∧ Wh.cell? ⟨bc, 0, none⟩ = some (.slice a gs.length c) ∧ Wh.cell? ⟨ba, oa + k * 3, none⟩ = some (.int .u8 (s.1 : Int)) ∧ Wh.cell? ⟨ba, oa + k * 3 + 1, none⟩ = some (.int .u8 (s.2.1 : Int)) ∧ Wh.cell? ⟨ba, oa + k * 3 + 2, none⟩ = some (.int .u8 (s.2.2 : Int))) Wh))
        have hdr : wr.grownBy wr.drew none := ⟨rfl, rfl, rfl, Nat.le_refl _, fun _ _ _ => rfl⟩
        refine wp_region_held_drew (S := (fun Wh : World => wr.grownBy Wh none ∧ Wh.cell? ⟨bc, 0, none⟩ = some (.slice a gs.length c) ∧ Wh.cell? ⟨ba, oa + k * 3, none⟩ = some (.int .u8 (s.1 : Int)) ∧ Wh.cell? ⟨ba, oa + k * 3 + 1, none⟩ = some (.int .u8 (s.2.1 : Int)) ∧ Wh.cell? ⟨ba, oa + k * 3 + 2, none⟩ = some (.int .u8 (s.2.2 : Int)))) (by kernel_rfl) (HS.out _ hdr) (fun hHeld => ?_)
        refine tk 0 ({ dst := some 17, op := Op.load 27 (Operand.tmp 4), type := 27, pos := "ref.go:167", after := #[], guard := none }) ?_ rfl (by kernel_rfl) (fun _ _ _ h => h) (by rfl) ?_ hHeld ?_
        rotate_left 1
        · (intro W hSW; (try dsimp only at hSW); first | (go_simp; done) | (go_simp; with_reducible rfl))
        try simp only [Act.put, List.setIfInBounds_toArray, List.set_cons_zero, List.set_cons_succ]
        refine tk 1 ({ dst := some 18, op := Op.move (Operand.tmp 5), type := 28, pos := "ref.go:167", after := #[], guard := none }) ?_ rfl (by kernel_rfl) (fun _ _ _ h => h) (by rfl) ?_ hHeld ?_
        rotate_left 1
        · (intro W hSW; (try dsimp only at hSW); first | (go_simp; done) | (go_simp; with_reducible rfl))
        try simp only [Act.put, List.setIfInBounds_toArray, List.set_cons_zero, List.set_cons_succ]
        refine tk 2 ({ dst := some 19, op := Op.move (Operand.tmp 0), type := 22, pos := "ref.go:167", after := #[], guard := none }) ?_ rfl (by kernel_rfl) (fun _ _ _ h => h) (by rfl) ?_ hHeld ?_
        rotate_left 1
        · (intro W hSW; (try dsimp only at hSW); first | (go_simp; done) | (go_simp; with_reducible rfl))
        try simp only [Act.put, List.setIfInBounds_toArray, List.set_cons_zero, List.set_cons_succ]
        refine tk 3 ({ dst := some 20, op := Op.move (Operand.tmp 6), type := 3, pos := "ref.go:167", after := #[], guard := none }) ?_ rfl (by kernel_rfl) (fun _ _ _ h => h) (by rfl) ?_ hHeld ?_
        rotate_left 1
        · (intro W hSW; (try dsimp only at hSW); first | (go_simp; done) | (go_simp; with_reducible rfl))
        try simp only [Act.put, List.setIfInBounds_toArray, List.set_cons_zero, List.set_cons_succ]
        refine tk 4 ({ dst := some 21, op := Op.indexAddr 22 (Operand.tmp 19) (Operand.tmp 20), type := 0, pos := "ref.go:167", after := #[{ on := 2, ground := Ground.data }, { on := 3, ground := Ground.data }], guard := none }) ?_ rfl (by kernel_rfl) (fun _ _ _ h => h) (by rfl) ?_ hHeld ?_
        rotate_left 1
        · (intro W hSW; (try dsimp only at hSW); first | (go_simp; done) | (go_simp; with_reducible rfl))
        try simp only [Act.put, List.setIfInBounds_toArray, List.set_cons_zero, List.set_cons_succ]
        refine tk 5 ({ dst := some 22, op := Op.load 56 (Operand.tmp 21), type := 56, pos := "ref.go:167", after := #[{ on := 4, ground := Ground.data }], guard := none }) ?_ rfl (by kernel_rfl) (fun _ _ _ h => h) (by rfl) ?_ hHeld ?_
        rotate_left 1
        · (intro W hSW; (try dsimp only at hSW); first | (go_simp; done) | (go_simp; with_reducible rfl))
        try simp only [Act.put, List.setIfInBounds_toArray, List.set_cons_zero, List.set_cons_succ]
        refine wpAnyH_ready (rs := [6, 10]) (by kernel_rfl) (by simp) ?_
        refine (AllReadyH.cons (o := d2o0) rfl (fun K hK => ?_) (AllReadyH.cons (o := d2o1) rfl (fun K hK => ?_) AllReadyH.nil))
        · rw [if_pos (by rfl)]
          go_simp
          go_at_call 27
          refine (rdo_len (n := k) HRS.out s a c ra rc _ HE2.out ((Hc.out.grown hdr)).2.2 (HRW.out.grown hdr) HBK.out.good (by have := HBK.out.len; simp only at this; omega) (by have := HRS.out; omega) (ok_le (gs := gs) (by have := HBK.out.len; simp only at this; omega) HBK.out.ok) HSO.out).mono ?_
          rintro e wM ⟨aM, cM, rfl, hr, gM⟩
          have hgM := World.grownBy.trans hdr gM
          go_wp2_with fail
          refine hK.out _ _ (HS.out _ hgM) (fun hHeld => ?_)
          clear hK K
          try simp only [Act.put, List.setIfInBounds_toArray, List.set_cons_zero, List.set_cons_succ]
          refine tk 7 d2o2 ?_ rfl (by kernel_rfl) (fun _ _ _ h => h) (by rfl) ?_ hHeld ?_
          rotate_left 1
          · (intro W hSW; (try dsimp only at hSW); first | (go_simp; done) | (go_simp; with_reducible rfl))
          try simp only [Act.put, List.setIfInBounds_toArray, List.set_cons_zero, List.set_cons_succ]
          refine tk 8 d2o3 ?_ rfl (by kernel_rfl) (fun _ _ _ h => h) (by rfl) ?_ hHeld ?_
          rotate_left 1
          · (intro W hSW; (try dsimp only at hSW); first | (go_simp; done) | (go_simp; with_reducible rfl))
          try simp only [Act.put, List.setIfInBounds_toArray, List.set_cons_zero, List.set_cons_succ]
          refine tk 9 d2o4 ?_ rfl (by kernel_rfl) (fun _ _ _ h => h) (by rfl) ?_ hHeld ?_
          rotate_left 1
          · (intro W hSW; (try dsimp only at hSW); first | (go_simp; done) | (go_simp; with_reducible rfl))
          try simp only [Act.put, List.setIfInBounds_toArray, List.set_cons_zero, List.set_cons_succ]
          refine wpAnyH_ready (rs := [10]) (by kernel_rfl) (by simp) ?_
          refine (AllReadyH.cons (o := d2o1) rfl (fun K hK => ?_) AllReadyH.nil)
          rw [if_pos (by rfl)]
          go_simp
          have hgA : wr.grownBy (World.alloc wM (.cells #[.slice none 0 0] 27)) none := World.grownBy.trans hgM (World.grownBy_alloc wM (.cells #[.slice none 0 0] 27) none)
          have hz : BoxZ (World.alloc wM (.cells #[.slice none 0 0] 27)) (wM.heap.size) := BoxZ.new wM
          have hge0 : wr.heap.size ≤ wM.heap.size := World.grownBy.size hgM
          have hge : ∀ p, wM.heap.size = p → wr.heap.size ≤ p := fun p e => by rw [← e]; exact hge0
          clear hge0
          replace hr := hr.grown (World.grownBy_alloc wM (.cells #[.slice none 0 0] 27) none)
          obtain ⟨WA, hWA⟩ : ∃ z, World.alloc wM (.cells #[.slice none 0 0] 27) = z := ⟨_, rfl⟩
          rw [hWA] at hgA hz ⊢
          rw [hWA] at hr
          clear hWA
          obtain ⟨pA, hpA⟩ : ∃ p, wM.heap.size = p := ⟨_, rfl⟩
          replace hge := hge pA hpA
          rw [hpA] at hz ⊢
          clear hpA
          refine hK.out _ _ (HS.out _ hgA) (fun hHeld => ?_)
          clear hK K
          try simp only [Act.put, List.setIfInBounds_toArray, List.set_cons_zero, List.set_cons_succ]
          refine wpAnyH_ready (rs := [11]) (by kernel_rfl) (by simp) ?_
          refine (AllReadyH.cons (o := d2o5) rfl (fun K hK => ?_) AllReadyH.nil)
          rw [if_pos (by rfl)]
          have z0 := hz.1
          have zf := hz.2
          go_simp
          clear z0 zf
          have hcb := CB.put hr hz.1 hz.2
          have hgS := grown_own hgA (grown_set WA pA 0 (.slice aM g2.length cM)) (fun k hk => by cases hk; exact hge)
          obtain ⟨WS, hWS⟩ : ∃ z, World.setCell WA ⟨pA, 0, none⟩ (.slice aM g2.length cM) = z := ⟨_, rfl⟩
          rw [hWS] at hcb hgS ⊢
          clear hWS
          refine hK.out _ _ (HS.out _ hgS) (fun hHeld => ?_)
          clear hK K
          try simp only [Act.put, List.setIfInBounds_toArray, List.set_cons_zero, List.set_cons_succ]
          refine tk 12 d2o6 ?_ rfl (by kernel_rfl) (fun _ _ _ h => h) (by rfl) ?_ hHeld ?_
          rotate_left 1
          · (intro W hSW; (try dsimp only at hSW); first | (go_simp; done) | (go_simp; with_reducible rfl))
          try simp only [Act.put, List.setIfInBounds_toArray, List.set_cons_zero, List.set_cons_succ]
          refine wpAnyH_done (by kernel_rfl) ?_ _
          have hEND := hgS
          clear hHeld
          go_wp2_with fail
          go_meet
          exact ⟨pA, aM, cM, rfl, rfl, hge, hcb, hEND⟩
        · rw [if_pos (by rfl)]
          go_simp
          have hgA : wr.grownBy ((World.alloc wr (.cells #[.slice none 0 0] 27)).drew) none := World.grownBy.trans (World.grownBy_alloc wr (.cells #[.slice none 0 0] 27) none) (⟨rfl, rfl, rfl, Nat.le_refl _, fun _ _ _ => rfl⟩ : (World.alloc wr (.cells #[.slice none 0 0] 27)).grownBy (World.alloc wr (.cells #[.slice none 0 0] 27)).drew none)
          have hz : BoxZ ((World.alloc wr (.cells #[.slice none 0 0] 27)).drew) (wr.heap.size) := (BoxZ.new wr).grown (⟨rfl, rfl, rfl, Nat.le_refl _, fun _ _ _ => rfl⟩ : (World.alloc wr (.cells #[.slice none 0 0] 27)).grownBy (World.alloc wr (.cells #[.slice none 0 0] 27)).drew none)
          have hge0 : wr.heap.size ≤ wr.heap.size := Nat.le_refl _
          have hge : ∀ p, wr.heap.size = p → wr.heap.size ≤ p := fun p e => by rw [← e]; exact hge0
          clear hge0
          obtain ⟨WA, hWA⟩ : ∃ z, (World.alloc wr (.cells #[.slice none 0 0] 27)).drew = z := ⟨_, rfl⟩
          rw [hWA] at hgA hz ⊢
          clear hWA
          obtain ⟨pA, hpA⟩ : ∃ p, wr.heap.size = p := ⟨_, rfl⟩
          replace hge := hge pA hpA
          rw [hpA] at hz ⊢
          clear hpA
          refine hK.out _ _ (HS.out _ hgA) (fun hHeld => ?_)
          clear hK K
          try simp only [Act.put, List.setIfInBounds_toArray, List.set_cons_zero, List.set_cons_succ]
          refine wpAnyH_ready (rs := [6]) (by kernel_rfl) (by simp) ?_
          refine (AllReadyH.cons (o := d2o0) rfl (fun K hK => ?_) AllReadyH.nil)
          rw [if_pos (by rfl)]
          go_simp
          go_at_call 27
          refine (rdo_len (n := k) HRS.out s a c ra rc _ HE2.out ((Hc.out.grown hgA)).2.2 (HRW.out.grown hgA) HBK.out.good (by have := HBK.out.len; simp only at this; omega) (by have := HRS.out; omega) (ok_le (gs := gs) (by have := HBK.out.len; simp only at this; omega) HBK.out.ok) HSO.out).mono ?_
          rintro e wM ⟨aM, cM, rfl, hr, gM⟩
          have hgM := World.grownBy.trans hgA gM
          replace hz := hz.grown gM
          go_wp2_with fail
          refine hK.out _ _ (HS.out _ hgM) (fun hHeld => ?_)
          clear hK K
          try simp only [Act.put, List.setIfInBounds_toArray, List.set_cons_zero, List.set_cons_succ]
          refine tk 7 d2o2 ?_ rfl (by kernel_rfl) (fun _ _ _ h => h) (by rfl) ?_ hHeld ?_
          rotate_left 1
          · (intro W hSW; (try dsimp only at hSW); first | (go_simp; done) | (go_simp; with_reducible rfl))
          try simp only [Act.put, List.setIfInBounds_toArray, List.set_cons_zero, List.set_cons_succ]
          refine tk 8 d2o3 ?_ rfl (by kernel_rfl) (fun _ _ _ h => h) (by rfl) ?_ hHeld ?_
          rotate_left 1
          · (intro W hSW; (try dsimp only at hSW); first | (go_simp; done) | (go_simp; with_reducible rfl))
          try simp only [Act.put, List.setIfInBounds_toArray, List.set_cons_zero, List.set_cons_succ]
          refine tk 9 d2o4 ?_ rfl (by kernel_rfl) (fun _ _ _ h => h) (by rfl) ?_ hHeld ?_
          rotate_left 1
          · (intro W hSW; (try dsimp only at hSW); first | (go_simp; done) | (go_simp; with_reducible rfl))
          try simp only [Act.put, List.setIfInBounds_toArray, List.set_cons_zero, List.set_cons_succ]
          refine wpAnyH_ready (rs := [11]) (by kernel_rfl) (by simp) ?_
          refine (AllReadyH.cons (o := d2o5) rfl (fun K hK => ?_) AllReadyH.nil)
          rw [if_pos (by rfl)]
          have z0 := hz.1
          have zf := hz.2
          go_simp
          clear z0 zf
          have hcb := CB.put hr hz.1 hz.2
          have hgS := grown_own hgM (grown_set wM pA 0 (.slice aM g2.length cM)) (fun k hk => by cases hk; exact hge)
          obtain ⟨WS, hWS⟩ : ∃ z, World.setCell wM ⟨pA, 0, none⟩ (.slice aM g2.length cM) = z := ⟨_, rfl⟩
          rw [hWS] at hcb hgS ⊢
          clear hWS
          refine hK.out _ _ (HS.out _ hgS) (fun hHeld => ?_)
          clear hK K
          try simp only [Act.put, List.setIfInBounds_toArray, List.set_cons_zero, List.set_cons_succ]
          refine tk 12 d2o6 ?_ rfl (by kernel_rfl) (fun _ _ _ h => h) (by rfl) ?_ hHeld ?_
          rotate_left 1
          · (intro W hSW; (try dsimp only at hSW); first | (go_simp; done) | (go_simp; with_reducible rfl))
          try simp only [Act.put, List.setIfInBounds_toArray, List.set_cons_zero, List.set_cons_succ]
          refine wpAnyH_done (by kernel_rfl) ?_ _
          have hEND := hgS
          clear hHeld
          go_wp2_with fail
          go_meet
          exact ⟨pA, aM, cM, rfl, rfl, hge, hcb, hEND⟩
      case rest =>
        obtain ⟨bd, a1, c1, rfl, rfl, hle, hb, g⟩ := hcut
        obtain ⟨V1, rfl⟩ : ∃ z, z = wc := ⟨_, rfl⟩
        have SZd := Lib.hid (show wr.heap.size ≤ V1.heap.size from World.grownBy.size g)
        replace Hc := Lib.hid (Hc.out.grown g)
        replace HG := Lib.hid (World.grownBy.trans HG.out g)
        replace HGW := Lib.hid (World.grownBy.trans HGW.out g)
        clear g
        have Hd := Lib.hid hb
        have Ld := Lib.hid hle
        clear hb hle
        have qc := Hc.out.1
        have fc := Hc.out.2.1
        have qd := Hd.out.1
        have fd := Hd.out.2.1
        go_upto_region 7 with fail
        clear qc fc qd fd
        have qc := Hc.out.1
        have fc := Hc.out.2.1
        have qd := Hd.out.1
        have fd := Hd.out.2.1
        go_upto_region 8 with fail
        clear qc fc qd fd
        have hb := CB.put Hd.out.2.2 Hc.out.1 Hc.out.2.1
        have hg := grown_own HG.out (grown_set V1 bc 0 (.slice a1 g2.length c1)) (fun k e => by cases e; exact HBC.out.1)
        have hwv := HGW.out
        have how := (own_grown HOW.out hwv).kept (grown_set V1 bc 0 (.slice a1 g2.length c1)) (own_ne (own_grown HOW.out hwv) HBC.out.2)
        have hs3 := Nat.le_trans (Nat.le_trans HS2.out (World.grownBy.size hwv)) (grown_set V1 bc 0 (.slice a1 g2.length c1)).size
        obtain ⟨V3, hV3⟩ : ∃ z, World.setCell V1 ⟨bc, 0, none⟩ (.slice a1 g2.length c1) = z := ⟨_, rfl⟩
        rw [hV3] at hb hg how hs3 ⊢
        clear hV3 hwv
        have HC3 := Lib.hid hb
        have HG3 := Lib.hid hg
        have HO3 := Lib.hid how
        have HS3 := Lib.hid hs3
        clear hb hg how hs3
        go_wp2_with (at_builtin; refine wpList_append_own_at _ rfl _ _ 28 rfl V2.heap.size 3 i0 (.int .i64 0) 1 8 Tryd.underlying28 hi0 hz0 hz1 hz2 rfl (by decide) _ k (intCells rs) rfl (HO3.out.alloc _) ⟨V3.heap.size, 0, none⟩ 1 1 [.int .i64 r2] rfl rfl (cell_one_new _ _ _) (fun u hu => by simp at hu; subst hu; rfl) (by unfold maxLen; omega) (by omega) (by have := HS3.out; simp; omega) ?_)
        intro v' w6 hown' hgrow6 _ hat6
        obtain ⟨rgA, rcA, rfl⟩ := own_shape hown'
        have haA := World.grownBy_alloc V3 (.cells #[.int .i64 r2] 3) none
        have HE := Lib.hid (And.intro ((HC3.out.grown haA).past HBC.out.2 (HO3.out.alloc _) (by decide) hgrow6) (And.intro (grown_own (World.grownBy.trans HG3.out haA) hgrow6 (fun j e => by have h1 := ((HO3.out.alloc (.cells #[.int .i64 r2] 3)).lt j e).1; have h2 := HBC.out; omega)) (Nat.le_trans (Nat.le_trans HS3.out haA.size) hgrow6.size)))
        have HOW6 := Lib.hid (show w6.ownsRow V2.heap.size 3 1 (.slice rgA (k + 1) rcA) (k + 1) (intCells (rs ++ [r2])) by rw [intCells, List.map_append]; exact hown')
        clear hown' hgrow6 haA hat6
        go_wp2_with fail
        go_roundg (n - (k + 1))
        case measure => rw [HI.out]; omega
        case rel => exact ⟨k + 1, rgA, rcA, a1, c1, rfl, rfl, rfl, by omega, by rw [HST.out]; exact HOW6.out, by rw [HST.out]; exact HE.out.1, HE.out.2.1, HE.out.2.2⟩
    · have f1 : decide (k < n) = false := decide_eq_false hkn
      have hkE : k = n := by omega
      have HRR := Lib.hid (show (g, refs) = (gs, rs) by rw [← HOK.out.1, ← HGG.out, hkE, ← HN.out, List.take_length])
      clear hkE
      have z := HZ.out.grown HGR.out
      have z1 := z.1
      have z2 := z.2
      clear z
      go_wp2_with fail
      have hE := HRR.out
      injection hE with hE1 hE2
      subst hE1 hE2
      have h1 := HOW.out
      rw [← HRS.out] at h1
      obtain ⟨a', c', e', hs'⟩ := ints_span h1
      cases e'
      refine bodyPost_ret (results11 _ _ w.heap.size a _ c _ rfl rfl (World.cell?_setCell_same _ _ _ z1)) rfl ⟨a, c, ra, rc, by rw [HRS.out]; rfl, Hc.out.2.2.set z1 _, (hs'.off (grown_set wr w.heap.size 0 _) (fun x e => by cases e; exact .inl (Nat.lt_of_lt_of_le HLT.out (Nat.le_of_lt (Nat.lt_of_le_of_lt HBC.out.1 HBC.out.2))))).here.weak, grown_own (World.grownBy.trans HG0.out HGR.out) (grown_set wr w.heap.size 0 _) (fun j e => by cases e; exact Nat.le_refl _)⟩
end Go.Proofs.YthkjjiijjedipaaDoor

/- Common texts of the laws of stage 9, joined: TW TX TY. -/
import Derived.Test.YtbddpjofhddilaaN11
import Derived.Test.YtbddpjofhddilaaN06
import Derived.Deep.RegionHeld3
import Derived.Test.YtbddpjofhddilaaN07
import Derived.Test.YtbddpjofhddilaaN03
/- A relation in a box whose row is being made. -/
namespace Go.Proofs.Ytbddpjofhddilaa
open Go.RowKit

structure RowBox (Bs : Nat) (wr : World) (b : Nat) (k : Int) (v : Value) (s : List Int) : Prop where
  row : wr.cell? ⟨b, 1, none⟩ = some v
  own : wr.ownsRow Bs 3 1 v s.length (intCells s)
  c0 : wr.cell? ⟨b, 0, none⟩ = some (.int .i64 k)
  fr : wr.frozen? ⟨b, 1, none⟩ = false
  low : b < Bs ∧ Bs ≤ wr.heap.size
theorem RowBox.new (w : World) (k : Int) {Bs : Nat} (hB : Bs = w.heap.size + 1) : RowBox Bs (w.alloc (.cells #[.int .i64 k, .slice none 0 0] 53)) w.heap.size k (.slice none 0 0) [] :=
  ⟨by go_simp, World.ownsRow_nil _ _ _ _, by go_simp, by go_simp, by rw [hB]; simp⟩
theorem RowBox.more {Bs Bs' : Nat} {wr : World} {b : Nat} {k : Int} (h : RowBox Bs wr b k (.slice none 0 0) []) (h1 : Bs ≤ Bs') (h2 : Bs' ≤ wr.heap.size) : RowBox Bs' wr b k (.slice none 0 0) [] :=
  ⟨h.row, World.ownsRow_nil _ _ _ _, h.c0, h.fr, by have := h.low; omega, h2⟩
theorem RowBox.grown {Bs : Nat} {wr w' : World} {b : Nat} {k : Int} {v : Value} {s : List Int} (h : RowBox Bs wr b k v s) (g : wr.grownBy w' none) : RowBox Bs w' b k v s :=
  ⟨g.cell h.row (by simp), own_grown h.own g, g.cell h.c0 (by simp), (grown_frozen g (lies_lt h.c0) 1).trans h.fr, h.low.1, Nat.le_trans h.low.2 g.size⟩
/-- Behind the append, before the store. -/
theorem RowBox.at_ {Bs : Nat} {wr WA w3 : World} {b : Nat} {k : Int} {v : Value} {s : List Int} (h : RowBox Bs wr b k v s) (ha : wr.grownBy WA none) (hg : WA.grownBy w3 v.ownBlock) :
    w3.cell? ⟨b, 1, none⟩ = some v ∧ w3.frozen? ⟨b, 1, none⟩ = false := by
  have hne : some b ≠ v.ownBlock := fun e => by have := (h.own.lt b e.symm).1; have := h.low; omega
  have hlt := lies_lt h.row
  have e1 := ha.block b hlt (by simp)
  have e2 := hg.block b (Nat.lt_of_lt_of_le hlt ha.size) hne
  exact ⟨hg.cell (ha.cell h.row (by simp)) hne, (World.frozen?_of_block (a := ⟨b, 1, none⟩) (e2.trans e1)).trans h.fr⟩
theorem RowBox.step {Bs : Nat} {wr WA w3 : World} {b : Nat} {k : Int} {v v' : Value} {s : List Int} {x : Int} (h : RowBox Bs wr b k v s) (ha : wr.grownBy WA none) (hg : WA.grownBy w3 v.ownBlock)
    (hown' : w3.ownsRow Bs 3 1 v' (s.length + 1) (intCells s ++ [.int .i64 x])) : RowBox Bs (w3.setCell ⟨b, 1, none⟩ v') b k v' (s ++ [x]) := by
  have hlow := h.low
  have hne : some b ≠ v.ownBlock := fun e => by have := (h.own.lt b e.symm).1; omega
  obtain ⟨h1, h2⟩ := h.at_ ha hg
  refine ⟨World.cell?_setCell_same' _ _ _ (by rw [h1]; rfl), ?_, ?_, by rw [World.frozen?_setCell]; exact h2, hlow.1, ?_⟩
  · rw [List.length_append, intCells, List.map_append]; exact hown'.kept (grown_set _ _ _ _) (own_ne hown' (by omega))
  · rw [World.cell?_setCell_other _ _ _ _ (by intro e; injection e with _ e1; omega)]; exact hg.cell (ha.cell h.c0 (by simp)) hne
  · have := ha.size; have := hg.size; simp [World.setCell]; omega
/-- Another box beside it. -/
theorem RowBox.other {Bs : Nat} {wr WA w3 : World} {b b2 : Nat} {k k2 : Int} {v v2 v' : Value} {s s2 : List Int} (h : RowBox Bs wr b k v s) (h2 : RowBox Bs wr b2 k2 v2 s2) (hb : b ≠ b2) (hd : ∀ x, v.ownBlock = some x → v2.ownBlock ≠ some x) (ha : wr.grownBy WA none) (hg : WA.grownBy w3 v.ownBlock) :
    RowBox Bs (w3.setCell ⟨b, 1, none⟩ v') b2 k2 v2 s2 := by
  have hl := h.low
  have hl2 := h2.low
  have hne : some b2 ≠ v.ownBlock := fun e => by have := (h.own.lt b2 e.symm).1; omega
  have g1 := h2.grown ha
  have hk := g1.own.kept hg (by
    cases hv : v2.ownBlock with
    | none => exact .inl rfl
    | some y => refine .inr fun e => hd y e.symm hv)
  refine ⟨?_, hk.kept (grown_set _ _ _ _) (own_ne hk (by omega)), ?_, ?_, hl2.1, ?_⟩
  · rw [World.cell?_setCell_other _ _ _ _ (by intro e; injection e with e1; omega)]; exact hg.cell g1.row hne
  · rw [World.cell?_setCell_other _ _ _ _ (by intro e; injection e with e1; omega)]; exact hg.cell g1.c0 hne
  · rw [World.frozen?_setCell, World.frozen?_of_block (a := ⟨b2, 1, none⟩) (hg.block b2 (lies_lt g1.c0) hne)]; exact g1.fr
  · have := ha.size; have := hg.size; simp [World.setCell]; omega
theorem RowBox.apart {Bs : Nat} {wr WA : World} {b b2 : Nat} {k k2 : Int} {v v2 v' : Value} {s s2 : List Int} (_h : RowBox Bs wr b k v s) (h2 : RowBox Bs wr b2 k2 v2 s2) (hd : ∀ x, v.ownBlock = some x → v2.ownBlock ≠ some x) (ha : wr.grownBy WA none) (hat : v'.ownBlock = v.ownBlock ∨ v'.ownBlock = some WA.heap.size) :
    ∀ x, v'.ownBlock = some x → v2.ownBlock ≠ some x := by
  intro x hx e
  rcases hat with q | q
  · exact hd x (q ▸ hx) e
  · rw [q] at hx
    injection hx with hx
    have := (h2.own.lt x e).2
    have := ha.size
    omega
/-- What grows: from a world that lies below the boxes. -/
theorem RowBox.grows {Bs : Nat} {w0 wr WA w3 : World} {b : Nat} {k : Int} {v v' : Value} {s : List Int} (h : RowBox Bs wr b k v s) (hw : w0.grownBy wr none) (h0 : w0.heap.size ≤ b) (ha : wr.grownBy WA none) (hg : WA.grownBy w3 v.ownBlock) : w0.grownBy (w3.setCell ⟨b, 1, none⟩ v') none :=
  grown_own (grown_own (hw.trans ha) hg (fun j hj => by have := (h.own.lt j hj).1; have := h.low; omega)) (grown_set _ _ _ _) (fun j hj => by cases hj; exact h0)
theorem RowBox.grows2 {Bs : Nat} {w0 wr WA w3 : World} {b : Nat} {k : Int} {v v' : Value} {s s' : List Int} (h : RowBox Bs wr b k v s) (_hst : RowBox Bs (w3.setCell ⟨b, 1, none⟩ v') b k v' s') (hw : w0.grownBy wr none) (h0 : w0.heap.size ≤ b) (ha : wr.grownBy WA none) (hg : WA.grownBy w3 v.ownBlock) : w0.grownBy (w3.setCell ⟨b, 1, none⟩ v') none :=
  h.grows hw h0 ha hg
theorem RowBox.ints {Bs : Nat} {wr : World} {b : Nat} {k : Int} {v : Value} {s : List Int} (h : RowBox Bs wr b k v s) : ∃ a c, v = .slice a s.length c ∧ Span Bs wr.heap.size wr (fun W => Ints W a c s) := ints_span h.own
end Go.Proofs.Ytbddpjofhddilaa
/- The reference's difference and containment. -/
namespace Go.Proofs.Ytbddpjofhddilaa
open Go.RowKit

/-- The tuples that another row lacks. -/
def lacks (xs ys : List Int) : List Int := xs.filter fun z => !decide (z ∈ ys)
theorem lacks_take {xs ys : List Int} {i : Nat} {z : Int} (h : xs[i]? = some z) : lacks (xs.take (i + 1)) ys = if z ∈ ys then lacks (xs.take i) ys else lacks (xs.take i) ys ++ [z] := by
  rw [lacks, List.take_add_one, h, Option.toList_some, List.filter_append]
  by_cases hz : z ∈ ys <;> simp [hz, lacks]
theorem lacks_len (xs ys : List Int) : (lacks xs ys).length ≤ xs.length := List.length_filter_le _ _
theorem results111 (tmps : Array Value) (w : World) (b : Nat) (a : Option Addr) (n c : Nat) (x : Int) (ht : tmps.getD 4 undef = .pointer (some ⟨b, 0, none⟩)) (h0 : w.cell? ⟨b, 0, none⟩ = some (.int .i64 x)) (h1 : w.cell? ⟨b, 1, none⟩ = some (.slice a n c)) :
    (results Try.f111 tmps).run Try.prog w = .ok (.agg #[.int .i64 x, .slice a n c]) w := by
  have ht' : tmps[4]?.getD undef = .pointer (some ⟨b, 0, none⟩) := by simpa using ht
  simp [results, ht', go_sem, h0, h1, Result.andThen]

set_option maxRecDepth 100000 in
set_option maxHeartbeats 8000000 in
theorem rDiff_calls (k k' : Int) (xs ys : List Int) (xa ya : Option Addr) (xc yc : Nat) (w : World) (h : IntsW w xa xc xs) (h' : IntsW w ya yc ys) (hl : xs.length ≤ 100000) (hl' : ys.length ≤ 100000) (hu : Up ys) :
    Calls Try.prog 111 #[.agg #[.int .i64 k, .slice xa xs.length xc], .agg #[.int .i64 k', .slice ya ys.length yc]] w fun e w' => ∃ a c, e = .returned (.agg #[.int .i64 k, .slice a (lacks xs ys).length c]) ∧ w.grownBy w' none := by
  have HHAS := Lib.hid (fun (W : World) (z : Int) (g : w.grownBy W none) => has_calls k' ys ya yc z W (h'.grown g) (by omega) hu)
  obtain ⟨i0, hi0, hz0, hz1, hz2⟩ := info_parts info3
  obtain ⟨n, hn⟩ : ∃ n, xs.length = n := ⟨_, rfl⟩
  obtain ⟨m, hm⟩ : ∃ m, ys.length = m := ⟨_, rfl⟩
  have hg1 := World.grownBy_alloc w (.cells #[.int .i64 k, .slice xa n xc] 53) none
  have hg2 := World.grownBy_alloc (w.alloc (.cells #[.int .i64 k, .slice xa n xc] 53)) (.cells #[.int .i64 k', .slice ya m yc] 53) none
  have hg3 := World.grownBy_alloc ((w.alloc (.cells #[.int .i64 k, .slice xa n xc] 53)).alloc (.cells #[.int .i64 k', .slice ya m yc] 53)) (.cells #[.int .i64 0, .slice none 0 0] 53) none
  have hg := (hg1.trans hg2).trans hg3
  have hc := six_cells w (.int .i64 k) (.slice xa n xc) (.int .i64 k') (.slice ya m yc) (.int .i64 0) (.slice none 0 0) 53 53 53
  obtain ⟨W, hW⟩ : ∃ W, ((w.alloc (.cells #[.int .i64 k, .slice xa n xc] 53)).alloc (.cells #[.int .i64 k', .slice ya m yc] 53)).alloc (.cells #[.int .i64 0, .slice none 0 0] 53) = W := ⟨_, rfl⟩
  have hsz : W.heap.size = w.heap.size + 3 := by rw [← hW]; simp
  rw [hW] at hg hc
  have HH := Lib.hid (And.intro (h.grown hg) (And.intro hn hm))
  rw [hm] at HHAS hl'
  rw [hn] at hl ⊢
  rw [hm]
  clear h h' hu hn hm hg1 hg2 hg3
  have HG := Lib.hid hg; clear hg
  have HC := Lib.hid hc
  obtain ⟨hlt, c0, c1, d0, d1, e0, e1, ef0, ef1⟩ := hc
  have HB0 := Lib.hid (RowBox.new W k (Bs := W.heap.size + 1) rfl)
  have HG0 := Lib.hid (World.grownBy_alloc W (.cells #[.int .i64 k, .slice none 0 0] 53) none)
  have HSZ := Lib.hid hsz
  clear hsz
  go_enter Try.func111, Try.ntmps111
  go_wp2_with fail
  clear hW hlt c0 c1 d0 d1 e0 e1 ef0 ef1
  obtain ⟨W1, hW1⟩ : ∃ W1, W.alloc (.cells #[.int .i64 k, .slice none 0 0] 53) = W1 := ⟨_, rfl⟩
  rw [hW1] at HB0 HG0 ⊢
  clear hW1
  go_loopg [6] n (fun g s6 wr => ∃ (i : Nat) (v : Value), s6 = .int .i64 (i : Int) ∧ g = n - i ∧ i ≤ n ∧ RowBox (W.heap.size + 1) wr W.heap.size k v (lacks (xs.take i) ys) ∧ W.grownBy wr none)
  case atStart => exact ⟨0, .slice none 0 0, rfl, rfl, Nat.zero_le _, HB0.out, HG0.out⟩
  case round =>
    obtain ⟨i, v, rfl, hgk, hi, hbx, hgr⟩ := hrel
    obtain ⟨va, vc, rfl⟩ := own_shape hbx.own
    have HBX := Lib.hid hbx; clear hbx
    have HWR := Lib.hid hgr; clear hgr
    have HI := Lib.hid hgk; clear hgk
    have hcs := HC.out
    have c1 := HWR.out.cell hcs.2.2.1 (by simp)
    by_cases hin : i < n
    · have hinB : decide (i < n) = true := by simpa using hin
      have hinI : (i : Int) < (n : Int) := by omega
      obtain ⟨z, hz⟩ : ∃ z, xs[i]? = some z := ⟨_, List.getElem?_eq_getElem (by rw [HH.out.2.1]; exact hin)⟩
      obtain ⟨b, o, rfl, hcell⟩ := HH.out.1.at hz
      have HZ := Lib.hid hz; clear hz
      have HHZ := Lib.hid (fun (U : World) (g : W.grownBy U none) => HHAS.out U z (HG.out.trans g))
      have HLT := Lib.hid (lacks_take (ys := ys) HZ.out)
      obtain ⟨Q, hQ⟩ : ∃ Q, decide (z ∈ ys) = Q := ⟨_, rfl⟩
      rw [hQ] at HHZ
      have HQ := Lib.hid hQ; clear hQ
      go_wp2_with fail
      have HS := Lib.hid (fun (Wh : World) (hWh : W.grownBy Wh none) => (⟨hWh, hWh.cell hcs.2.1 (by simp), hWh.cell hcs.2.2.1 (by simp), hWh.cell hcs.2.2.2.1 (by simp), hWh.cell hcs.2.2.2.2.1 (by simp), hWh.cell hcell (by simp)⟩ : (fun Wh : World => W.grownBy Wh none ∧ Wh.cell? ⟨w.heap.size, 0, none⟩ = some (.int .i64 k) ∧ Wh.cell? ⟨w.heap.size, 1, none⟩ = some (.slice (some ⟨b, o, none⟩) n xc) ∧ Wh.cell? ⟨w.heap.size + 1, 0, none⟩ = some (.int .i64 k') ∧ Wh.cell? ⟨w.heap.size + 1, 1, none⟩ = some (.slice ya m yc) ∧ Wh.cell? ⟨b, o + i, none⟩ = some (.int .i64 z)) Wh))
      have hdr : W.grownBy wr.drew none := World.grownBy.trans HWR.out (⟨rfl, rfl, rfl, Nat.le_refl _, fun _ _ _ => rfl⟩ : wr.grownBy wr.drew none)
      refine wp_region_held_drew (S := (fun Wh : World => W.grownBy Wh none ∧ Wh.cell? ⟨w.heap.size, 0, none⟩ = some (.int .i64 k) ∧ Wh.cell? ⟨w.heap.size, 1, none⟩ = some (.slice (some ⟨b, o, none⟩) n xc) ∧ Wh.cell? ⟨w.heap.size + 1, 0, none⟩ = some (.int .i64 k') ∧ Wh.cell? ⟨w.heap.size + 1, 1, none⟩ = some (.slice ya m yc) ∧ Wh.cell? ⟨b, o + i, none⟩ = some (.int .i64 z))) (by kernel_rfl) (HS.out _ hdr) (fun hHeld => ?_)
      refine wpAnyH_take (i := 0) (oi := { dst := some 17, op := Op.load 53 (Operand.tmp 3), type := 53, pos := "ref.go:89", after := #[], guard := none }) (v := ?_) rfl (by kernel_rfl) (by kernel_rfl) (by kernel_rfl) (fun _ _ _ h => h) (Or.inl ⟨by rfl, ?_⟩) (by assumption) ?_
      rotate_left 1
      · (intro W hSW; (try dsimp only at hSW); first | (go_simp; done) | (go_simp; with_reducible rfl))
      try simp only [Act.put, List.setIfInBounds_toArray, List.set_cons_zero, List.set_cons_succ]
      refine wpAnyH_take (i := 1) (oi := { dst := some 18, op := Op.fieldAddr 53 (Operand.tmp 2) 1, type := 0, pos := "ref.go:89", after := #[], guard := none }) (v := ?_) rfl (by kernel_rfl) (by kernel_rfl) (by kernel_rfl) (fun _ _ _ h => h) (Or.inl ⟨by rfl, ?_⟩) (by assumption) ?_
      rotate_left 1
      · (intro W hSW; (try dsimp only at hSW); first | (go_simp; done) | (go_simp; with_reducible rfl))
      try simp only [Act.put, List.setIfInBounds_toArray, List.set_cons_zero, List.set_cons_succ]
      refine wpAnyH_take (i := 2) (oi := { dst := some 19, op := Op.load 28 (Operand.tmp 18), type := 28, pos := "ref.go:89", after := #[{ on := 1, ground := Ground.data }], guard := none }) (v := ?_) rfl (by kernel_rfl) (by kernel_rfl) (by kernel_rfl) (fun _ _ _ h => h) (Or.inl ⟨by rfl, ?_⟩) (by assumption) ?_
      rotate_left 1
      · (intro W hSW; (try dsimp only at hSW); first | (go_simp; done) | (go_simp; with_reducible rfl))
      try simp only [Act.put, List.setIfInBounds_toArray, List.set_cons_zero, List.set_cons_succ]
      refine wpAnyH_take (i := 3) (oi := { dst := some 20, op := Op.move (Operand.tmp 6), type := 3, pos := "ref.go:89", after := #[], guard := none }) (v := ?_) rfl (by kernel_rfl) (by kernel_rfl) (by kernel_rfl) (fun _ _ _ h => h) (Or.inl ⟨by rfl, ?_⟩) (by assumption) ?_
      rotate_left 1
      · (intro W hSW; (try dsimp only at hSW); first | (go_simp; done) | (go_simp; with_reducible rfl))
      try simp only [Act.put, List.setIfInBounds_toArray, List.set_cons_zero, List.set_cons_succ]
      refine wpAnyH_take (i := 4) (oi := { dst := some 21, op := Op.indexAddr 28 (Operand.tmp 19) (Operand.tmp 20), type := 0, pos := "ref.go:89", after := #[{ on := 2, ground := Ground.data }, { on := 3, ground := Ground.data }], guard := none }) (v := ?_) rfl (by kernel_rfl) (by kernel_rfl) (by kernel_rfl) (fun _ _ _ h => h) (Or.inl ⟨by rfl, ?_⟩) (by assumption) ?_
      rotate_left 1
      · (intro W hSW; (try dsimp only at hSW); first | (go_simp; done) | (go_simp; with_reducible rfl))
      try simp only [Act.put, List.setIfInBounds_toArray, List.set_cons_zero, List.set_cons_succ]
      refine wpAnyH_take (i := 5) (oi := { dst := some 22, op := Op.load 3 (Operand.tmp 21), type := 3, pos := "ref.go:89", after := #[{ on := 4, ground := Ground.data }], guard := none }) (v := ?_) rfl (by kernel_rfl) (by kernel_rfl) (by kernel_rfl) (fun _ _ _ h => h) (Or.inl ⟨by rfl, ?_⟩) (by assumption) ?_
      rotate_left 1
      · (intro W hSW; (try dsimp only at hSW); first | (go_simp; done) | (go_simp; with_reducible rfl))
      try simp only [Act.put, List.setIfInBounds_toArray, List.set_cons_zero, List.set_cons_succ]
      refine wpAnyH_ready (rs := [6]) (by kernel_rfl) (by simp) ?_
      refine (AllReadyH.cons (o := { dst := some 23, op := Op.call { callee := Callee.value (Operand.func 128), args := #[Operand.tmp 17, Operand.tmp 22], argTypes := #[53, 3] }, type := 4, pos := "ref.go:89", after := #[{ on := 0, ground := Ground.data }, { on := 5, ground := Ground.data }], guard := none }) rfl (fun K hK => ?_) AllReadyH.nil)
      rw [if_pos (by rfl)]
      go_simp
      go_at_call 128
      refine (HHZ.out _ (hdr)).mono ?_
      rintro e wc1 ⟨rfl, gc1⟩
      have hgr1 := World.grownBy.trans hdr gc1
      go_wp2_with fail
      refine hK.out _ _ (HS.out _ hgr1) (fun hHeld => ?_)
      clear hK K
      try simp only [Act.put, List.setIfInBounds_toArray, List.set_cons_zero, List.set_cons_succ]
      refine wpAnyH_take (i := 7) (oi := { dst := some 24, op := Op.unOp UnOp.not 4 (Operand.tmp 23), type := 4, pos := "ref.go:89", after := #[{ on := 6, ground := Ground.data }], guard := none }) (v := ?_) rfl (by kernel_rfl) (by kernel_rfl) (by kernel_rfl) (fun _ _ _ h => h) (Or.inl ⟨by rfl, ?_⟩) (by assumption) ?_
      rotate_left 1
      · (intro W hSW; (try dsimp only at hSW); first | (go_simp; done) | (go_simp; with_reducible rfl))
      try simp only [Act.put, List.setIfInBounds_toArray, List.set_cons_zero, List.set_cons_succ]
      refine wpAnyH_done (by kernel_rfl) ?_ _
      have hEND := hgr1
      clear hHeld
      have HE := Lib.hid hEND
      clear hEND c1
      cases Q with
      | true =>
        have HLS : Hid (lacks (xs.take (i + 1)) ys = lacks (xs.take i) ys) := Lib.hid (by rw [HLT.out, if_pos (of_decide_eq_true HQ.out)])
        have HBX2 := Lib.hid (HBX.out.grown (World.grownBy.trans (⟨rfl, rfl, rfl, Nat.le_refl _, fun _ _ _ => rfl⟩ : wr.grownBy wr.drew none) gc1))
        go_wp2_with fail
        go_roundg (n - (i + 1))
        case measure => rw [HI.out]; omega
        case rel => exact ⟨i + 1, _, rfl, rfl, by omega, by rw [HLS.out]; exact HBX2.out, HE.out⟩
      | false =>
        have HLS : Hid (lacks (xs.take (i + 1)) ys = lacks (xs.take i) ys ++ [z]) := Lib.hid (by rw [HLT.out, if_neg (of_decide_eq_false HQ.out)])
        have HBX2 := Lib.hid (HBX.out.grown (World.grownBy.trans (⟨rfl, rfl, rfl, Nat.le_refl _, fun _ _ _ => rfl⟩ : wr.grownBy wr.drew none) gc1))
        have HLEN : Hid ((lacks (xs.take i) ys).length ≤ 1000000) := Lib.hid (by have h1 := lacks_len (xs.take i) ys; rw [List.length_take] at h1; omega)
        have HB0' : Hid (W.heap.size ≤ W.heap.size) := Lib.hid (Nat.le_refl _)
        go_wp2_with fail
        have hdr : W.grownBy wc1.drew none := World.grownBy.trans HE.out (⟨rfl, rfl, rfl, Nat.le_refl _, fun _ _ _ => rfl⟩ : wc1.grownBy wc1.drew none)
        refine wp_region_held_drew (S := (fun Wh : World => W.grownBy Wh none ∧ Wh.cell? ⟨w.heap.size, 0, none⟩ = some (.int .i64 k) ∧ Wh.cell? ⟨w.heap.size, 1, none⟩ = some (.slice (some ⟨b, o, none⟩) n xc) ∧ Wh.cell? ⟨w.heap.size + 1, 0, none⟩ = some (.int .i64 k') ∧ Wh.cell? ⟨w.heap.size + 1, 1, none⟩ = some (.slice ya m yc) ∧ Wh.cell? ⟨b, o + i, none⟩ = some (.int .i64 z))) (by kernel_rfl) (HS.out _ hdr) (fun hHeld => ?_)
        refine wpAnyH_take (i := 0) (oi := { dst := some 25, op := Op.fieldAddr 53 (Operand.tmp 5) 1, type := 0, pos := "ref.go:90", after := #[], guard := none }) (v := ?_) rfl (by kernel_rfl) (by kernel_rfl) (by kernel_rfl) (fun _ _ _ h => h) (Or.inl ⟨by rfl, ?_⟩) (by assumption) ?_
        rotate_left 1
        · (intro W hSW; (try dsimp only at hSW); first | (go_simp; done) | (go_simp; with_reducible rfl))
        try simp only [Act.put, List.setIfInBounds_toArray, List.set_cons_zero, List.set_cons_succ]
        refine wpAnyH_take (i := 2) (oi := { dst := some 27, op := Op.fieldAddr 53 (Operand.tmp 2) 1, type := 0, pos := "ref.go:90", after := #[], guard := none }) (v := ?_) rfl (by kernel_rfl) (by kernel_rfl) (by kernel_rfl) (fun _ _ _ h => h) (Or.inl ⟨by rfl, ?_⟩) (by assumption) ?_
        rotate_left 1
        · (intro W hSW; (try dsimp only at hSW); first | (go_simp; done) | (go_simp; with_reducible rfl))
        try simp only [Act.put, List.setIfInBounds_toArray, List.set_cons_zero, List.set_cons_succ]
        refine wpAnyH_take (i := 3) (oi := { dst := some 28, op := Op.load 28 (Operand.tmp 27), type := 28, pos := "ref.go:90", after := #[{ on := 2, ground := Ground.data }], guard := none }) (v := ?_) rfl (by kernel_rfl) (by kernel_rfl) (by kernel_rfl) (fun _ _ _ h => h) (Or.inl ⟨by rfl, ?_⟩) (by assumption) ?_
        rotate_left 1
        · (intro W hSW; (try dsimp only at hSW); first | (go_simp; done) | (go_simp; with_reducible rfl))
        try simp only [Act.put, List.setIfInBounds_toArray, List.set_cons_zero, List.set_cons_succ]
        refine wpAnyH_take (i := 4) (oi := { dst := some 29, op := Op.move (Operand.tmp 6), type := 3, pos := "ref.go:90", after := #[], guard := none }) (v := ?_) rfl (by kernel_rfl) (by kernel_rfl) (by kernel_rfl) (fun _ _ _ h => h) (Or.inl ⟨by rfl, ?_⟩) (by assumption) ?_
        rotate_left 1
        · (intro W hSW; (try dsimp only at hSW); first | (go_simp; done) | (go_simp; with_reducible rfl))
        try simp only [Act.put, List.setIfInBounds_toArray, List.set_cons_zero, List.set_cons_succ]
        refine wpAnyH_take (i := 5) (oi := { dst := some 30, op := Op.indexAddr 28 (Operand.tmp 28) (Operand.tmp 29), type := 0, pos := "ref.go:90", after := #[{ on := 3, ground := Ground.data }, { on := 4, ground := Ground.data }], guard := none }) (v := ?_) rfl (by kernel_rfl) (by kernel_rfl) (by kernel_rfl) (fun _ _ _ h => h) (Or.inl ⟨by rfl, ?_⟩) (by assumption) ?_
        rotate_left 1
        · (intro W hSW; (try dsimp only at hSW); first | (go_simp; done) | (go_simp; with_reducible rfl))
        try simp only [Act.put, List.setIfInBounds_toArray, List.set_cons_zero, List.set_cons_succ]
        refine wpAnyH_take (i := 6) (oi := { dst := some 31, op := Op.load 3 (Operand.tmp 30), type := 3, pos := "ref.go:90", after := #[{ on := 5, ground := Ground.data }], guard := none }) (v := ?_) rfl (by kernel_rfl) (by kernel_rfl) (by kernel_rfl) (fun _ _ _ h => h) (Or.inl ⟨by rfl, ?_⟩) (by assumption) ?_
        rotate_left 1
        · (intro W hSW; (try dsimp only at hSW); first | (go_simp; done) | (go_simp; with_reducible rfl))
        try simp only [Act.put, List.setIfInBounds_toArray, List.set_cons_zero, List.set_cons_succ]
        refine wpAnyH_ready (rs := [1, 7]) (by kernel_rfl) (by simp) ?_
        refine (AllReadyH.cons (o := { dst := some 26, op := Op.load 28 (Operand.tmp 25), type := 28, pos := "ref.go:90", after := #[{ on := 0, ground := Ground.data }], guard := none }) rfl (fun K hK => ?_) (AllReadyH.cons (o := { dst := some 32, op := Op.buildSlice 28 1 #[(0, Operand.tmp 31)], type := 28, pos := "ref.go:90", after := #[{ on := 6, ground := Ground.data }], guard := none }) rfl (fun K hK => ?_) AllReadyH.nil))
        · rw [if_pos (by rfl)]
          have hrow := (HBX2.out).row
          go_simp
          clear hrow
          refine hK.out _ _ (HS.out _ hdr) (fun hHeld => ?_)
          clear hK K
          try simp only [Act.put, List.setIfInBounds_toArray, List.set_cons_zero, List.set_cons_succ]
          refine wpAnyH_ready (rs := [7]) (by kernel_rfl) (by simp) ?_
          refine (AllReadyH.cons (o := { dst := some 32, op := Op.buildSlice 28 1 #[(0, Operand.tmp 31)], type := 28, pos := "ref.go:90", after := #[{ on := 6, ground := Ground.data }], guard := none }) rfl (fun K hK => ?_) AllReadyH.nil)
          rw [if_pos (by rfl)]
          go_simp
          have haA : wc1.grownBy ((World.alloc wc1 (.cells #[.int .i64 z] 3)).drew) none := World.grownBy.trans (World.grownBy_alloc wc1 _ none) (⟨rfl, rfl, rfl, Nat.le_refl _, fun _ _ _ => rfl⟩ : (World.alloc wc1 (.cells #[.int .i64 z] 3)).grownBy ((World.alloc wc1 (.cells #[.int .i64 z] 3)).drew) none)
          have hnA : ∀ j u, [Value.int .i64 z][j]? = some u → ((World.alloc wc1 (.cells #[.int .i64 z] 3)).drew).cell? ((⟨wc1.heap.size, 0, none⟩ : Addr).add j) = some u := cell_one_new wc1 _ _
          obtain ⟨WA, hWA⟩ : ∃ WA, (World.alloc wc1 (.cells #[.int .i64 z] 3)).drew = WA := ⟨_, rfl⟩
          rw [hWA] at haA hnA ⊢
          clear hWA
          have HBA := HBX2.out.grown haA
          have hgA := World.grownBy.trans HE.out haA
          refine hK.out _ _ (HS.out _ hgA) (fun hHeld => ?_)
          clear hK K
          try simp only [Act.put, List.setIfInBounds_toArray, List.set_cons_zero, List.set_cons_succ]
          refine wpAnyH_ready (rs := [8]) (by kernel_rfl) (by simp) ?_
          refine (AllReadyH.cons (o := { dst := some 33, op := Op.call { callee := Callee.builtin Builtin.append, args := #[Operand.tmp 26, Operand.tmp 32], argTypes := #[28, 28] }, type := 28, pos := "ref.go:90", after := #[{ on := 1, ground := Ground.data }, { on := 7, ground := Ground.data }], guard := none }) rfl (fun K hK => ?_) AllReadyH.nil)
          refine ready_append_g 28 3 (.tmp 26) (.tmp 32) rfl rfl Try.underlying28 hi0 hz0 hz1 hz2 rfl (by decide) (by omega) (W.heap.size + 1) _ _ (intCells _) rfl HBA.own ⟨wc1.heap.size, 0, none⟩ [.int .i64 z] rfl rfl hnA (fun u hu => by simp at hu; subst hu; rfl) HLEN.out (HBA.low.2) (fun v' w6 hown' hgrow6 hat6 => ?_)
          have hg6 := grown_own hgA hgrow6 (fun j hj => by have h1 := (HBA.own.lt j hj).1; have h2 := HBA.low.1; have h3 := HB0'.out; omega)
          obtain ⟨hs1, hs2⟩ := HBX2.out.at_ haA hgrow6
          obtain ⟨rgA, rcA, rfl⟩ := own_shape hown'
          refine hK.out _ _ (HS.out _ hg6) (fun hHeld => ?_)
          clear hK K
          try simp only [Act.put, List.setIfInBounds_toArray, List.set_cons_zero, List.set_cons_succ]
          refine wpAnyH_take (i := 9) (oi := { dst := some 34, op := Op.fieldAddr 53 (Operand.tmp 5) 1, type := 0, pos := "ref.go:90", after := #[{ on := 0, ground := Ground.phase }, { on := 1, ground := Ground.phase }, { on := 2, ground := Ground.phase }, { on := 3, ground := Ground.phase }, { on := 4, ground := Ground.phase }, { on := 5, ground := Ground.phase }, { on := 6, ground := Ground.phase }, { on := 7, ground := Ground.phase }, { on := 8, ground := Ground.phase }], guard := none }) (v := ?_) rfl (by kernel_rfl) (by kernel_rfl) (by kernel_rfl) (fun _ _ _ h => h) (Or.inl ⟨by rfl, ?_⟩) (by assumption) ?_
          rotate_left 1
          · (intro W hSW; (try dsimp only at hSW); first | (go_simp; done) | (go_simp; with_reducible rfl))
          try simp only [Act.put, List.setIfInBounds_toArray, List.set_cons_zero, List.set_cons_succ]
          refine wpAnyH_ready (rs := [10]) (by kernel_rfl) (by simp) ?_
          refine (AllReadyH.cons (o := { dst := none, op := Op.store 28 (Operand.tmp 34) (Operand.tmp 33), type := 0, pos := "ref.go:90", after := #[{ on := 9, ground := Ground.data }, { on := 8, ground := Ground.data }, { on := 8, ground := Ground.chain }, { on := 0, ground := Ground.phase }, { on := 1, ground := Ground.phase }, { on := 2, ground := Ground.phase }, { on := 3, ground := Ground.phase }, { on := 4, ground := Ground.phase }, { on := 5, ground := Ground.phase }, { on := 6, ground := Ground.phase }, { on := 7, ground := Ground.phase }, { on := 8, ground := Ground.phase }], guard := none }) rfl (fun K hK => ?_) AllReadyH.nil)
          rw [if_pos (by rfl)]
          go_simp
          have hst := HBX2.out.step haA hgrow6 hown'
          have hgs := HBX2.out.grows2 hst HE.out HB0'.out haA hgrow6
          refine hK.out _ _ (HS.out _ hgs) (fun hHeld => ?_)
          clear hK K
          try simp only [Act.put, List.setIfInBounds_toArray, List.set_cons_zero, List.set_cons_succ]
          refine wpAnyH_done (by kernel_rfl) ?_ _
          have hEND := hgs
          clear hHeld
          have HE2 := Lib.hid (And.intro hst hgs)
          clear hst hgs hs1 hs2 hgrow6 hown' hat6 haA hnA HBA hgA hg6 hEND
          go_wp2_with fail
          go_roundg (n - (i + 1))
          case measure => rw [HI.out]; omega
          case rel => exact ⟨i + 1, _, rfl, rfl, by omega, by rw [HLS.out]; exact HE2.out.1, HE2.out.2⟩
        · rw [if_pos (by rfl)]
          go_simp
          have haA : wc1.grownBy ((World.alloc wc1 (.cells #[.int .i64 z] 3)).drew) none := World.grownBy.trans (World.grownBy_alloc wc1 _ none) (⟨rfl, rfl, rfl, Nat.le_refl _, fun _ _ _ => rfl⟩ : (World.alloc wc1 (.cells #[.int .i64 z] 3)).grownBy ((World.alloc wc1 (.cells #[.int .i64 z] 3)).drew) none)
          have hnA : ∀ j u, [Value.int .i64 z][j]? = some u → ((World.alloc wc1 (.cells #[.int .i64 z] 3)).drew).cell? ((⟨wc1.heap.size, 0, none⟩ : Addr).add j) = some u := cell_one_new wc1 _ _
          obtain ⟨WA, hWA⟩ : ∃ WA, (World.alloc wc1 (.cells #[.int .i64 z] 3)).drew = WA := ⟨_, rfl⟩
          rw [hWA] at haA hnA ⊢
          clear hWA
          have HBA := HBX2.out.grown haA
          have hgA := World.grownBy.trans HE.out haA
          refine hK.out _ _ (HS.out _ hgA) (fun hHeld => ?_)
          clear hK K
          try simp only [Act.put, List.setIfInBounds_toArray, List.set_cons_zero, List.set_cons_succ]
          refine wpAnyH_ready (rs := [1]) (by kernel_rfl) (by simp) ?_
          refine (AllReadyH.cons (o := { dst := some 26, op := Op.load 28 (Operand.tmp 25), type := 28, pos := "ref.go:90", after := #[{ on := 0, ground := Ground.data }], guard := none }) rfl (fun K hK => ?_) AllReadyH.nil)
          rw [if_pos (by rfl)]
          have hrow := (HBA).row
          go_simp
          clear hrow
          refine hK.out _ _ (HS.out _ hgA) (fun hHeld => ?_)
          clear hK K
          try simp only [Act.put, List.setIfInBounds_toArray, List.set_cons_zero, List.set_cons_succ]
          refine wpAnyH_ready (rs := [8]) (by kernel_rfl) (by simp) ?_
          refine (AllReadyH.cons (o := { dst := some 33, op := Op.call { callee := Callee.builtin Builtin.append, args := #[Operand.tmp 26, Operand.tmp 32], argTypes := #[28, 28] }, type := 28, pos := "ref.go:90", after := #[{ on := 1, ground := Ground.data }, { on := 7, ground := Ground.data }], guard := none }) rfl (fun K hK => ?_) AllReadyH.nil)
          refine ready_append_g 28 3 (.tmp 26) (.tmp 32) rfl rfl Try.underlying28 hi0 hz0 hz1 hz2 rfl (by decide) (by omega) (W.heap.size + 1) _ _ (intCells _) rfl HBA.own ⟨wc1.heap.size, 0, none⟩ [.int .i64 z] rfl rfl hnA (fun u hu => by simp at hu; subst hu; rfl) HLEN.out (HBA.low.2) (fun v' w6 hown' hgrow6 hat6 => ?_)
          have hg6 := grown_own hgA hgrow6 (fun j hj => by have h1 := (HBA.own.lt j hj).1; have h2 := HBA.low.1; have h3 := HB0'.out; omega)
          obtain ⟨hs1, hs2⟩ := HBX2.out.at_ haA hgrow6
          obtain ⟨rgA, rcA, rfl⟩ := own_shape hown'
          refine hK.out _ _ (HS.out _ hg6) (fun hHeld => ?_)
          clear hK K
          try simp only [Act.put, List.setIfInBounds_toArray, List.set_cons_zero, List.set_cons_succ]
          refine wpAnyH_take (i := 9) (oi := { dst := some 34, op := Op.fieldAddr 53 (Operand.tmp 5) 1, type := 0, pos := "ref.go:90", after := #[{ on := 0, ground := Ground.phase }, { on := 1, ground := Ground.phase }, { on := 2, ground := Ground.phase }, { on := 3, ground := Ground.phase }, { on := 4, ground := Ground.phase }, { on := 5, ground := Ground.phase }, { on := 6, ground := Ground.phase }, { on := 7, ground := Ground.phase }, { on := 8, ground := Ground.phase }], guard := none }) (v := ?_) rfl (by kernel_rfl) (by kernel_rfl) (by kernel_rfl) (fun _ _ _ h => h) (Or.inl ⟨by rfl, ?_⟩) (by assumption) ?_
          rotate_left 1
          · (intro W hSW; (try dsimp only at hSW); first | (go_simp; done) | (go_simp; with_reducible rfl))
          try simp only [Act.put, List.setIfInBounds_toArray, List.set_cons_zero, List.set_cons_succ]
          refine wpAnyH_ready (rs := [10]) (by kernel_rfl) (by simp) ?_
          refine (AllReadyH.cons (o := { dst := none, op := Op.store 28 (Operand.tmp 34) (Operand.tmp 33), type := 0, pos := "ref.go:90", after := #[{ on := 9, ground := Ground.data }, { on := 8, ground := Ground.data }, { on := 8, ground := Ground.chain }, { on := 0, ground := Ground.phase }, { on := 1, ground := Ground.phase }, { on := 2, ground := Ground.phase }, { on := 3, ground := Ground.phase }, { on := 4, ground := Ground.phase }, { on := 5, ground := Ground.phase }, { on := 6, ground := Ground.phase }, { on := 7, ground := Ground.phase }, { on := 8, ground := Ground.phase }], guard := none }) rfl (fun K hK => ?_) AllReadyH.nil)
          rw [if_pos (by rfl)]
          go_simp
          have hst := HBX2.out.step haA hgrow6 hown'
          have hgs := HBX2.out.grows2 hst HE.out HB0'.out haA hgrow6
          refine hK.out _ _ (HS.out _ hgs) (fun hHeld => ?_)
          clear hK K
          try simp only [Act.put, List.setIfInBounds_toArray, List.set_cons_zero, List.set_cons_succ]
          refine wpAnyH_done (by kernel_rfl) ?_ _
          have hEND := hgs
          clear hHeld
          have HE2 := Lib.hid (And.intro hst hgs)
          clear hst hgs hs1 hs2 hgrow6 hown' hat6 haA hnA HBA hgA hg6 hEND
          go_wp2_with fail
          go_roundg (n - (i + 1))
          case measure => rw [HI.out]; omega
          case rel => exact ⟨i + 1, _, rfl, rfl, by omega, by rw [HLS.out]; exact HE2.out.1, HE2.out.2⟩
    · have hie : i = n := by omega
      subst hie
      have hinB : decide (i < i) = false := by simp
      have HL : Hid (lacks (xs.take i) ys = lacks xs ys) := Lib.hid (by rw [List.take_of_length_le (by rw [HH.out.2.1]; exact Nat.le_refl _)])
      obtain ⟨p, hp⟩ : ∃ p, (lacks (xs.take i) ys).length = p := ⟨_, rfl⟩
      have HP := Lib.hid hp
      have r0 := HBX.out.c0
      have r1 := HBX.out.row
      have m0 := HWR.out.cell hcs.2.2.2.2.2.1 (by simp)
      have m1 := HWR.out.cell hcs.2.2.2.2.2.2.1 (by simp)
      have f0 := (grown_frozen HWR.out (show w.heap.size + 2 < W.heap.size by have := HSZ.out; omega) 0).trans hcs.2.2.2.2.2.2.2.1
      have f1 := (grown_frozen HWR.out (show w.heap.size + 2 < W.heap.size by have := HSZ.out; omega) 1).trans hcs.2.2.2.2.2.2.2.2
      rw [hp] at r1
      clear hp hcs
      go_wp2_with fail
      refine bodyPost_ret (results111 _ _ (w.heap.size + 2) va p vc k rfl (by rw [World.cell?_setCell_other _ _ _ _ (by intro e; injection e with _ e; cases e)]; exact World.cell?_setCell_same _ _ _ m0) (World.cell?_setCell_same _ _ _ (by rw [World.cell?_setCell_other _ _ _ _ (by intro e; injection e with _ e; cases e)]; exact m1))) rfl ⟨va, vc, by rw [← HL.out, HP.out], ?_⟩
      exact grown_own (grown_own (HG.out.trans HWR.out) (grown_set _ (w.heap.size + 2) 0 _) (fun k hk => by cases hk; omega)) (grown_set _ (w.heap.size + 2) 1 _) (fun k hk => by cases hk; omega)

set_option maxRecDepth 100000 in
set_option maxHeartbeats 2000000 in
theorem rIn_calls (k k' : Int) (xs ys : List Int) (xa ya : Option Addr) (xc yc : Nat) (w : World) (h : IntsW w xa xc xs) (h' : IntsW w ya yc ys) (hl : xs.length ≤ 100000) (hl' : ys.length ≤ 100000) (hu : Up ys) :
    Calls Try.prog 58 #[.agg #[.int .i64 k, .slice xa xs.length xc], .agg #[.int .i64 k', .slice ya ys.length yc]] w fun e w' => e = .returned (.bool (decide (lacks xs ys = []))) ∧ w.grownBy w' none := by
  have hg1 := World.grownBy_alloc w (.cells #[.int .i64 k, .slice xa xs.length xc] 53) none
  have hg2 := World.grownBy_alloc (w.alloc (.cells #[.int .i64 k, .slice xa xs.length xc] 53)) (.cells #[.int .i64 k', .slice ya ys.length yc] 53) none
  have hg := hg1.trans hg2
  have HD := Lib.hid (And.intro (rDiff_calls k k' xs ys xa ya xc yc _ (h.grown hg) (h'.grown hg) hl hl' hu) hg)
  obtain ⟨n, hn⟩ : ∃ n, xs.length = n := ⟨_, rfl⟩
  obtain ⟨m, hm⟩ : ∃ m, ys.length = m := ⟨_, rfl⟩
  rw [hn, hm] at HD ⊢
  obtain ⟨p, hp⟩ : ∃ p, (lacks xs ys).length = p := ⟨_, rfl⟩
  rw [hp] at HD
  have HP : Hid (decide (lacks xs ys = []) = decide (p = 0)) := Lib.hid (by rw [← hp]; congr 1; simp [List.length_eq_zero_iff])
  clear hg hg1 hg2 hn hm h h' hl hl' hp hu
  go_enter Try.func58, Try.ntmps58
  go_wp2_with fail
  refine HD.out.1.mono ?_
  rintro e w1 ⟨a', c', rfl, g1⟩
  have HG := Lib.hid (HD.out.2.trans g1); clear g1
  have hf := field53 k a' p c'
  by_cases hp0 : p = 0
  · have f0 : ((p : Int) == 0) = true := by simp; omega
    have HPP : Hid (decide (lacks xs ys = []) = true) := Lib.hid (by rw [HP.out]; simpa using hp0)
    clear hp0
    go_wp2_with fail
    go_ret
    exact ⟨by rw [HPP.out]; rfl, HG.out⟩
  · have f0 : ((p : Int) == 0) = false := by simp; omega
    have HPP : Hid (decide (lacks xs ys = []) = false) := Lib.hid (by rw [HP.out]; simpa using hp0)
    clear hp0
    go_wp2_with fail
    go_ret
    exact ⟨by rw [HPP.out]; rfl, HG.out⟩
end Go.Proofs.Ytbddpjofhddilaa
/- Which specifications and scopes fit. -/
namespace Go.Proofs.Ytbddpjofhddilaa
open Go.RowKit

def fieldOk (ns : Nat) (f : Fd) : Bool := decide (1 ≤ f.2.1.length) && decide (f.2.1.length ≤ 3) && f.2.1.all fun s => decide (0 ≤ s) && decide (s < (ns : Int))
def fitsS (ns : Nat) (F : List Fd) (zs : List Int) (st : Int) : Bool := decide (1 ≤ ns) && decide (ns ≤ 4) && decide (F.length ≤ 6) && decide (zs.length ≤ 4) && F.all (fieldOk ns) && validI ns zs st
theorem fieldOk_iff {ns : Nat} {f : Fd} : fieldOk ns f = true ↔ (1 ≤ f.2.1.length ∧ f.2.1.length ≤ 3) ∧ ∀ s ∈ f.2.1, 0 ≤ s ∧ s < (ns : Int) := by
  simp [fieldOk, and_assoc]
theorem fitsS_iff {ns : Nat} {F : List Fd} {zs : List Int} {st : Int} : fitsS ns F zs st = true ↔ (1 ≤ ns ∧ ns ≤ 4 ∧ F.length ≤ 6 ∧ zs.length ≤ 4) ∧ (∀ f ∈ F, fieldOk ns f = true) ∧ validI ns zs st = true := by
  simp [fitsS, and_assoc]
theorem fitsS_not {ns : Nat} {F : List Fd} {zs : List Int} {st : Int} (h : ¬ ((1 ≤ ns ∧ ns ≤ 4 ∧ F.length ≤ 6 ∧ zs.length ≤ 4) ∧ (∀ f ∈ F, fieldOk ns f = true) ∧ validI ns zs st = true)) : fitsS ns F zs st = false := by
  cases hs : fitsS ns F zs st with
  | false => rfl
  | true => exact absurd (fitsS_iff.1 hs) h

set_option maxRecDepth 100000 in
set_option maxHeartbeats 8000000 in
theorem fitsS_calls (s1 fa s3 s4 : Option Addr) (ns c1 fc n3 c3 n4 c4 : Nat) (F : List Fd) (zs : List Int) (za : Option Addr) (zc : Nat) (st : Int) (w : World) (hF : Fields w fa fc F) (hz : Ints w za zc zs) (hzl : (zs.length : Int) ≤ 9223372036854775807) (hFl : (F.length : Int) ≤ 9223372036854775807) :
    Calls Try.prog 40 #[.agg #[.slice s1 ns c1, .slice fa F.length fc, .slice s3 n3 c3, .slice s4 n4 c4], .agg #[.slice za zs.length zc, .int .i64 st]] w
      fun e w' => e = .returned (.bool (fitsS ns F zs st)) ∧ w.grownBy w' none := by
  have HV := Lib.hid (fun (W : World) (g : w.grownBy W none) (hl : zs.length ≤ 1000000) => rValid_calls s1 ns c1 fa s3 s4 F.length fc n3 c3 n4 c4 zs za zc st W (hz.grown g) hl)
  obtain ⟨f, hf⟩ : ∃ f, F.length = f := ⟨_, rfl⟩
  obtain ⟨m, hm⟩ : ∃ m, zs.length = m := ⟨_, rfl⟩
  have hg := (World.grownBy_alloc w (.cells #[.slice s1 ns c1, .slice fa f fc, .slice s3 n3 c3, .slice s4 n4 c4] 27) none).trans (World.grownBy_alloc _ (.cells #[.slice za m zc, .int .i64 st] 30) none)
  have k0 : ((w.alloc (.cells #[.slice s1 ns c1, .slice fa f fc, .slice s3 n3 c3, .slice s4 n4 c4] 27)).alloc (.cells #[.slice za m zc, .int .i64 st] 30)).cell? ⟨w.heap.size, 0, none⟩ = some (.slice s1 ns c1) := by go_simp
  have k1 : ((w.alloc (.cells #[.slice s1 ns c1, .slice fa f fc, .slice s3 n3 c3, .slice s4 n4 c4] 27)).alloc (.cells #[.slice za m zc, .int .i64 st] 30)).cell? ⟨w.heap.size, 1, none⟩ = some (.slice fa f fc) := by go_simp
  have k2 : ((w.alloc (.cells #[.slice s1 ns c1, .slice fa f fc, .slice s3 n3 c3, .slice s4 n4 c4] 27)).alloc (.cells #[.slice za m zc, .int .i64 st] 30)).cell? ⟨w.heap.size, 2, none⟩ = some (.slice s3 n3 c3) := by go_simp
  have k3 : ((w.alloc (.cells #[.slice s1 ns c1, .slice fa f fc, .slice s3 n3 c3, .slice s4 n4 c4] 27)).alloc (.cells #[.slice za m zc, .int .i64 st] 30)).cell? ⟨w.heap.size, 3, none⟩ = some (.slice s4 n4 c4) := by go_simp
  have k4 : ((w.alloc (.cells #[.slice s1 ns c1, .slice fa f fc, .slice s3 n3 c3, .slice s4 n4 c4] 27)).alloc (.cells #[.slice za m zc, .int .i64 st] 30)).cell? ⟨w.heap.size + 1, 0, none⟩ = some (.slice za m zc) := by go_simp
  have k5 : ((w.alloc (.cells #[.slice s1 ns c1, .slice fa f fc, .slice s3 n3 c3, .slice s4 n4 c4] 27)).alloc (.cells #[.slice za m zc, .int .i64 st] 30)).cell? ⟨w.heap.size + 1, 1, none⟩ = some (.int .i64 st) := by go_simp
  rw [hm] at hzl
  rw [hf] at hFl
  rw [hf, hm] at HV ⊢
  have HX := Lib.hid (And.intro (hF.grown hg) (And.intro hf hm))
  clear hF hz hf hm
  obtain ⟨W, hW⟩ : ∃ W, (w.alloc (.cells #[.slice s1 ns c1, .slice fa f fc, .slice s3 n3 c3, .slice s4 n4 c4] 27)).alloc (.cells #[.slice za m zc, .int .i64 st] 30) = W := ⟨_, rfl⟩
  rw [hW] at hg k0 k1 k2 k3 k4 k5 HX
  have HG := Lib.hid hg; clear hg
  by_cases q0 : ns = 0
  · have f0 : ((ns : Int) == 0) = true := by simp; omega
    have HR : Hid (fitsS ns F zs st = false) := Lib.hid (fitsS_not (by rintro ⟨h, _⟩; omega))
    clear q0
    go_enter Try.func40, Try.ntmps40
    go_wp2_with fail
    go_ret
    exact ⟨by rw [HR.out]; rfl, HG.out⟩
  have f0 : ((ns : Int) == 0) = false := by simp; omega
  by_cases q1 : 4 < ns
  · have f1 : decide (4 < (ns : Int)) = true := by simp; omega
    have g1 : decide (4 < ns) = true := by simp; omega
    have HR : Hid (fitsS ns F zs st = false) := Lib.hid (fitsS_not (by rintro ⟨h, _⟩; omega))
    clear q0 q1
    go_enter Try.func40, Try.ntmps40
    go_wp2_with fail
    go_ret
    exact ⟨by rw [HR.out]; rfl, HG.out⟩
  have f1 : decide (4 < (ns : Int)) = false := by simp; omega
  have g1 : decide (4 < ns) = false := by simp; omega
  by_cases q2 : 6 < f
  · have f2 : decide (6 < (f : Int)) = true := by simp; omega
    have g2 : decide (6 < f) = true := by simp; omega
    have HR : Hid (fitsS ns F zs st = false) := Lib.hid (fitsS_not (by rintro ⟨h, _⟩; have := HX.out.2.1; omega))
    clear q0 q1 q2
    go_enter Try.func40, Try.ntmps40
    go_wp2_with fail
    go_ret
    exact ⟨by rw [HR.out]; rfl, HG.out⟩
  have f2 : decide (6 < (f : Int)) = false := by simp; omega
  have g2 : decide (6 < f) = false := by simp; omega
  by_cases q3 : 4 < m
  · have f3 : decide (4 < (m : Int)) = true := by simp; omega
    have g3 : decide (4 < m) = true := by simp; omega
    have HR : Hid (fitsS ns F zs st = false) := Lib.hid (fitsS_not (by rintro ⟨h, _⟩; have := HX.out.2.2; omega))
    clear q0 q1 q2 q3
    go_enter Try.func40, Try.ntmps40
    go_wp2_with fail
    go_ret
    exact ⟨by rw [HR.out]; rfl, HG.out⟩
  have f3 : decide (4 < (m : Int)) = false := by simp; omega
  have g3 : decide (4 < m) = false := by simp; omega
  have HQ := Lib.hid (show 1 ≤ ns ∧ ns ≤ 4 ∧ f ≤ 6 ∧ m ≤ 4 by omega)
  have hf6 : f ≤ 6 := by omega
  have hns4 : ns ≤ 4 := by omega
  clear q0 q1 q2 q3
  go_enter Try.func40, Try.ntmps40
  go_wp2_with fail
  clear hW f0 f1 f2 f3 g1 g2 g3
  go_loopg [5, 6, 7] f (fun g s5 s6 s7 wr => ∃ i : Nat, s5 = .int .i64 (i : Int) ∧ g = f - i ∧ i ≤ f ∧ (∀ fd ∈ F.take i, fieldOk ns fd = true) ∧ W.grownBy wr none)
  case atStart => exact ⟨0, rfl, rfl, Nat.zero_le _, fun fd h => by simp at h, grown_refl _ _⟩
  case round =>
    obtain ⟨i, rfl, hgk, hi, hok, hgr⟩ := hrel
    have HI := Lib.hid (And.intro hgk (And.intro hok hgr)); clear hgk hok
    have k0 := hgr.cell k0 (by simp)
    have k1 := hgr.cell k1 (by simp)
    have k2 := hgr.cell k2 (by simp)
    have k3 := hgr.cell k3 (by simp)
    have k4 := hgr.cell k4 (by simp)
    have k5 := hgr.cell k5 (by simp)
    clear hgr
    by_cases hin : i < f
    · have hinB : decide (i < f) = true := by simpa using hin
      have hinI : (i : Int) < (f : Int) := by omega
      obtain ⟨fd, hx⟩ : ∃ fd, F[i]? = some fd := ⟨_, List.getElem?_eq_getElem (by rw [HX.out.2.1]; exact hin)⟩
      obtain ⟨b, o, rfl, e0, ⟨ta, tc, e1, ht⟩, e2⟩ := (HX.out.1.grown HI.out.2.2).2 i fd hx
      obtain ⟨ss, hss⟩ : ∃ ss, fd.2.1 = ss := ⟨_, rfl⟩
      obtain ⟨p, hp⟩ : ∃ p, ss.length = p := ⟨_, rfl⟩
      rw [hss] at ht
      rw [hss, hp] at e1
      have HFD := Lib.hid (And.intro hx (And.intro hss (And.intro hp ht)))
      clear hx hss hp ht e0 e2
      by_cases p0 : p < 1
      · have b0 : decide ((p : Int) < 1) = true := by simp; omega
        have b0' : decide (p < 1) = true := by simp; omega
        have HR : Hid (fitsS ns F zs st = false) := Lib.hid (fitsS_not (by
          rintro ⟨_, h, _⟩
          have h1 := (fieldOk_iff.1 (h fd (List.mem_of_getElem? HFD.out.1))).1
          rw [HFD.out.2.1, HFD.out.2.2.1] at h1
          omega))
        go_wp2_with fail
        go_ret
        exact ⟨by rw [HR.out]; rfl, HG.out.trans HI.out.2.2⟩
      have b0 : decide ((p : Int) < 1) = false := by simp; omega
      have b0' : decide (p < 1) = false := by simp; omega
      by_cases p1 : 3 < p
      · have b1 : decide (3 < (p : Int)) = true := by simp; omega
        have b1' : decide (3 < p) = true := by simp; omega
        have HR : Hid (fitsS ns F zs st = false) := Lib.hid (fitsS_not (by
          rintro ⟨_, h, _⟩
          have h1 := (fieldOk_iff.1 (h fd (List.mem_of_getElem? HFD.out.1))).1
          rw [HFD.out.2.1, HFD.out.2.2.1] at h1
          omega))
        go_wp2_with fail
        go_ret
        exact ⟨by rw [HR.out]; rfl, HG.out.trans HI.out.2.2⟩
      have b1 : decide (3 < (p : Int)) = false := by simp; omega
      have b1' : decide (3 < p) = false := by simp; omega
      have hp3 : p ≤ 3 := by omega
      have HP := Lib.hid (show 1 ≤ p ∧ p ≤ 3 by omega)
      clear p0 p1
      go_wp2_with fail
      clear b0 b0' b1 b1'
      obtain ⟨wo, rfl⟩ : ∃ wo, wo = wr := ⟨_, rfl⟩
      go_loopg [7] p (fun g s7 wr => ∃ j : Nat, s7 = .int .i64 (j : Int) ∧ g = p - j ∧ j ≤ p ∧ (∀ s ∈ ss.take j, 0 ≤ s ∧ s < (ns : Int)) ∧ ∃ q, wr = wo.drewN q)
      case atStart => exact ⟨0, rfl, rfl, Nat.zero_le _, fun s h => by simp at h, 0, rfl⟩
      case round =>
        obtain ⟨j, rfl, hgj, hjp, hok, q, rfl⟩ := hrel
        have HJ := Lib.hid (And.intro hgj hok); clear hgj hok
        by_cases hjn : j < p
        · have hjB : decide (j < p) = true := by simpa using hjn
          have hjI : (j : Int) < (p : Int) := by omega
          obtain ⟨s, hs⟩ : ∃ s, ss[j]? = some s := ⟨_, List.getElem?_eq_getElem (by rw [HFD.out.2.2.1]; exact hjn)⟩
          obtain ⟨sb, so, rfl, hcell⟩ := HFD.out.2.2.2.at hs
          have HS := Lib.hid hs; clear hs
          by_cases s0 : s < 0
          · have c0 : decide (s < 0) = true := decide_eq_true s0
            have HR : Hid (fitsS ns F zs st = false) := Lib.hid (fitsS_not (by
              rintro ⟨_, h, _⟩
              have h1 := (fieldOk_iff.1 (h fd (List.mem_of_getElem? HFD.out.1))).2 s (by rw [HFD.out.2.1]; exact List.mem_of_getElem? HS.out)
              omega))
            clear s0
            go_wp2_with fail
            go_quiet (fail)
            go_wp2_with fail
            go_ret
            exact ⟨by rw [HR.out]; rfl, (HG.out.trans HI.out.2.2).trans ((grown_drewN _ _ _).trans (grown_drewN _ _ _))⟩
          have c0 : decide (s < 0) = false := decide_eq_false s0
          by_cases s1' : (ns : Int) ≤ s
          · have c1 : decide ((ns : Int) ≤ s) = true := decide_eq_true s1'
            have HR : Hid (fitsS ns F zs st = false) := Lib.hid (fitsS_not (by
              rintro ⟨_, h, _⟩
              have h1 := (fieldOk_iff.1 (h fd (List.mem_of_getElem? HFD.out.1))).2 s (by rw [HFD.out.2.1]; exact List.mem_of_getElem? HS.out)
              omega))
            clear s0 s1'
            go_wp2_with fail
            go_quiet (fail)
            go_wp2_with fail
            go_ret
            exact ⟨by rw [HR.out]; rfl, (HG.out.trans HI.out.2.2).trans ((grown_drewN _ _ _).trans (grown_drewN _ _ _))⟩
          have c1 : decide ((ns : Int) ≤ s) = false := decide_eq_false s1'
          have HS2 := Lib.hid (show 0 ≤ s ∧ s < (ns : Int) by omega)
          clear s0 s1'
          go_wp2_with fail
          go_quiet (fail)
          go_wp2_with fail
          go_roundg (p - (j + 1))
          case measure => rw [HJ.out.1]; omega
          case rel => exact ⟨j + 1, rfl, rfl, by omega, fun y hy => by
            rw [List.take_add_one, HS.out, Option.toList_some, List.mem_append, List.mem_singleton] at hy
            rcases hy with hy | rfl
            · exact HJ.out.2 y hy
            · exact HS2.out, _, rfl⟩
        · have hje : j = p := by omega
          subst hje
          have hjB : decide (j < j) = false := by simp
          have HOK : Hid (fieldOk ns fd = true) := Lib.hid (fieldOk_iff.2 ⟨by rw [HFD.out.2.1, HFD.out.2.2.1]; exact HP.out, fun s hs => by
            rw [HFD.out.2.1] at hs
            have h1 := HJ.out.2
            rw [List.take_of_length_le (by rw [HFD.out.2.2.1]; exact Nat.le_refl _)] at h1
            exact h1 s hs⟩)
          go_wp2_with fail
          go_roundg (f - (i + 1))
          case measure => rw [HI.out.1]; omega
          case rel => exact ⟨i + 1, rfl, rfl, by omega, fun y hy => by
            rw [List.take_add_one, HFD.out.1, Option.toList_some, List.mem_append, List.mem_singleton] at hy
            rcases hy with hy | rfl
            · exact HI.out.2.1 y hy
            · exact HOK.out, HI.out.2.2.trans (grown_drewN _ _ _)⟩
    · have hie : i = f := by omega
      subst hie
      have hinB : decide (i < i) = false := by simp
      have HR : Hid (fitsS ns F zs st = validI ns zs st) := Lib.hid (by
        cases hv : validI ns zs st with
        | false => exact fitsS_not (by rintro ⟨_, _, h⟩; rw [hv] at h; cases h)
        | true =>
          refine fitsS_iff.2 ⟨by rw [HX.out.2.1, HX.out.2.2]; exact HQ.out, fun fd hfd => ?_, hv⟩
          have h1 := HI.out.2.1
          rw [List.take_of_length_le (by rw [HX.out.2.1]; exact Nat.le_refl _)] at h1
          exact h1 fd hfd)
      have HVV := Lib.hid (HV.out wr (HG.out.trans HI.out.2.2) (by have := HX.out.2.2; have := HQ.out; omega))
      go_wp2_with fail
      refine HVV.out.mono ?_
      rintro e w9 ⟨rfl, g9⟩
      have HG9 := Lib.hid ((HG.out.trans HI.out.2.2).trans g9); clear g9
      clear k0 k1 k2 k3 k4 k5
      go_wp2_with fail
      go_ret
      exact ⟨by rw [HR.out]; rfl, HG9.out⟩
end Go.Proofs.Ytbddpjofhddilaa

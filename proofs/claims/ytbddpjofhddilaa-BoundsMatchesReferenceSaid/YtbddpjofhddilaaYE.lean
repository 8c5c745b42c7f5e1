/- Rows put in order by the reference; its union. -/
import Derived.Test.YtbddpjofhddilaaYD
import Derived.Deep.RegionHeld3
namespace Go.Proofs.Ytbddpjofhddilaa
open Go.RowKit

theorem results127 (tmps : Array Value) (w : World) (b : Nat) (a : Option Addr) (n c : Nat) (x : Int) (ht : tmps.getD 4 undef = .pointer (some ⟨b, 0, none⟩)) (h0 : w.cell? ⟨b, 0, none⟩ = some (.int .i64 x)) (h1 : w.cell? ⟨b, 1, none⟩ = some (.slice a n c)) :
    (results Try.f127 tmps).run Try.prog w = .ok (.agg #[.int .i64 x, .slice a n c]) w := by
  have ht' : tmps[4]?.getD undef = .pointer (some ⟨b, 0, none⟩) := by simpa using ht
  simp [results, ht', go_sem, h0, h1, Result.andThen]


/-- A relation that is being put together, in its box. -/
structure OfBox (B : Nat) (w : World) (k : Int) (va : Option Addr) (vc : Nat) (l : List Int) : Prop where
  c0 : w.cell? ⟨B, 0, none⟩ = some (.int .i64 k)
  c1 : w.cell? ⟨B, 1, none⟩ = some (.slice va l.length vc)
  f1 : w.frozen? ⟨B, 1, none⟩ = false
  sp : Span (B + 1) w.heap.size w (fun W => IntsW W va vc l)
theorem OfBox.low {B : Nat} {w : World} {k : Int} {va : Option Addr} {vc : Nat} {l : List Int} (h : OfBox B w k va vc l) : B + 1 ≤ w.heap.size := lies_lt h.c0
theorem OfBox.grown {B : Nat} {w w' : World} {k : Int} {va : Option Addr} {vc : Nat} {l : List Int} (h : OfBox B w k va vc l) (hg : w.grownBy w' none) : OfBox B w' k va vc l :=
  ⟨hg.cell h.c0 (by simp), hg.cell h.c1 (by simp), (grown_frozen hg h.low 1).trans h.f1, (h.sp.grown hg).wide (Nat.le_refl _) hg.size (Nat.le_refl _)⟩
theorem OfBox.set {B : Nat} {w : World} {k : Int} {va va' : Option Addr} {vc vc' : Nat} {l l' : List Int} (h : OfBox B w k va vc l) (hs : Span (B + 1) w.heap.size w (fun W => IntsW W va' vc' l')) : OfBox B (w.setCell ⟨B, 1, none⟩ (.slice va' l'.length vc')) k va' vc' l' := by
  refine ⟨?_, ?_, ?_, ?_⟩
  · rw [World.cell?_setCell_other _ _ _ _ (by intro e; injection e with _ e; cases e)]; exact h.c0
  · exact World.cell?_setCell_same _ _ _ h.c1
  · rw [World.frozen?_setCell]; exact h.f1
  · have hz : (w.setCell ⟨B, 1, none⟩ (.slice va' l'.length vc')).heap.size = w.heap.size := by simp [World.setCell]
    rw [hz]
    exact hs.off (grown_set _ B 1 _) (fun x e => by cases e; exact .inl (Nat.lt_succ_self _))
theorem OfBox.new (w : World) (k : Int) : OfBox w.heap.size (w.alloc (.cells #[.int .i64 k, .slice none 0 0] 53)) k none 0 [] :=
  ⟨by go_simp, by go_simp, by go_simp, ⟨by simp, fun W _ => intsW_nil W none 0⟩⟩

set_option maxRecDepth 100000 in
set_option maxHeartbeats 8000000 in
theorem of_calls (k : Int) (rs : List Int) (ra : Option Addr) (rc : Nat) (w : World) (h : IntsW w ra rc rs) (hl : rs.length ≤ 10000) :
    Calls Try.prog 127 #[.int .i64 k, .slice ra rs.length rc] w fun e w' => ∃ a c, e = .returned (.agg #[.int .i64 k, .slice a (ofTo rs rs.length).length c]) ∧ Span w.heap.size w'.heap.size w' (fun W => IntsW W a c (ofTo rs rs.length)) ∧ w.grownBy w' none := by
  obtain ⟨n, hn⟩ : ∃ n, rs.length = n := ⟨_, rfl⟩
  have hg := World.grownBy_alloc w (.cells #[.int .i64 0, .slice none 0 0] 53) none
  have e0 : (w.alloc (.cells #[.int .i64 0, .slice none 0 0] 53)).cell? ⟨w.heap.size, 0, none⟩ = some (.int .i64 0) := by go_simp
  have e1 : (w.alloc (.cells #[.int .i64 0, .slice none 0 0] 53)).cell? ⟨w.heap.size, 1, none⟩ = some (.slice none 0 0) := by go_simp
  have ef0 : (w.alloc (.cells #[.int .i64 0, .slice none 0 0] 53)).frozen? ⟨w.heap.size, 0, none⟩ = false := by go_simp
  have ef1 : (w.alloc (.cells #[.int .i64 0, .slice none 0 0] 53)).frozen? ⟨w.heap.size, 1, none⟩ = false := by go_simp
  obtain ⟨W, hW⟩ : ∃ W, w.alloc (.cells #[.int .i64 0, .slice none 0 0] 53) = W := ⟨_, rfl⟩
  have hsz : W.heap.size = w.heap.size + 1 := by rw [← hW]; simp
  rw [hW] at hg e0 e1 ef0 ef1
  have HH := Lib.hid (And.intro (h.grown hg) hn)
  rw [hn] at hl ⊢
  clear h hn
  have HG := Lib.hid hg; clear hg
  have HC := Lib.hid (And.intro e0 (And.intro e1 (And.intro ef0 ef1)))
  have HB0 := Lib.hid (OfBox.new W k)
  have HG0 := Lib.hid (World.grownBy_alloc W (.cells #[.int .i64 k, .slice none 0 0] 53) none)
  have HSZ := Lib.hid hsz; clear hsz
  go_enter Try.func127, Try.ntmps127
  go_wp2_with fail
  clear hW e0 e1 ef0 ef1
  obtain ⟨W1, hW1⟩ : ∃ W1, W.alloc (.cells #[.int .i64 k, .slice none 0 0] 53) = W1 := ⟨_, rfl⟩
  rw [hW1] at HB0 HG0 ⊢
  clear hW1
  go_loopg [6] n (fun g s6 wr => ∃ (i : Nat) (va : Option Addr) (vc : Nat), s6 = .int .i64 (i : Int) ∧ g = n - i ∧ i ≤ n ∧ OfBox W.heap.size wr k va vc (ofTo rs i) ∧ W.grownBy wr none)
  case atStart => exact ⟨0, none, 0, rfl, rfl, Nat.zero_le _, HB0.out, HG0.out⟩
  case round =>
    obtain ⟨i, va, vc, rfl, hgk, hi, hbx, hgr⟩ := hrel
    have HBX := Lib.hid hbx; clear hbx
    have HWR := Lib.hid hgr; clear hgr
    have HI := Lib.hid hgk; clear hgk
    by_cases hin : i < n
    · have hinB : decide (i < n) = true := by simpa using hin
      have hinI : (i : Int) < (n : Int) := by omega
      obtain ⟨z, hz⟩ : ∃ z, rs[i]? = some z := ⟨_, List.getElem?_eq_getElem (by rw [HH.out.2]; exact hin)⟩
      obtain ⟨b, o, rfl, hcell0⟩ := HH.out.1.at hz
      have HNX := Lib.hid (ofTo_next hz)
      have HLE := Lib.hid (ofTo_len (rs := rs) (i := i))
      have HAD := Lib.hid (fun (U : World) (g : wr.grownBy U none) => add_calls (ofTo rs i) va vc (W.heap.size + 1) z U (HBX.out.grown g).sp (HBX.out.grown g).low (by have := HLE.out; omega) ofTo_up)
      rw [← HNX.out] at HAD
      clear hz
      obtain ⟨p, hp⟩ : ∃ p, (ofTo rs i).length = p := ⟨_, rfl⟩
      obtain ⟨p2, hp2⟩ : ∃ p, (ofTo rs (i + 1)).length = p := ⟨_, rfl⟩
      rw [hp, hp2] at HAD
      have HP := Lib.hid (And.intro hp hp2); clear hp hp2
      go_wp2_with fail
      have HS := Lib.hid (fun (Wh : World) (hWh : W.grownBy Wh none) => (⟨hWh, hWh.cell hcell0 (by simp)⟩ : (fun Wh : World => W.grownBy Wh none ∧ Wh.cell? ⟨b, o + i, none⟩ = some (.int .i64 z)) Wh))
      have hdr : W.grownBy wr.drew none := World.grownBy.trans HWR.out (⟨rfl, rfl, rfl, Nat.le_refl _, fun _ _ _ => rfl⟩ : wr.grownBy wr.drew none)
      refine wp_region_held_drew (S := (fun Wh : World => W.grownBy Wh none ∧ Wh.cell? ⟨b, o + i, none⟩ = some (.int .i64 z))) (by kernel_rfl) (HS.out _ hdr) (fun hHeld => ?_)
      refine wpAnyH_take (i := 0) (oi := { dst := some 15, op := Op.fieldAddr 53 (Operand.tmp 5) 1, type := 0, pos := "ref.go:62", after := #[], guard := none }) (v := ?_) rfl (by kernel_rfl) (by kernel_rfl) (by kernel_rfl) (fun _ _ _ h => h) (Or.inl ⟨by rfl, ?_⟩) (by assumption) ?_
      rotate_left 1
      · (intro W hSW; (try dsimp only at hSW); first | (go_simp; done) | (go_simp; with_reducible rfl))
      try simp only [Act.put, List.setIfInBounds_toArray, List.set_cons_zero, List.set_cons_succ]
      refine wpAnyH_take (i := 2) (oi := { dst := some 17, op := Op.move (Operand.tmp 1), type := 28, pos := "ref.go:62", after := #[], guard := none }) (v := ?_) rfl (by kernel_rfl) (by kernel_rfl) (by kernel_rfl) (fun _ _ _ h => h) (Or.inl ⟨by rfl, ?_⟩) (by assumption) ?_
      rotate_left 1
      · (intro W hSW; (try dsimp only at hSW); first | (go_simp; done) | (go_simp; with_reducible rfl))
      try simp only [Act.put, List.setIfInBounds_toArray, List.set_cons_zero, List.set_cons_succ]
      refine wpAnyH_take (i := 3) (oi := { dst := some 18, op := Op.move (Operand.tmp 6), type := 3, pos := "ref.go:62", after := #[], guard := none }) (v := ?_) rfl (by kernel_rfl) (by kernel_rfl) (by kernel_rfl) (fun _ _ _ h => h) (Or.inl ⟨by rfl, ?_⟩) (by assumption) ?_
      rotate_left 1
      · (intro W hSW; (try dsimp only at hSW); first | (go_simp; done) | (go_simp; with_reducible rfl))
      try simp only [Act.put, List.setIfInBounds_toArray, List.set_cons_zero, List.set_cons_succ]
      refine wpAnyH_take (i := 4) (oi := { dst := some 19, op := Op.indexAddr 28 (Operand.tmp 17) (Operand.tmp 18), type := 0, pos := "ref.go:62", after := #[{ on := 2, ground := Ground.data }, { on := 3, ground := Ground.data }], guard := none }) (v := ?_) rfl (by kernel_rfl) (by kernel_rfl) (by kernel_rfl) (fun _ _ _ h => h) (Or.inl ⟨by rfl, ?_⟩) (by assumption) ?_
      rotate_left 1
      · (intro W hSW; (try dsimp only at hSW); first | (go_simp; done) | (go_simp; with_reducible rfl))
      try simp only [Act.put, List.setIfInBounds_toArray, List.set_cons_zero, List.set_cons_succ]
      refine wpAnyH_take (i := 5) (oi := { dst := some 20, op := Op.load 3 (Operand.tmp 19), type := 3, pos := "ref.go:62", after := #[{ on := 4, ground := Ground.data }], guard := none }) (v := ?_) rfl (by kernel_rfl) (by kernel_rfl) (by kernel_rfl) (fun _ _ _ h => h) (Or.inl ⟨by rfl, ?_⟩) (by assumption) ?_
      rotate_left 1
      · (intro W hSW; (try dsimp only at hSW); first | (go_simp; done) | (go_simp; with_reducible rfl))
      try simp only [Act.put, List.setIfInBounds_toArray, List.set_cons_zero, List.set_cons_succ]
      refine wpAnyH_ready (rs := [1]) (by kernel_rfl) (by simp) ?_
      refine (AllReadyH.cons (o := { dst := some 16, op := Op.load 28 (Operand.tmp 15), type := 28, pos := "ref.go:62", after := #[{ on := 0, ground := Ground.data }], guard := none }) rfl (fun K hK => ?_) AllReadyH.nil)
      rw [if_pos (by rfl)]
      have hrow := HBX.out.c1
      rw [HP.out.1] at hrow
      go_simp
      clear hrow
      refine hK.out _ _ (HS.out _ hdr) (fun hHeld => ?_)
      clear hK K
      try simp only [Act.put, List.setIfInBounds_toArray, List.set_cons_zero, List.set_cons_succ]
      refine wpAnyH_ready (rs := [6]) (by kernel_rfl) (by simp) ?_
      refine (AllReadyH.cons (o := { dst := some 21, op := Op.call { callee := Callee.value (Operand.func 133), args := #[Operand.tmp 16, Operand.tmp 20], argTypes := #[28, 3] }, type := 28, pos := "ref.go:62", after := #[{ on := 1, ground := Ground.data }, { on := 5, ground := Ground.data }], guard := none }) rfl (fun K hK => ?_) AllReadyH.nil)
      rw [if_pos (by rfl)]
      go_simp
      go_at_call 133
      refine (HAD.out wr.drew (⟨rfl, rfl, rfl, Nat.le_refl _, fun _ _ _ => rfl⟩ : wr.grownBy wr.drew none)).mono ?_
      rintro e wc2 ⟨a', c', rfl, hsA, gc2⟩
      have hgr2 := World.grownBy.trans hdr gc2
      go_wp2_with fail
      refine hK.out _ _ (HS.out _ hgr2) (fun hHeld => ?_)
      clear hK K
      try simp only [Act.put, List.setIfInBounds_toArray, List.set_cons_zero, List.set_cons_succ]
      refine wpAnyH_take (i := 7) (oi := { dst := some 22, op := Op.fieldAddr 53 (Operand.tmp 5) 1, type := 0, pos := "ref.go:62", after := #[{ on := 0, ground := Ground.phase }, { on := 1, ground := Ground.phase }, { on := 2, ground := Ground.phase }, { on := 3, ground := Ground.phase }, { on := 4, ground := Ground.phase }, { on := 5, ground := Ground.phase }, { on := 6, ground := Ground.phase }], guard := none }) (v := ?_) rfl (by kernel_rfl) (by kernel_rfl) (by kernel_rfl) (fun _ _ _ h => h) (Or.inl ⟨by rfl, ?_⟩) (by assumption) ?_
      rotate_left 1
      · (intro W hSW; (try dsimp only at hSW); first | (go_simp; done) | (go_simp; with_reducible rfl))
      try simp only [Act.put, List.setIfInBounds_toArray, List.set_cons_zero, List.set_cons_succ]
      refine wpAnyH_ready (rs := [8]) (by kernel_rfl) (by simp) ?_
      refine (AllReadyH.cons (o := { dst := none, op := Op.store 28 (Operand.tmp 22) (Operand.tmp 21), type := 0, pos := "ref.go:62", after := #[{ on := 7, ground := Ground.data }, { on := 6, ground := Ground.data }, { on := 6, ground := Ground.chain }, { on := 0, ground := Ground.phase }, { on := 1, ground := Ground.phase }, { on := 2, ground := Ground.phase }, { on := 3, ground := Ground.phase }, { on := 4, ground := Ground.phase }, { on := 5, ground := Ground.phase }, { on := 6, ground := Ground.phase }], guard := none }) rfl (fun K hK => ?_) AllReadyH.nil)
      rw [if_pos (by rfl)]
      have hbg := HBX.out.grown (World.grownBy.trans (⟨rfl, rfl, rfl, Nat.le_refl _, fun _ _ _ => rfl⟩ : wr.grownBy wr.drew none) gc2)
      have q1 := hbg.c1
      have q2 := hbg.f1
      go_simp
      clear q1 q2
      have hst := hbg.set hsA
      rw [HP.out.2] at hst
      have hgs := grown_own hgr2 (grown_set wc2 W.heap.size 1 (.slice a' p2 c')) (fun k hk => by cases hk; exact Nat.le_refl _)
      clear hbg
      refine hK.out _ _ (HS.out _ hgs) (fun hHeld => ?_)
      clear hK K
      try simp only [Act.put, List.setIfInBounds_toArray, List.set_cons_zero, List.set_cons_succ]
      refine wpAnyH_done (by kernel_rfl) ?_ _
      have hEND := hgs
      clear hHeld
      have HE := Lib.hid (And.intro hst hgs)
      clear hst hgs hEND hsA
      go_wp2_with fail
      go_roundg (n - (i + 1))
      case measure => rw [HI.out]; omega
      case rel => exact ⟨i + 1, _, _, rfl, rfl, by omega, HE.out.1, HE.out.2⟩
    · have hie : i = n := by omega
      subst hie
      have hinB : decide (i < i) = false := by simp
      obtain ⟨p, hp⟩ : ∃ p, (ofTo rs i).length = p := ⟨_, rfl⟩
      have r0 := HBX.out.c0
      have r1 := HBX.out.c1
      have hcs := HC.out
      have m0 := HWR.out.cell hcs.1 (by simp)
      have m1 := HWR.out.cell hcs.2.1 (by simp)
      have f0 := (grown_frozen HWR.out (show w.heap.size < W.heap.size by have := HSZ.out; omega) 0).trans hcs.2.2.1
      have f1 := (grown_frozen HWR.out (show w.heap.size < W.heap.size by have := HSZ.out; omega) 1).trans hcs.2.2.2
      rw [hp] at r1
      clear hcs
      go_wp2_with fail
      refine bodyPost_ret (results127 _ _ w.heap.size va p vc k rfl (by rw [World.cell?_setCell_other _ _ _ _ (by intro e; injection e with _ e; cases e)]; exact World.cell?_setCell_same _ _ _ m0) (World.cell?_setCell_same _ _ _ (by rw [World.cell?_setCell_other _ _ _ _ (by intro e; injection e with _ e; cases e)]; exact m1))) rfl ⟨va, vc, by rw [hp], ?_, ?_⟩
      · have hz1 : (wr.setCell ⟨w.heap.size, 0, none⟩ (.int .i64 k)).heap.size = wr.heap.size := by simp [World.setCell]
        have hz2 : ((wr.setCell ⟨w.heap.size, 0, none⟩ (.int .i64 k)).setCell ⟨w.heap.size, 1, none⟩ (.slice va p vc)).heap.size = wr.heap.size := by simp [World.setCell]
        have h1 := (HBX.out.sp.off (grown_set _ w.heap.size 0 (.int .i64 k)) (fun x e => by cases e; have := HSZ.out; exact .inl (by omega))).off (grown_set _ w.heap.size 1 (.slice va p vc)) (fun x e => by cases e; have := HSZ.out; exact .inl (by omega))
        exact h1.wide (by have := HSZ.out; omega) (by rw [hz2]; exact Nat.le_refl _) (Nat.le_refl _)
      · exact grown_own (grown_own (HG.out.trans HWR.out) (grown_set _ w.heap.size 0 _) (fun k hk => by cases hk; omega)) (grown_set _ w.heap.size 1 _) (fun k hk => by cases hk; omega)
end Go.Proofs.Ytbddpjofhddilaa

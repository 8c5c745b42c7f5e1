/- Common texts of the laws of stage 9, joined: TZ VA. -/
import Derived.Test.YtbddpjofhddilaaN12
import Derived.Test.YtbddpjofhddilaaN07
import Derived.Test.YtbddpjofhddilaaN05
import Derived.Deep.RegionHeld3
import Derived.Test.YtbddpjofhddilaaN11
import Derived.Laws.OwnMore
/- The relations inside bounds that picks take. -/
namespace Go.Proofs.Ytbddpjofhddilaa
open Go.RowKit

/-- A row of bools that is read. -/
def Bools (w : World) (a : Option Addr) (c : Nat) (l : List Bool) : Prop := l.length ≤ c ∧ ∀ (j : Nat) (y : Bool), l[j]? = some y → ∃ b o, a = some ⟨b, o, none⟩ ∧ w.cell? ⟨b, o + j, none⟩ = some (.bool y)
theorem Bools.grown {w w' : World} {a : Option Addr} {c : Nat} {l : List Bool} (h : Bools w a c l) (hg : w.grownBy w' none) : Bools w' a c l :=
  ⟨h.1, fun j x hj => by obtain ⟨b, o, ha, h0⟩ := h.2 j x hj; exact ⟨b, o, ha, hg.cell h0 (by simp)⟩⟩
theorem insTo_in {lo hi : List Int} {picks : List Bool} {m k : Nat} {t : Int} (h : hi[k]? = some t) (ht : t ∈ lo) : insTo lo picks hi m (k + 1) = ((insTo lo picks hi m k).1 ++ [t], (insTo lo picks hi m k).2) := by
  rw [insTo, h]; simp only [if_pos ht]
theorem insTo_pick {lo hi : List Int} {picks : List Bool} {m k : Nat} {t : Int} (h : hi[k]? = some t) (ht : t ∉ lo) (hp : picks.getD (insTo lo picks hi m k).2 false = true) : insTo lo picks hi m (k + 1) = ((insTo lo picks hi m k).1 ++ [t], (insTo lo picks hi m k).2 + 1) := by
  rw [insTo, h]; simp only [if_neg ht, if_pos hp]
theorem insTo_skip {lo hi : List Int} {picks : List Bool} {m k : Nat} {t : Int} (h : hi[k]? = some t) (ht : t ∉ lo) (hp : picks.getD (insTo lo picks hi m k).2 false = false) : insTo lo picks hi m (k + 1) = ((insTo lo picks hi m k).1, (insTo lo picks hi m k).2 + 1) := by
  rw [insTo, h]; simp only [if_neg ht, hp]; rfl
theorem insTo_len (lo hi : List Int) (picks : List Bool) (m : Nat) : ∀ k, (insTo lo picks hi m k).1.length ≤ k ∧ (insTo lo picks hi m k).2 ≤ m + k
  | 0 => by simp [insTo]
  | k + 1 => by
    have ih := insTo_len lo hi picks m k
    rw [insTo]
    split
    · omega
    · split
      · constructor
        · simp only [List.length_append, List.length_cons, List.length_nil]; omega
        · simp only []; omega
      · split
        · constructor
          · simp only [List.length_append, List.length_cons, List.length_nil]; omega
          · simp only []; omega
        · constructor
          · simp only []; omega
          · simp only []; omega
theorem insAll_succ {picks : List Bool} {B : List Bd} {i : Nat} {x : Bd} (h : B[i]? = some x) : insAll picks B (i + 1) = ((insAll picks B i).1 ++ [(x.2.1, (insTo x.1.2 picks x.2.2 (insAll picks B i).2 x.2.2.length).1)], (insTo x.1.2 picks x.2.2 (insAll picks B i).2 x.2.2.length).2) := by
  rw [insAll, h]
theorem insAll_used {picks : List Bool} {B : List Bd} {M : Nat} (hx : ∀ x ∈ B, x.2.2.length ≤ M) : ∀ i, (insAll picks B i).2 ≤ i * M
  | 0 => by simp [insAll]
  | i + 1 => by
    have ih := insAll_used (picks := picks) hx i
    rw [Nat.succ_mul]
    cases h : B[i]? with
    | none => rw [insAll, h]; exact Nat.le_trans ih (Nat.le_add_right _ _)
    | some x =>
      rw [insAll_succ h]
      have h1 := (insTo_len x.1.2 x.2.2 picks (insAll picks B i).2 x.2.2.length).2
      have h2 := hx x (List.mem_of_getElem? h)
      exact Nat.le_trans h1 (Nat.add_le_add ih h2)
theorem lacks_one {t : Int} {lo : List Int} : decide (lacks [t] lo = []) = decide (t ∈ lo) := by
  by_cases h : t ∈ lo <;> simp [lacks, h]

set_option maxRecDepth 100000 in
set_option maxHeartbeats 16000000 in
theorem inside_calls (B : List Bd) (a : Option Addr) (c : Nat) (picks : List Bool) (pa : Option Addr) (pc : Nat) (w : World) (h : Bds w a c B) (hp : Bools w pa pc picks) (hl : B.length ≤ 100) (hx : ∀ x ∈ B, x.1.2.length ≤ 10000 ∧ x.2.2.length ≤ 10000) (hup : ∀ x ∈ B, Up x.1.2) (_hpl : (picks.length : Int) ≤ 9223372036854775807) :
    Calls Try.prog 57 #[.slice a B.length c, .slice pa picks.length pc] w fun e w' => ∃ ra rc, e = .returned (.slice ra (insAll picks B B.length).1.length rc) ∧ Span w.heap.size w'.heap.size w' (fun W => Rels W ra rc (insAll picks B B.length).1) ∧ w.grownBy w' none := by
  obtain ⟨n, hn⟩ : ∃ n, B.length = n := ⟨_, rfl⟩
  obtain ⟨m, hm⟩ : ∃ n, picks.length = n := ⟨_, rfl⟩
  obtain ⟨i0, hi0, hz0, hz1, hz2⟩ := info_parts info53
  obtain ⟨j0, hj0, hy0, hy1, hy2⟩ := info_parts info3
  have HU := Lib.hid (fun i => insAll_used (picks := picks) (B := B) (M := 10000) (fun x hx' => (hx x hx').2) i)
  have HLEN := Lib.hid (insAll_len (picks := picks) (B := B) (i := n))
  have HH := Lib.hid (And.intro h (And.intro hp (And.intro hx (And.intro hup (And.intro hn hm)))))
  rw [hn] at hl HLEN ⊢
  rw [hm] at _hpl ⊢
  clear h hp hx hup hn hm
  go_enter Try.func57, Try.ntmps57
  go_wp2_with fail
  go_loopg [5, 6, 7, 8, 9, 10, 11] n (fun g s5 s6 s7 s8 s9 s10 s11 wr => ∃ (i : Nat) (D : List Dr), s7 = .int .i64 (i : Int) ∧ s6 = .int .i64 ((insAll picks B i).2 : Int) ∧ g = n - i ∧ i ≤ n ∧ D.map (·.1) = (insAll picks B i).1 ∧ OutR wr w.heap.size s5 D ∧ w.grownBy wr none)
  case atStart => exact ⟨0, [], rfl, rfl, rfl, Nat.zero_le _, rfl, Out.start _ _ _, grown_refl _ _⟩
  case round =>
    obtain ⟨i, D, rfl, rfl, hgi, hi, hD, hO, hgr⟩ := hrel
    have hDl : D.length = i := by rw [← List.length_map (f := (·.1)), hD, insAll_len (by rw [HH.out.2.2.2.2.1]; exact hi)]
    have hus : (insAll picks B i).2 ≤ 1000000 := Nat.le_trans (HU.out i) (by omega)
    obtain ⟨ga, gc, hs5⟩ := own_shape hO.own
    subst hs5
    have HI := Lib.hid (And.intro hgi (And.intro hD (And.intro hgr hDl))); clear hgi hD hgr
    have HO := Lib.hid hO; clear hO
    rw [hDl] at HO ⊢
    clear hDl
    obtain ⟨N0, hN0⟩ : ∃ N, (insAll picks B i).2 = N := ⟨_, rfl⟩
    rw [hN0] at hus ⊢
    have HN0 := Lib.hid hN0; clear hN0
    by_cases hin : i < n
    · have hinB : decide (i < n) = true := by simpa using hin
      have hinI : (i : Int) < (n : Int) := by omega
      obtain ⟨x, hx⟩ : ∃ x, B[i]? = some x := ⟨_, List.getElem?_eq_getElem (by rw [HH.out.2.2.2.2.1]; exact hin)⟩
      obtain ⟨b, o, rfl, hbx⟩ := (HH.out.1.grown HI.out.2.2.1).2 i x hx
      obtain ⟨xa1, xk1, xa2, xk2, x0, x1, x2, x3, xi1, xi2⟩ := hbx.parts
      have hxl := HH.out.2.2.1 x (List.mem_of_getElem? hx)
      have HIC := Lib.hid (fun (U : World) (oa : Option Addr) (oc : Nat) (t : Int) (g : wr.grownBy U none) (ho : IntsW U oa oc [t]) => rIn_calls x.2.1 x.1.1 [t] x.1.2 oa xa1 oc xk1 U ho (xi1.grown g) (by simp) (by omega) (HH.out.2.2.2.1 x (List.mem_of_getElem? hx)))
      have HSC := Lib.hid (insAll_succ (picks := picks) hx)
      rw [HN0.out] at HSC
      obtain ⟨k1, hk1⟩ : ∃ k, x.1.1 = k := ⟨_, rfl⟩
      obtain ⟨k2, hk2⟩ : ∃ k, x.2.1 = k := ⟨_, rfl⟩
      obtain ⟨lo, hlo⟩ : ∃ l, x.1.2 = l := ⟨_, rfl⟩
      obtain ⟨hi', hhi⟩ : ∃ l, x.2.2 = l := ⟨_, rfl⟩
      obtain ⟨p1, hp1⟩ : ∃ n, lo.length = n := ⟨_, rfl⟩
      obtain ⟨p2, hp2⟩ : ∃ n, hi'.length = n := ⟨_, rfl⟩
      rw [hk1, hk2, hlo, hp1] at HIC
      rw [hk2, hlo, hhi, hp2] at HSC
      rw [hk1] at x0
      rw [hlo, hp1] at x1
      rw [hk2] at x2
      rw [hhi, hp2] at x3
      rw [hlo, hp1, hhi, hp2] at hxl
      have xi3 : IntsW wr xa2 xk2 hi' := by rw [← hhi]; exact xi2
      have HXI := Lib.hid (And.intro hx (And.intro hp2 xi3))
      have hp2' := hxl.2
      clear hx hbx xi1 xi2 xi3 hxl hk1 hk2 hlo hhi hp1 hp2
      have HB0 := Lib.hid (RowBox.new wr k2 (Bs := wr.heap.size + 1) rfl)
      have HW0 := Lib.hid (World.grownBy_alloc wr (.cells #[.int .i64 k2, .slice none 0 0] 53) none)
      go_wp2_with fail
      obtain ⟨W1, hW1⟩ : ∃ W1, wr.alloc (.cells #[.int .i64 k2, .slice none 0 0] 53) = W1 := ⟨_, rfl⟩
      rw [hW1] at HB0 HW0 ⊢
      clear hW1
      obtain ⟨wo, rfl⟩ : ∃ wo, wo = wr := ⟨_, rfl⟩
      have HXC := Lib.hid (And.intro x0 (And.intro x1 (And.intro x2 x3)))
      clear x0 x1 x2 x3
      go_loopg [6, 9, 10, 11] p2 (fun g s6 s9 s10 s11 wr => ∃ (k : Nat) (v : Value), s9 = .int .i64 (k : Int) ∧ s6 = .int .i64 ((insTo lo picks hi' N0 k).2 : Int) ∧ g = p2 - k ∧ k ≤ p2 ∧ RowBox (wo.heap.size + 1) wr wo.heap.size k2 v (insTo lo picks hi' N0 k).1 ∧ wo.grownBy wr none)
      case atStart => exact ⟨0, .slice none 0 0, rfl, rfl, rfl, Nat.zero_le _, HB0.out, HW0.out⟩
      case round =>
        obtain ⟨k, v, rfl, rfl, hgk, hk, hbx, hgw⟩ := hrel
        obtain ⟨va, vc, rfl⟩ := own_shape hbx.own
        have HBX := Lib.hid hbx; clear hbx
        have hil := insTo_len lo hi' picks N0 k
        have hil2 : (insTo lo picks hi' N0 k).2 ≤ 2000000 := by omega
        have HK := Lib.hid (And.intro hgk hil); clear hgk hil
        obtain ⟨N, hN⟩ : ∃ N, (insTo lo picks hi' N0 k).2 = N := ⟨_, rfl⟩
        rw [hN] at hil2 ⊢
        have HN := Lib.hid hN; clear hN
        have hxc := HXC.out
        have x0 := hgw.cell hxc.1 (by simp)
        have x1 := hgw.cell hxc.2.1 (by simp)
        have x2 := hgw.cell hxc.2.2.1 (by simp)
        have x3 := hgw.cell hxc.2.2.2 (by simp)
        clear hxc
        have HWR := Lib.hid hgw; clear hgw
        by_cases hkn : k < p2
        · have hkB : decide (k < p2) = true := by simpa using hkn
          have hkI : (k : Int) < (p2 : Int) := by omega
          obtain ⟨t, ht⟩ : ∃ t, hi'[k]? = some t := ⟨_, List.getElem?_eq_getElem (by rw [HXI.out.2.1]; exact hkn)⟩
          obtain ⟨tb, to, rfl, hcell⟩ := (HXI.out.2.2.grown HWR.out).at ht
          have HT := Lib.hid ht; clear ht
          have r0 := HBX.out.c0
          have hsw : wo.heap.size < wr.heap.size := by have := HBX.out.low; omega
          have HIT0 := Lib.hid (And.intro x0 (And.intro x1 hcell))
          go_wp2_with fail
          clear r0 hcell x0 x1 x2 x3
          have ga1 := World.grownBy_alloc wr (.cells #[.int .i64 t] 3) none
          have ga2 := World.grownBy_alloc (wr.alloc (.cells #[.int .i64 t] 3)) (.cells #[.int .i64 k2, .slice (some ⟨wr.heap.size, 0, none⟩) 1 1] 53) none
          have o0 : ((wr.alloc (.cells #[.int .i64 t] 3)).alloc (.cells #[.int .i64 k2, .slice (some ⟨wr.heap.size, 0, none⟩) 1 1] 53)).cell? ⟨wr.heap.size + 1, 0, none⟩ = some (.int .i64 k2) := by go_simp
          have o1 : ((wr.alloc (.cells #[.int .i64 t] 3)).alloc (.cells #[.int .i64 k2, .slice (some ⟨wr.heap.size, 0, none⟩) 1 1] 53)).cell? ⟨wr.heap.size + 1, 1, none⟩ = some (.slice (some ⟨wr.heap.size, 0, none⟩) 1 1) := by go_simp
          have hone : IntsW ((wr.alloc (.cells #[.int .i64 t] 3)).alloc (.cells #[.int .i64 k2, .slice (some ⟨wr.heap.size, 0, none⟩) 1 1] 53)) (some ⟨wr.heap.size, 0, none⟩) 1 [t] := IntsW.grown (⟨Nat.le_refl _, .inr ⟨_, 0, rfl, fun j z hj => by
            match j, hj with
            | 0, hj => simp at hj; subst hj; go_simp⟩⟩) ga2
          have hgX := ga1.trans ga2
          obtain ⟨X, hX⟩ : ∃ X, (wr.alloc (.cells #[.int .i64 t] 3)).alloc (.cells #[.int .i64 k2, .slice (some ⟨wr.heap.size, 0, none⟩) 1 1] 53) = X := ⟨_, rfl⟩
          rw [hX] at hgX o0 o1 hone ⊢
          clear hX ga1 ga2
          obtain ⟨gO, hgO⟩ : ∃ g, wr.heap.size = g := ⟨_, rfl⟩
          rw [hgO] at o0 o1 hone hsw ⊢
          clear hgO
          obtain ⟨Q, hQ⟩ : ∃ Q, decide (t ∈ lo) = Q := ⟨_, rfl⟩
          have HQ := Lib.hid hQ
          have HIT := Lib.hid (fun (U : World) (g : X.grownBy U none) => by
            have h := HIC.out U (some ⟨gO, 0, none⟩) 1 t (HWR.out.trans (hgX.trans g)) (hone.grown g)
            rw [lacks_one, hQ, show [t].length = 1 from rfl] at h
            exact h)
          have HBX1 := Lib.hid (HBX.out.grown hgX)
          have HWX := Lib.hid (HWR.out.trans hgX)
          have x0 := hgX.cell HIT0.out.1 (by simp)
          have x1 := hgX.cell HIT0.out.2.1 (by simp)
          clear hgX hone hQ
          have HS := Lib.hid (fun (Wh : World) (hWh : X.grownBy Wh none) => (⟨hWh, hWh.cell o0 (by simp), hWh.cell o1 (by simp), hWh.cell x0 (by simp), hWh.cell x1 (by simp)⟩ : (fun Wh : World => X.grownBy Wh none ∧ Wh.cell? ⟨gO + 1, 0, none⟩ = some (.int .i64 k2) ∧ Wh.cell? ⟨gO + 1, 1, none⟩ = some (.slice (some ⟨gO, 0, none⟩) 1 1) ∧ Wh.cell? ⟨b, o + i * 4, none⟩ = some (.int .i64 k1) ∧ Wh.cell? ⟨b, o + i * 4 + 1, none⟩ = some (.slice xa1 p1 xk1)) Wh))
          have hdr : X.grownBy X.drew none := ⟨rfl, rfl, rfl, Nat.le_refl _, fun _ _ _ => rfl⟩
          refine wp_region_held_drew (S := (fun Wh : World => X.grownBy Wh none ∧ Wh.cell? ⟨gO + 1, 0, none⟩ = some (.int .i64 k2) ∧ Wh.cell? ⟨gO + 1, 1, none⟩ = some (.slice (some ⟨gO, 0, none⟩) 1 1) ∧ Wh.cell? ⟨b, o + i * 4, none⟩ = some (.int .i64 k1) ∧ Wh.cell? ⟨b, o + i * 4 + 1, none⟩ = some (.slice xa1 p1 xk1))) (by kernel_rfl) (HS.out _ hdr) (fun hHeld => ?_)
          refine wpAnyH_take (i := 0) (oi := { dst := some 50, op := Op.load 53 (Operand.tmp 11), type := 53, pos := "law.go:74", after := #[], guard := none }) (v := ?_) rfl (by kernel_rfl) (by kernel_rfl) (by kernel_rfl) (fun _ _ _ h => h) (Or.inl ⟨by rfl, ?_⟩) (by assumption) ?_
          rotate_left 1
          · (intro W hSW; (try dsimp only at hSW); first | (go_simp; done) | (go_simp; with_reducible rfl))
          try simp only [Act.put, List.setIfInBounds_toArray, List.set_cons_zero, List.set_cons_succ]
          refine wpAnyH_take (i := 1) (oi := { dst := some 51, op := Op.move (Operand.tmp 0), type := 57, pos := "law.go:74", after := #[], guard := none }) (v := ?_) rfl (by kernel_rfl) (by kernel_rfl) (by kernel_rfl) (fun _ _ _ h => h) (Or.inl ⟨by rfl, ?_⟩) (by assumption) ?_
          rotate_left 1
          · (intro W hSW; (try dsimp only at hSW); first | (go_simp; done) | (go_simp; with_reducible rfl))
          try simp only [Act.put, List.setIfInBounds_toArray, List.set_cons_zero, List.set_cons_succ]
          refine wpAnyH_take (i := 2) (oi := { dst := some 52, op := Op.move (Operand.tmp 7), type := 3, pos := "law.go:74", after := #[], guard := none }) (v := ?_) rfl (by kernel_rfl) (by kernel_rfl) (by kernel_rfl) (fun _ _ _ h => h) (Or.inl ⟨by rfl, ?_⟩) (by assumption) ?_
          rotate_left 1
          · (intro W hSW; (try dsimp only at hSW); first | (go_simp; done) | (go_simp; with_reducible rfl))
          try simp only [Act.put, List.setIfInBounds_toArray, List.set_cons_zero, List.set_cons_succ]
          refine wpAnyH_take (i := 3) (oi := { dst := some 53, op := Op.indexAddr 57 (Operand.tmp 51) (Operand.tmp 52), type := 0, pos := "law.go:74", after := #[{ on := 1, ground := Ground.data }, { on := 2, ground := Ground.data }], guard := none }) (v := ?_) rfl (by kernel_rfl) (by kernel_rfl) (by kernel_rfl) (fun _ _ _ h => h) (Or.inl ⟨by rfl, ?_⟩) (by assumption) ?_
          rotate_left 1
          · (intro W hSW; (try dsimp only at hSW); first | (go_simp; done) | (go_simp; with_reducible rfl))
          try simp only [Act.put, List.setIfInBounds_toArray, List.set_cons_zero, List.set_cons_succ]
          refine wpAnyH_take (i := 4) (oi := { dst := some 54, op := Op.fieldAddr 74 (Operand.tmp 53) 0, type := 0, pos := "law.go:74", after := #[{ on := 3, ground := Ground.data }], guard := none }) (v := ?_) rfl (by kernel_rfl) (by kernel_rfl) (by kernel_rfl) (fun _ _ _ h => h) (Or.inl ⟨by rfl, ?_⟩) (by assumption) ?_
          rotate_left 1
          · (intro W hSW; (try dsimp only at hSW); first | (go_simp; done) | (go_simp; with_reducible rfl))
          try simp only [Act.put, List.setIfInBounds_toArray, List.set_cons_zero, List.set_cons_succ]
          refine wpAnyH_take (i := 5) (oi := { dst := some 55, op := Op.load 53 (Operand.tmp 54), type := 53, pos := "law.go:74", after := #[{ on := 4, ground := Ground.data }], guard := none }) (v := ?_) rfl (by kernel_rfl) (by kernel_rfl) (by kernel_rfl) (fun _ _ _ h => h) (Or.inl ⟨by rfl, ?_⟩) (by assumption) ?_
          rotate_left 1
          · (intro W hSW; (try dsimp only at hSW); first | (go_simp; done) | (go_simp; with_reducible rfl))
          try simp only [Act.put, List.setIfInBounds_toArray, List.set_cons_zero, List.set_cons_succ]
          refine wpAnyH_ready (rs := [6]) (by kernel_rfl) (by simp) ?_
          refine (AllReadyH.cons (o := { dst := some 56, op := Op.call { callee := Callee.value (Operand.func 58), args := #[Operand.tmp 50, Operand.tmp 55], argTypes := #[53, 53] }, type := 4, pos := "law.go:74", after := #[{ on := 0, ground := Ground.data }, { on := 5, ground := Ground.data }], guard := none }) rfl (fun K hK => ?_) AllReadyH.nil)
          rw [if_pos (by rfl)]
          go_simp
          go_at_call 58
          refine (HIT.out _ (hdr)).mono ?_
          rintro e wc1 ⟨rfl, gc1⟩
          have hgr1 := World.grownBy.trans hdr gc1
          go_wp2_with fail
          refine hK.out _ _ (HS.out _ hgr1) (fun hHeld => ?_)
          clear hK K
          try simp only [Act.put, List.setIfInBounds_toArray, List.set_cons_zero, List.set_cons_succ]
          refine wpAnyH_done (by kernel_rfl) ?_ _
          have hEND := hgr1
          clear hHeld
          have HE := Lib.hid (HWX.out.trans hEND)
          have HB2 := Lib.hid (HBX1.out.grown hEND)
          clear hEND o0 o1 x0 x1
          have r1 := HB2.out.row
          cases Q with
          | true =>
            have HS : Hid (insTo lo picks hi' N0 (k + 1) = ((insTo lo picks hi' N0 k).1 ++ [t], N)) := Lib.hid (by rw [insTo_in HT.out (of_decide_eq_true HQ.out), HN.out])
            go_wp2_with (at_builtin; refine wpList_append_own_at _ rfl _ _ 28 rfl (wo.heap.size + 1) 3 j0 (.int .i64 0) 1 8 Try.underlying28 hj0 hy0 hy1 hy2 rfl (by decide) _ _ _ rfl (HB2.out.own.alloc _) ⟨World.heap wc1 |>.size, 0, none⟩ 1 1 [.int .i64 t] rfl rfl (cell_one_new _ _ _) (fun u hu => by simp at hu; subst hu; rfl) (by have := HK.out.2.1; unfold maxLen; omega) (by have := HK.out.2.1; omega) (by have := HB2.out.low.2; simp only [World.size_alloc]; omega) ?_; intro v' w6 hown' hgrow6 hnil6 hat6; obtain ⟨g', cap', rfl⟩ := own_shape hown'; obtain ⟨hs1, hs2⟩ := HB2.out.at_ (World.grownBy_alloc _ _ none) hgrow6)
            go_roundg (p2 - (k + 1))
            case measure => rw [HK.out.1]; omega
            case rel =>
              have hst := HB2.out.step (x := t) (World.grownBy_alloc _ _ none) hgrow6 hown'
              exact ⟨k + 1, _, rfl, by rw [HS.out]; skip, rfl, by omega, by rw [HS.out]; exact hst, HB2.out.grows2 hst HE.out (Nat.le_refl _) (World.grownBy_alloc _ _ none) hgrow6⟩
          | false =>
            have hnt : t ∉ lo := of_decide_eq_false HQ.out
            have HNT := Lib.hid hnt; clear hnt
            by_cases hNm : N < m
            · have hNB : decide (N < m) = true := decide_eq_true hNm
              have hNI : (N : Int) < (m : Int) := by omega
              obtain ⟨y, hy⟩ : ∃ y, picks[N]? = some y := ⟨_, List.getElem?_eq_getElem (by rw [HH.out.2.2.2.2.2]; exact hNm)⟩
              obtain ⟨pb, po, rfl, hpc⟩ := (HH.out.2.1.grown (HI.out.2.2.1.trans HE.out)).2 N y hy
              have HG : Hid (picks.getD N false = y) := Lib.hid (by rw [List.getD_eq_getElem?_getD, hy]; rfl)
              clear hy
              cases y with
              | true =>
                have HS : Hid (insTo lo picks hi' N0 (k + 1) = ((insTo lo picks hi' N0 k).1 ++ [t], N + 1)) := Lib.hid (by rw [insTo_pick HT.out HNT.out (by rw [HN.out]; exact HG.out), HN.out])
                go_wp2_with (at_builtin; refine wpList_append_own_at _ rfl _ _ 28 rfl (wo.heap.size + 1) 3 j0 (.int .i64 0) 1 8 Try.underlying28 hj0 hy0 hy1 hy2 rfl (by decide) _ _ _ rfl (HB2.out.own.alloc _) ⟨World.heap wc1 |>.size, 0, none⟩ 1 1 [.int .i64 t] rfl rfl (cell_one_new _ _ _) (fun u hu => by simp at hu; subst hu; rfl) (by have := HK.out.2.1; unfold maxLen; omega) (by have := HK.out.2.1; omega) (by have := HB2.out.low.2; simp only [World.size_alloc]; omega) ?_; intro v' w6 hown' hgrow6 hnil6 hat6; obtain ⟨g', cap', rfl⟩ := own_shape hown'; obtain ⟨hs1, hs2⟩ := HB2.out.at_ (World.grownBy_alloc _ _ none) hgrow6)
                go_roundg (p2 - (k + 1))
                case measure => rw [HK.out.1]; omega
                case rel =>
                  have hst := HB2.out.step (x := t) (World.grownBy_alloc _ _ none) hgrow6 hown'
                  exact ⟨k + 1, _, rfl, by rw [HS.out]; rfl, rfl, by omega, by rw [HS.out]; exact hst, HB2.out.grows2 hst HE.out (Nat.le_refl _) (World.grownBy_alloc _ _ none) hgrow6⟩
              | false =>
                have HS : Hid (insTo lo picks hi' N0 (k + 1) = ((insTo lo picks hi' N0 k).1, N + 1)) := Lib.hid (by rw [insTo_skip HT.out HNT.out (by rw [HN.out]; exact HG.out), HN.out])
                go_wp2_with fail
                go_roundg (p2 - (k + 1))
                case measure => rw [HK.out.1]; omega
                case rel => exact ⟨k + 1, _, rfl, by rw [HS.out]; rfl, rfl, by omega, by rw [HS.out]; exact HB2.out, HE.out⟩
            · have hNB : decide (N < m) = false := decide_eq_false hNm
              have HG : Hid (picks.getD N false = false) := Lib.hid (by rw [List.getD_eq_getElem?_getD, List.getElem?_eq_none (by rw [HH.out.2.2.2.2.2]; omega)]; rfl)
              have HS : Hid (insTo lo picks hi' N0 (k + 1) = ((insTo lo picks hi' N0 k).1, N + 1)) := Lib.hid (by rw [insTo_skip HT.out HNT.out (by rw [HN.out]; exact HG.out), HN.out])
              go_wp2_with fail
              go_roundg (p2 - (k + 1))
              case measure => rw [HK.out.1]; omega
              case rel => exact ⟨k + 1, _, rfl, by rw [HS.out]; rfl, rfl, by omega, by rw [HS.out]; exact HB2.out, HE.out⟩
        · have hke : k = p2 := by omega
          subst hke
          have hkB : decide (k < k) = false := by simp
          obtain ⟨s, hs⟩ : ∃ s, (insTo lo picks hi' N0 k).1 = s := ⟨_, rfl⟩
          rw [hs] at HBX HK
          obtain ⟨q, hq⟩ : ∃ q, s.length = q := ⟨_, rfl⟩
          have HSQ := Lib.hid (And.intro hs hq)
          obtain ⟨va', vc', he, hspn⟩ := HBX.out.ints
          injection he with h1 _ h3
          subst h1; subst h3
          have r0 := HBX.out.c0
          have r1 := HBX.out.row
          rw [hq] at r1
          clear hs hq
          have HO1 := Lib.hid (Out.quiet HO.out HWR.out (fun x e => by cases e))
          have HOW : Hid (wr.ownsRow w.heap.size 53 2 (.slice ga i gc) i (D.flatMap relCells)) := Lib.hid (by have := HO1.out.own; rw [HI.out.2.2.2] at this; exact this)
          have hszw : w.heap.size ≤ wo.heap.size := HI.out.2.2.1.size
          have hszo : wo.heap.size + 1 ≤ wr.heap.size := HBX.out.low.2
          have HSP := Lib.hid (hspn.map (Q := fun W => IntsW W va vc s) fun W h => h.weak)
          clear hspn x0 x1 x2
          go_wp2_with (at_builtin; refine wpList_append_own_at _ rfl _ _ 40 rfl w.heap.size 53 i0 (.agg #[.int .i64 0, .slice none 0 0]) 2 32 Try.underlying40 hi0 hz0 hz1 hz2 rfl (by decide) _ _ _ rfl (HOW.out.alloc _) ⟨wr.heap.size, 0, none⟩ 1 1 [.int .i64 k2, .slice va q vc] rfl rfl (cell_two_new _ _ _ _) (fun u hu => by simp at hu; rcases hu with rfl | rfl <;> rfl) (by unfold maxLen; omega) (by omega) (by simp only [World.size_alloc]; omega) ?_; intro v' w6 hown' hgrow6 hnil6 hat6; obtain ⟨g', cap', rfl⟩ := own_shape hown')
          go_roundg (n - (i + 1))
          case measure => rw [HI.out.1]; omega
          case rel =>
            refine ⟨i + 1, D ++ [((k2, s), va, vc)], rfl, by rw [HSC.out, HN.out], rfl, by omega, by rw [List.map_append, HI.out.2.1, HSC.out, HSQ.out.1]; rfl, ?_, ?_⟩
            · refine Out.push HO1.out (d := ((k2, s), va, vc)) HSP.out (by omega) (fun x hx => .inl (by have := (HO.out.own.lt x hx).2; omega)) (by rw [HI.out.2.2.2]; simpa [relCells, HSQ.out.2] using hown') hgrow6 hat6
            · exact grown_own ((HI.out.2.2.1.trans HWR.out).trans (World.grownBy_alloc _ _ none)) hgrow6 (fun k hk => (HOW.out.lt k hk).1)
    · have hie : i = n := by omega
      subst hie
      have hinB : decide (i < i) = false := by simp
      obtain ⟨a', c', hv, hsp⟩ := OutR.rels HO.out
      have hl2 : (D.map (·.1)).length = i := by rw [List.length_map]; exact HI.out.2.2.2
      rw [hl2] at hv
      rw [HI.out.2.1] at hsp
      injection hv with h1 h2 h3
      subst h1; subst h3
      have HSP := Lib.hid hsp; clear hsp h2
      have HL : Hid ((insAll picks B i).1.length = i) := Lib.hid (HLEN.out (Nat.le_refl _))
      go_wp2_with fail
      go_ret
      exact ⟨ga, gc, by rw [HL.out]; rfl, HSP.out, HI.out.2.2.1⟩
end Go.Proofs.Ytbddpjofhddilaa
/- Raw data in memory; a bound in a row is replaced; the bounds that raw data describe. -/
namespace Go.Proofs.Ytbddpjofhddilaa
open Go.RowKit

/-- A row of bytes that is read. -/
def U8s (w : World) (a : Option Addr) (c : Nat) (l : List Nat) : Prop := l.length ≤ c ∧ ∀ (j z : Nat), l[j]? = some z → ∃ b o, a = some ⟨b, o, none⟩ ∧ w.cell? ⟨b, o + j, none⟩ = some (.int .u8 (z : Int))
theorem U8s.grown {w w' : World} {a : Option Addr} {c : Nat} {l : List Nat} (h : U8s w a c l) (hg : w.grownBy w' none) : U8s w' a c l :=
  ⟨h.1, fun j x hj => by obtain ⟨b, o, ha, h0⟩ := h.2 j x hj; exact ⟨b, o, ha, hg.cell h0 (by simp)⟩⟩
/-- Rows of bytes that are read. -/
def Raws (w : World) (a : Option Addr) (c : Nat) (L : List (List Nat)) : Prop := L.length ≤ c ∧ ∀ (j : Nat) (l : List Nat), L[j]? = some l → ∃ b o, a = some ⟨b, o, none⟩ ∧ ∃ a' c', w.cell? ⟨b, o + j, none⟩ = some (.slice a' l.length c') ∧ U8s w a' c' l
theorem Raws.grown {w w' : World} {a : Option Addr} {c : Nat} {L : List (List Nat)} (h : Raws w a c L) (hg : w.grownBy w' none) : Raws w' a c L :=
  ⟨h.1, fun j x hj => by obtain ⟨b, o, ha, a', c', h0, h1⟩ := h.2 j x hj; exact ⟨b, o, ha, a', c', hg.cell h0 (by simp), h1.grown hg⟩⟩
/-- Rows of bytes: short, and of bytes. -/
def RawOk (L : List (List Nat)) : Prop := (L.length : Int) ≤ 9223372036854775807 ∧ ∀ l ∈ L, (l.length : Int) ≤ 9223372036854775807 ∧ ∀ z ∈ l, z < 256

theorem flat_set (d' : Db) : ∀ (D : List Db) (i : Nat), i < D.length → ((((D.flatMap bdCells).set (i * 4) (.int .i64 d'.1.1.1)).set (i * 4 + 1) (.slice d'.2.1.1 d'.1.1.2.length d'.2.1.2)).set (i * 4 + 2) (.int .i64 d'.1.2.1)).set (i * 4 + 3) (.slice d'.2.2.1 d'.1.2.2.length d'.2.2.2) = (D.set i d').flatMap bdCells
  | [], i, h => by simp at h
  | d :: D, 0, _ => by simp [bdCells]
  | d :: D, i + 1, h => by
    have ih := flat_set d' D i (by simpa using h)
    have e : (i + 1) * 4 = i * 4 + 1 + 1 + 1 + 1 := by omega
    have e1 : (i + 1) * 4 + 1 = (i * 4 + 1) + 1 + 1 + 1 + 1 := by omega
    have e2 : (i + 1) * 4 + 2 = (i * 4 + 2) + 1 + 1 + 1 + 1 := by omega
    have e3 : (i + 1) * 4 + 3 = (i * 4 + 3) + 1 + 1 + 1 + 1 := by omega
    rw [e3, e2, e1, e, List.set_cons_succ, List.flatMap_cons, List.flatMap_cons, ← ih]
    simp only [bdCells, List.cons_append, List.nil_append, List.set_cons_succ]
/-- A bound in a row that is being made is replaced. -/
theorem OutB.set {w : World} {B g c n : Nat} {D : List Db} (h : OutB w B (.slice (some ⟨g, 0, none⟩) n c) D) {i : Nat} (hi : i < D.length) {d' : Db} {lo hi' : Nat} (hd : Span lo hi' w (bdP d')) (hB : B ≤ lo) (hx : g < lo ∨ hi' ≤ g) :
    OutB ((((w.setCell ⟨g, i * 4, none⟩ (.int .i64 d'.1.1.1)).setCell ⟨g, i * 4 + 1, none⟩ (.slice d'.2.1.1 d'.1.1.2.length d'.2.1.2)).setCell ⟨g, i * 4 + 2, none⟩ (.int .i64 d'.1.2.1)).setCell ⟨g, i * 4 + 3, none⟩ (.slice d'.2.2.1 d'.1.2.2.length d'.2.2.2)) B (.slice (some ⟨g, 0, none⟩) n c) (D.set i d') ∧
    w.grownBy ((((w.setCell ⟨g, i * 4, none⟩ (.int .i64 d'.1.1.1)).setCell ⟨g, i * 4 + 1, none⟩ (.slice d'.2.1.1 d'.1.1.2.length d'.2.1.2)).setCell ⟨g, i * 4 + 2, none⟩ (.int .i64 d'.1.2.1)).setCell ⟨g, i * 4 + 3, none⟩ (.slice d'.2.2.1 d'.1.2.2.length d'.2.2.2)) (some g) := by
  have hn : n = D.length := by
    rcases h.own.2 with ⟨h', _⟩ | ⟨g', cap', cur, h', _⟩
    · cases h'
    · injection h'
  subst hn
  have h0 := h.own.stored (i * 4) (.int .i64 d'.1.1.1)
  have h1 := h0.1.stored (i * 4 + 1) (.slice d'.2.1.1 d'.1.1.2.length d'.2.1.2)
  have h2 := h1.1.stored (i * 4 + 2) (.int .i64 d'.1.2.1)
  have h3 := h2.1.stored (i * 4 + 3) (.slice d'.2.2.1 d'.1.2.2.length d'.2.2.2)
  have hg := ((h0.2.trans h1.2).trans h2.2).trans h3.2
  refine ⟨⟨?_, fun y hy => ?_⟩, hg⟩
  · have := h3.1
    rw [flat_set d' D i hi] at this
    rw [List.length_set]
    exact this
  · have off : ∀ (z : Db) (lo hi' : Nat), Span lo hi' w (bdP z) → B ≤ lo → (g < lo ∨ hi' ≤ g) → ∃ lo hi, Span lo hi _ (bdP z) ∧ B ≤ lo ∧ ∀ x, (Value.slice (some ⟨g, 0, none⟩) D.length c).ownBlock = some x → x < lo ∨ hi ≤ x :=
      fun z lo hi' hs hb hx => ⟨lo, hi', hs.off hg (fun x e => by cases e; exact hx), hb, fun x e => by cases e; exact hx⟩
    rcases List.mem_or_eq_of_mem_set hy with hy | rfl
    · obtain ⟨lo, hi, hs, hb, hx⟩ := h.el y hy
      exact off y lo hi hs hb (hx g rfl)
    · exact off _ lo hi' hd hB hx
/-- The bounds that raw data describe, of default bounds. -/
def madeL (raw : List (List Nat)) (DB : List Bd) : List Bd := DB.mapIdx fun j x => madeB (raw.getD j []) x.2.1 x.2.2
/-- The first i of them, the others as they were. -/
def madeUp (raw : List (List Nat)) (DB : List Bd) (i : Nat) : List Bd := DB.mapIdx fun j x => if j < i then madeB (raw.getD j []) x.2.1 x.2.2 else x
theorem madeUp_zero (raw : List (List Nat)) (DB : List Bd) : madeUp raw DB 0 = DB := by
  apply List.ext_getElem?
  intro j
  rw [madeUp, List.getElem?_mapIdx]
  cases DB[j]? <;> simp
theorem madeUp_all (raw : List (List Nat)) (DB : List Bd) {n : Nat} (hn : DB.length ≤ n) : madeUp raw DB n = madeL raw DB := by
  apply List.ext_getElem?
  intro j
  rw [madeUp, madeL, List.getElem?_mapIdx, List.getElem?_mapIdx]
  cases h : DB[j]? with
  | none => rfl
  | some x =>
    have := (List.getElem?_eq_some_iff.1 h).1
    simp [show j < n by omega]
theorem madeUp_succ {raw : List (List Nat)} {DB : List Bd} {i : Nat} {x : Bd} (h : DB[i]? = some x) : madeUp raw DB (i + 1) = (madeUp raw DB i).set i (madeB (raw.getD i []) x.2.1 x.2.2) := by
  apply List.ext_getElem?
  intro j
  rw [madeUp, List.getElem?_mapIdx, List.getElem?_set, madeUp, List.length_mapIdx, List.getElem?_mapIdx]
  by_cases hij : i = j
  · subst hij
    have := (List.getElem?_eq_some_iff.1 h).1
    rw [h]; simp [this]
  · cases DB[j]? with
    | none => simp [hij]
    | some y =>
      simp only [hij, if_false, Option.map_some]
      by_cases hj : j < i
      · simp [hj, show j < i + 1 by omega]
      · simp [hj, show ¬ j < i + 1 by omega]
theorem madeUp_at {raw : List (List Nat)} {DB : List Bd} {i : Nat} : (madeUp raw DB i)[i]? = DB[i]? := by
  rw [madeUp, List.getElem?_mapIdx]
  cases DB[i]? <;> simp
theorem madeUp_len {raw : List (List Nat)} {DB : List Bd} {i : Nat} : (madeUp raw DB i).length = DB.length := by rw [madeUp, List.length_mapIdx]
end Go.Proofs.Ytbddpjofhddilaa

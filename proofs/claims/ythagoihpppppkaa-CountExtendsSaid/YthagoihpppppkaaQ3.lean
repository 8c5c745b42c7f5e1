/- Totalizer, Add: a builder is made, used, and its circuit handed back. -/
import Derived.Test.YthagoihpppppkaaQ2
import Derived.Deep.DeepCutAuto
namespace Go.Proofs.Ythagoihpppppkaa
open Go.RowKit Go.Maps

theorem IntsW.set {w : World} {b : Nat} {a : Option Addr} {c : Nat} {zs : List Int} (h : IntsW w a c zs) {a' : Option Addr} {n' c' : Nat} (hb : w.cell? ⟨b, 0, none⟩ = some (.slice a' n' c')) (v : Value) : IntsW (w.setCell ⟨b, 0, none⟩ v) a c zs := by
  obtain ⟨hc, h | ⟨k, o, ha, hz⟩⟩ := h
  · exact ⟨hc, .inl h⟩
  · exact ⟨hc, .inr ⟨k, o, ha, fun j z hj => by
      have h0 := hz j z hj
      rw [World.cell?_setCell_other _ _ _ _ (fun e => by rw [← e, hb] at h0; cases h0)]
      exact h0⟩⟩
theorem GS.mem_p {p q : Nat} {N : Nat → Prop} {w : World} {gs : List Gt} {hi : Int} (h : GS p q N w gs hi) : N p := by
  obtain ⟨_, _, _, _, _, _, _, g3⟩ := h.gx
  exact g3 p (.inl rfl)
/-- A box for the answer that waits while a builder works. -/
structure Wait (w0 : World) (bR : Nat) (N : Nat → Prop) (w : World) : Prop where
  z0 : w.cell? ⟨bR, 0, none⟩ = some (.slice none 0 0)
  zf : w.frozen? ⟨bR, 0, none⟩ = false
  far : ¬ N bR
  low : w0.heap.size ≤ bR
  new : ∀ k, N k → w0.heap.size ≤ k
  go : w0.grownBy w none
theorem Wait.goes {w0 : World} {bR : Nat} {N N' : Nat → Prop} {w w' : World} (h : Wait w0 bR N w) (hg : Goes N w N' w') : Wait w0 bR N' w' :=
  ⟨hg.1.cell h.z0 h.far, (hg.1.frozen (lies_lt h.z0) h.far 0).trans h.zf, fun hx => by
    rcases hg.2 _ hx with h1 | h1
    · exact h.far h1
    · have := lies_lt h.z0; simp only at this; omega, h.low, fun k hk => by
    rcases hg.2 k hk with h1 | h1
    · exact h.new k h1
    · exact Nat.le_trans h.go.size h1, Off.grown h.go hg.1 h.new⟩
/-- What stands when the circuit has been handed back and lies in the box. -/
theorem Wait.done {w0 w w8 : World} {p q bR : Nat} {N : Nat → Prop} {gs : List Gt} {hi : Int} {a8 : Option Addr} {c8 : Nat} (h : Wait w0 bR N w) (hg : GS p q N w gs hi) (ho : Off (fun k => k = p) w w8) (hw : GatesW w8 a8 c8 gs) :
    w8.cell? ⟨bR, 0, none⟩ = some (.slice none 0 0) ∧ w8.frozen? ⟨bR, 0, none⟩ = false ∧ (w8.setCell ⟨bR, 0, none⟩ (.slice a8 gs.length c8)).cell? ⟨bR, 0, none⟩ = some (.slice a8 gs.length c8) ∧ GatesW (w8.setCell ⟨bR, 0, none⟩ (.slice a8 gs.length c8)) a8 c8 gs ∧ w0.grownBy (w8.setCell ⟨bR, 0, none⟩ (.slice a8 gs.length c8)) none ∧
      ∀ (va : Option Addr) (ca : Nat) (l : List Int), IntsN N w va ca l → IntsW (w8.setCell ⟨bR, 0, none⟩ (.slice a8 gs.length c8)) va ca l := by
  have hne : ¬ bR = p := fun e => h.far (by rw [e]; exact hg.mem_p)
  have z0 := ho.cell h.z0 hne
  have zf := (ho.frozen (lies_lt h.z0) hne 0).trans h.zf
  refine ⟨z0, zf, World.cell?_setCell_same _ _ _ z0, hw.set z0 _, grown_own (Off.grown h.go ho (fun k hk => by rw [hk]; exact h.new p hg.mem_p)) (grown_set w8 bR 0 _) (fun k e => by cases e; exact h.low), fun va ca l hl => ?_⟩
  refine IntsW.set (IntsN.weak (N := fun k => k = p) (IntsN.off (N := fun k => k = p) ?_ ho (fun k hk => .inl hk))) z0 _
  obtain ⟨hc, h1 | ⟨b, o, e1, e2, e3, e4⟩⟩ := hl
  · exact ⟨hc, .inl h1⟩
  · exact ⟨hc, .inr ⟨b, o, e1, fun e => e2 (by have e' : b = p := e; rw [e']; exact hg.mem_p), e3, e4⟩⟩
theorem resB15 (tmps : Array Value) (w : World) (b : Nat) (a : Option Addr) (n c : Nat) (v : Value) (ht : tmps.getD 4 undef = .pointer (some ⟨b, 0, none⟩)) (hv : tmps.getD 5 undef = v) (h0 : w.cell? ⟨b, 0, none⟩ = some (.slice a n c)) :
    (results Try.f15 tmps).run Try.prog w = .ok (.tuple #[.agg #[.slice a n c], v]) w := by
  have ht' : tmps[4]?.getD undef = .pointer (some ⟨b, 0, none⟩) := by simpa using ht
  have hv' : tmps[5]?.getD undef = v := by simpa using hv
  simp [results, ht', hv', go_sem, h0, Result.andThen]

set_option maxRecDepth 100000 in
set_option maxHeartbeats 4000000 in
theorem totalizer_calls (gs : List Gt) (l : List Int) (a : Option Addr) (c : Nat) (b : Option Addr) (d : Nat) (w : World) (h : GatesW w a c gs) (hi : IntsW w b d l) (hG : Good gs) (ho : ∀ r ∈ l, Ok gs r) (hn : l.length ≤ 64) (hl : gs.length + costT 6 l.length ≤ 990) :
    Calls Try.prog 15 #[.agg #[.slice a gs.length c], .slice b l.length d] w fun e w' => AnsL w ((totalP 6 l).run gs).1 ((totalP 6 l).run gs).2 e w' := by
  have hsafe := Pr.safe_run _ (safe_totalP 6 l hG ho (by simpa using hn) (by omega))
  have HT := Lib.hid (fun (p q : Nat) (N : Nat → Prop) (W : World) (h0 : Int) (hs : GS p q N W gs h0) (hr : IntsN N W b d l) => total_calls p q 6 l b d N W gs h0 hs hr hG ho (by simpa using hn) hl hn)
  obtain ⟨res, hres⟩ : ∃ r, (totalP 6 l).run gs = r := ⟨_, rfl⟩
  obtain ⟨g9, l9⟩ := res
  rw [hres] at HT hsafe ⊢
  simp only at HT ⊢
  have HL9 := Lib.hid (show g9.length ≤ 1000 from by have := hsafe.1.len; simp only at this; omega)
  have HN9 := Lib.hid (show l9.length = l.length from hsafe.2.2.1)
  obtain ⟨n, hn'⟩ : ∃ n, l.length = n := ⟨_, rfl⟩
  rw [hn'] at HT HN9 ⊢
  have hg1 := World.grownBy_alloc w (.cells #[.slice a gs.length c] 32) none
  have hc1 := one_cell w (.slice a gs.length c) 32
  obtain ⟨W1, hW1⟩ : ∃ z, w.alloc (.cells #[.slice a gs.length c] 32) = z := ⟨_, rfl⟩
  rw [hW1] at hg1 hc1
  have hg2 := World.grownBy_alloc W1 (.cells #[.slice none 0 0] 32) none
  have hc2 := one_cell W1 (.slice none 0 0) 32
  obtain ⟨W2, hW2⟩ : ∃ z, W1.alloc (.cells #[.slice none 0 0] 32) = z := ⟨_, rfl⟩
  rw [hW2] at hg2 hc2
  have q1 := hg2.cell hc1.2.1 (by simp)
  have HB := Lib.hid (fun (U : World) (hU : GatesW U a c gs) => newb_calls gs a c U hU)
  have HH := Lib.hid ((h.grown hg1).grown hg2)
  have HG2 := Lib.hid (World.grownBy.trans hg1 hg2)
  have HR := Lib.hid hc2
  have HS2 := Lib.hid (And.intro hg1.size hg2.size)
  have Hhi := Lib.hid hi
  clear h hg1 hg2 hc1 hc2 hi hG ho hn hl hsafe hres hn'
  go_enter Try.func15, Try.ntmps15
  go_wp2_with fail
  refine (HB.out W2 HH.out).mono ?_
  rintro e w3 ⟨q, p, rfl, hp, hq, hpq, hqc, hgx, hg3⟩
  have HG3 := Lib.hid (World.grownBy.trans HG2.out hg3)
  obtain ⟨bR, hbR⟩ : ∃ z, W1.heap.size = z := ⟨_, rfl⟩
  have HGS := Lib.hid (show GS p q (fun k => k = p) w3 gs 0 from ⟨hgx, hqc, fun e => hpq e.symm, fun k hk => by
    obtain ⟨_, _, _, _, _, g, _⟩ := hgx
    have hk' : k = p := hk
    rw [hk']; exact lies_lt g.c0⟩)
  have HWT := Lib.hid (show Wait w bR (fun k => k = p) w3 from by
    have hr := HR.out
    rw [hbR] at hr
    exact ⟨hg3.cell hr.2.1 (by simp), (grown_frozen hg3 hr.1 0).trans hr.2.2, fun e => by have e' : bR = p := e; omega, by have := HS2.out.1; omega, fun k hk => by have hk' : k = p := hk; have := HG2.out.size; omega, HG3.out⟩)
  have Hhi3 := Lib.hid (Hhi.out.far (N := fun k => k = p) HG3.out (fun k hk => by have hk' : k = p := hk; have := HG2.out.size; omega))
  rw [hbR]
  clear hp hq hpq hqc hgx hg3 hbR q1 hW1 hW2 HB HH HR HS2
  obtain ⟨N0, hN0⟩ : ∃ N : Nat → Prop, (fun k => k = p) = N := ⟨_, rfl⟩
  rw [hN0] at HGS HWT Hhi3
  clear hN0
  go_wp2_with fail
  refine (HT.out p q N0 w3 0 HGS.out Hhi3.out).mono ?_
  rintro e w5 ⟨vo, co, N5, h5, rfl, hs5, hgo5, hr5⟩
  have HGS5 := Lib.hid hs5
  have HWT5 := Lib.hid (HWT.out.goes hgo5)
  have HR5 := Lib.hid hr5
  clear hs5 hgo5 hr5 HT
  have q0 := HGS5.out.q0
  go_wp2_with fail
  clear q0
  refine (gcircuit2_calls g9 p _ _ _ HGS5.out.gx HL9.out).mono ?_
  rintro e w8 ⟨a8, c8, rfl, hsp8, ho8⟩
  have HD := Lib.hid (HWT5.out.done HGS5.out ho8 hsp8.here)
  have z0 := HD.out.1
  have zf := HD.out.2.1
  clear hsp8 ho8
  go_wp2_with fail
  clear z0 zf
  refine bodyPost_ret (resB15 _ _ bR a8 g9.length c8 (.slice vo n co) rfl rfl HD.out.2.2.1) rfl ?_
  exact ⟨a8, c8, vo, co, by rw [HN9.out], HD.out.2.2.2.1, HD.out.2.2.2.2.2 _ _ _ HR5.out, HD.out.2.2.2.2.1⟩
theorem resB20 (tmps : Array Value) (w : World) (b : Nat) (a : Option Addr) (n c : Nat) (v : Value) (ht : tmps.getD 6 undef = .pointer (some ⟨b, 0, none⟩)) (hv : tmps.getD 7 undef = v) (h0 : w.cell? ⟨b, 0, none⟩ = some (.slice a n c)) :
    (results Try.f20 tmps).run Try.prog w = .ok (.tuple #[.agg #[.slice a n c], v]) w := by
  have ht' : tmps[6]?.getD undef = .pointer (some ⟨b, 0, none⟩) := by simpa using ht
  have hv' : tmps[7]?.getD undef = v := by simpa using hv
  simp [results, ht', hv', go_sem, h0, Result.andThen]

set_option maxRecDepth 100000 in
set_option maxHeartbeats 4000000 in
theorem add20_calls (gs : List Gt) (l m : List Int) (a : Option Addr) (c : Nat) (b : Option Addr) (d : Nat) (b2 : Option Addr) (d2 : Nat) (w : World) (h : GatesW w a c gs) (hi : IntsW w b d l) (hi2 : IntsW w b2 d2 m) (hG : Good gs) (ho : ∀ r ∈ l, Ok gs r) (ho2 : ∀ r ∈ m, Ok gs r) (hn : l.length ≤ 64) (hn2 : m.length ≤ 64) (hl : gs.length + costA l.length m.length ≤ 990) :
    Calls Try.prog 20 #[.agg #[.slice a gs.length c], .slice b l.length d, .slice b2 m.length d2] w fun e w' => AnsL w ((addP l m).run gs).1 ((addP l m).run gs).2 e w' := by
  have hsafe := Pr.safe_run _ (safe_addP hG ho ho2 (by omega))
  have HT := Lib.hid (fun (p q : Nat) (N : Nat → Prop) (W : World) (h0 : Int) (hs : GS p q N W gs h0) (hr : IntsN N W b d l) (hr2 : IntsN N W b2 d2 m) => add_calls l m b d b2 d2 p q N W gs h0 hs hr hr2 hG (fun r hr => ok_i64 (by omega) (ho r hr)) (fun r hr => ok_i64 (by omega) (ho2 r hr)) hl (by omega) (by omega))
  obtain ⟨res, hres⟩ : ∃ r, (addP l m).run gs = r := ⟨_, rfl⟩
  obtain ⟨g9, l9⟩ := res
  rw [hres] at HT hsafe ⊢
  simp only at HT ⊢
  have HL9 := Lib.hid (show g9.length ≤ 1000 from by have := hsafe.1.len; simp only at this; omega)
  obtain ⟨n1, hn1⟩ : ∃ n, l.length = n := ⟨_, rfl⟩
  obtain ⟨n2, hn2'⟩ : ∃ n, m.length = n := ⟨_, rfl⟩
  have HN9 := Lib.hid (show l9.length = l.length + m.length from hsafe.2.2.1)
  rw [hn1, hn2'] at HT HN9 ⊢
  obtain ⟨n, hn'⟩ : ∃ n, n1 + n2 = n := ⟨_, rfl⟩
  rw [hn'] at HT HN9
  have hg1 := World.grownBy_alloc w (.cells #[.slice a gs.length c] 32) none
  have hc1 := one_cell w (.slice a gs.length c) 32
  obtain ⟨W1, hW1⟩ : ∃ z, w.alloc (.cells #[.slice a gs.length c] 32) = z := ⟨_, rfl⟩
  rw [hW1] at hg1 hc1
  have hg2 := World.grownBy_alloc W1 (.cells #[.slice none 0 0] 32) none
  have hc2 := one_cell W1 (.slice none 0 0) 32
  obtain ⟨W2, hW2⟩ : ∃ z, W1.alloc (.cells #[.slice none 0 0] 32) = z := ⟨_, rfl⟩
  rw [hW2] at hg2 hc2
  have q1 := hg2.cell hc1.2.1 (by simp)
  have HB := Lib.hid (fun (U : World) (hU : GatesW U a c gs) => newb_calls gs a c U hU)
  have HH := Lib.hid ((h.grown hg1).grown hg2)
  have HG2 := Lib.hid (World.grownBy.trans hg1 hg2)
  have HR := Lib.hid hc2
  have HS2 := Lib.hid (And.intro hg1.size hg2.size)
  have Hhi := Lib.hid hi
  have Hhi2 := Lib.hid hi2
  clear h hg1 hg2 hc1 hc2 hi hi2 hG ho ho2 hn hn2 hl hsafe hres hn' hn1 hn2'
  go_enter Try.func20, Try.ntmps20
  go_wp2_with fail
  refine (HB.out W2 HH.out).mono ?_
  rintro e w3 ⟨q, p, rfl, hp, hq, hpq, hqc, hgx, hg3⟩
  have HG3 := Lib.hid (World.grownBy.trans HG2.out hg3)
  obtain ⟨bR, hbR⟩ : ∃ z, W1.heap.size = z := ⟨_, rfl⟩
  have HGS := Lib.hid (show GS p q (fun k => k = p) w3 gs 0 from ⟨hgx, hqc, fun e => hpq e.symm, fun k hk => by
    obtain ⟨_, _, _, _, _, g, _⟩ := hgx
    have hk' : k = p := hk
    rw [hk']; exact lies_lt g.c0⟩)
  have HWT := Lib.hid (show Wait w bR (fun k => k = p) w3 from by
    have hr := HR.out
    rw [hbR] at hr
    exact ⟨hg3.cell hr.2.1 (by simp), (grown_frozen hg3 hr.1 0).trans hr.2.2, fun e => by have e' : bR = p := e; omega, by have := HS2.out.1; omega, fun k hk => by have hk' : k = p := hk; have := HG2.out.size; omega, HG3.out⟩)
  have Hhi3 := Lib.hid (Hhi.out.far (N := fun k => k = p) HG3.out (fun k hk => by have hk' : k = p := hk; have := HG2.out.size; omega))
  have Hhi23 := Lib.hid (Hhi2.out.far (N := fun k => k = p) HG3.out (fun k hk => by have hk' : k = p := hk; have := HG2.out.size; omega))
  rw [hbR]
  clear hp hq hpq hqc hgx hg3 hbR q1 hW1 hW2 HB HH HR HS2
  obtain ⟨N0, hN0⟩ : ∃ N : Nat → Prop, (fun k => k = p) = N := ⟨_, rfl⟩
  rw [hN0] at HGS HWT Hhi3 Hhi23
  clear hN0
  go_wp2_with fail
  refine (HT.out p q N0 w3 0 HGS.out Hhi3.out Hhi23.out).mono ?_
  rintro e w5 ⟨vo, co, N5, h5, rfl, hs5, hgo5, hr5, _⟩
  have HGS5 := Lib.hid hs5
  have HWT5 := Lib.hid (HWT.out.goes hgo5)
  have HR5 := Lib.hid hr5
  clear hs5 hgo5 hr5 HT
  have q0 := HGS5.out.q0
  go_wp2_with fail
  clear q0
  refine (gcircuit2_calls g9 p _ _ _ HGS5.out.gx HL9.out).mono ?_
  rintro e w8 ⟨a8, c8, rfl, hsp8, ho8⟩
  have HD := Lib.hid (HWT5.out.done HGS5.out ho8 hsp8.here)
  have z0 := HD.out.1
  have zf := HD.out.2.1
  clear hsp8 ho8
  go_wp2_with fail
  clear z0 zf
  refine bodyPost_ret (resB20 _ _ bR a8 g9.length c8 (.slice vo n co) rfl rfl HD.out.2.2.1) rfl ?_
  exact ⟨a8, c8, vo, co, by rw [HN9.out], HD.out.2.2.2.1, HD.out.2.2.2.2.2 _ _ _ HR5.out, HD.out.2.2.2.2.1⟩
end Go.Proofs.Ythagoihpppppkaa

/- The circuit that has grown; a growing circuit at its beginning. -/
import Derived.Test.YthagoihpppppkaaM6
namespace Go.Proofs.Ythagoihpppppkaa
open Go.RowKit Go.Maps

theorem results36 (tmps : Array Value) (w : World) (b : Nat) (a : Option Addr) (n c : Nat) (ht : tmps.getD 2 undef = .pointer (some ⟨b, 0, none⟩)) (h0 : w.cell? ⟨b, 0, none⟩ = some (.slice a n c)) :
    (results Try.f40 tmps).run Try.prog w = .ok (.agg #[.slice a n c]) w := by
  have ht' : tmps[2]?.getD undef = .pointer (some ⟨b, 0, none⟩) := by simpa using ht
  simp [results, ht', go_sem, h0, Result.andThen]
set_option maxHeartbeats 1000000 in
theorem gcircuit_calls (hs : List Gt) (p : Nat) (M : Nat → Prop) (w w0 : World) (hi : Int) (h : GX p M w hs hi) (g3 : w0.grownBy w none) (hl : hs.length ≤ 1000) (hp : w0.heap.size ≤ p) :
    Calls Try.prog 40 #[.pointer (some ⟨p, 0, none⟩)] w fun e w' => ∃ a c, e = .returned (.agg #[.slice a hs.length c]) ∧ Span (p + 1) w'.heap.size w' (fun W => GatesW W a c hs) ∧ w0.grownBy w' none := by
  obtain ⟨o, va, vc, mb, vis, g1, g2, _⟩ := h
  have hc := one_cell w (.slice none 0 0) 32
  have hg := World.grownBy_alloc w (.cells #[.slice none 0 0] 32) none
  obtain ⟨W, hW⟩ : ∃ W, w.alloc (.cells #[.slice none 0 0] 32) = W := ⟨_, rfl⟩
  rw [hW] at hc hg
  have HSP : o = true → Hid (Span (p + 1) w.heap.size w (fun W => GatesW W va hs.length hs)) := fun ho => by
    subst ho
    have hr := g1.row
    unfold GRow at hr
    simp only [if_true] at hr
    obtain ⟨a, c, e, hs1⟩ := gates_span hr
    cases e
    exact Lib.hid (hs1.map fun W (hW : GatesW W va vc hs) => ⟨Nat.le_refl _, hW.2⟩)
  have HB := Lib.hid (show p < w.heap.size from lies_lt g1.c0)
  have HG1 := Lib.hid hg
  have HGW := Lib.hid (g1.grown hg)
  have HG := Lib.hid (World.grownBy.trans g3 hg)
  have HC := Lib.hid hc
  have hcs := hc
  obtain ⟨_, r0, rf⟩ := hcs
  obtain ⟨n, hn⟩ : ∃ n, hs.length = n := ⟨_, rfl⟩
  have HN := Lib.hid hn
  clear hg g1 g2 g3 hc hn
  rw [HN.out]
  have k0 := HGW.out.c0; have k1 := HGW.out.c1; have kf := HGW.out.fr 1
  rw [HN.out] at k0
  cases o with
  | false =>
    go_enter Try.func40, Try.ntmps40
    go_wp2_with fail
    have HX := Lib.hid (clone_calls hs va vc W HGW.out.row.gates (by omega))
    rw [HN.out] at HX
    refine HX.out.mono ?_
    rintro e w2 ⟨a', c', rfl, hs2, hg2⟩
    have HG2 := Lib.hid hg2
    have r1 := hg2.cell r0 (by simp)
    have r2 : w2.frozen? ⟨w.heap.size, 0, none⟩ = false := (grown_frozen hg2 HC.out.1 0).trans rf
    have HS := Lib.hid hs2
    clear r0 rf k0 k1 kf hg2 hs2 HX
    go_wp2_with fail
    refine bodyPost_ret (results36 _ _ w.heap.size a' n c' rfl (World.cell?_setCell_same _ _ _ r1)) rfl ⟨a', c', rfl, ?_, ?_⟩
    · exact (HS.out.off (grown_set w2 w.heap.size 0 _) (fun x e => by cases e; exact .inl HC.out.1)).wide (by have h1 := HB.out; have h2 := HC.out.1; omega) (grown_set w2 w.heap.size 0 _).size (Nat.le_refl _)
    · exact grown_own (World.grownBy.trans HG.out HG2.out) (grown_set w2 w.heap.size 0 _) (fun k e => by cases e; have := HB.out; omega)
  | true =>
    have HS := (HSP rfl)
    clear HSP
    rw [HN.out] at HS
    have hvc : n ≤ vc := by rw [← HN.out]; exact HGW.out.row.gates.1
    go_enter Try.func40, Try.ntmps40
    go_wp2_with fail
    have hpn : w.heap.size ≠ p := by have := HB.out; omega
    have k0' : (W.setCell ⟨p, 1, none⟩ (.bool false)).cell? ⟨p, 0, none⟩ = some (.slice va n vc) := by rw [World.cell?_setCell_other _ _ _ _ (ne_at (by decide))]; exact k0
    have r0' : (W.setCell ⟨p, 1, none⟩ (.bool false)).cell? ⟨w.heap.size, 0, none⟩ = some (.slice none 0 0) := by rw [World.cell?_setCell_other _ _ _ _ (by intro e; injection e with e _; exact hpn e.symm)]; exact r0
    have rf' : (W.setCell ⟨p, 1, none⟩ (.bool false)).frozen? ⟨w.heap.size, 0, none⟩ = false := by rw [World.frozen?_setCell]; exact rf
    have HS1 := Lib.hid ((HS.out.grown HG1.out).off (grown_set W p 1 (.bool false)) (fun x e => by cases e; exact .inl (by omega)))
    have HG1b := Lib.hid (grown_own HG.out (grown_set W p 1 (.bool false)) (fun k e => by cases e; exact hp))
    clear k0 k1 kf r0 rf hpn HGW HC HG HG1 HS
    obtain ⟨W1, hW1⟩ : ∃ W1, W.setCell ⟨p, 1, none⟩ (.bool false) = W1 := ⟨_, rfl⟩
    rw [hW1] at k0' r0' rf' HS1 HG1b ⊢
    clear hW1
    go_wp2_with (go_at_call 56; refine (clip_calls va n vc _ hvc).mono ?_; rintro e w2 ⟨rfl, hw2⟩; rw [hw2]; clear hw2 w2)
    refine bodyPost_ret (results36 _ _ w.heap.size va n n rfl (World.cell?_setCell_same _ _ _ r0')) rfl ⟨va, n, rfl, ?_, ?_⟩
    · exact (HS1.out.off (grown_set W1 w.heap.size 0 _) (fun x e => by cases e; exact .inr (Nat.le_refl _))).wide (Nat.le_refl _) (Nat.le_trans HS1.out.1 (grown_set W1 w.heap.size 0 _).size) (Nat.le_refl _)
    · exact grown_own HG1b.out (grown_set W1 w.heap.size 0 _) (fun k e => by cases e; have := HB.out; omega)
theorem GX.of {p : Nat} {w : World} {a : Option Addr} {c : Nat} {gs : List Gt} (h : Grow (p + 1) p w false a c gs 0) : GX p (fun k => k = p) w gs 0 :=
  ⟨false, a, c, none, 0, h.grw, ⟨Int.le_refl _, Int.le_refl _⟩, by
    rintro k (e | ⟨e, _⟩ | e)
    · exact e
    · cases e
    · cases e⟩
/-- What others do, beside a growing circuit. -/
theorem GX.far {p : Nat} {M : Nat → Prop} {w w' : World} {gs : List Gt} {hi : Int} {r : Option Nat} (h : GX p M w gs hi) (hg : w.grownBy w' r) (hr : ∀ x, r = some x → p ≤ x ∧ ¬ M x) : GX p M w' gs hi := by
  obtain ⟨o, a, c, b, v, h1, h2, h3⟩ := h
  exact ⟨o, a, c, b, v, h1.far hg (fun x e => ⟨(hr x e).1, fun m => (hr x e).2 (h3 x m)⟩), h2, h3⟩
theorem GX.grown {p : Nat} {M : Nat → Prop} {w w' : World} {gs : List Gt} {hi : Int} (h : GX p M w gs hi) (hg : w.grownBy w' none) : GX p M w' gs hi := h.far hg (fun x e => by cases e)
theorem GX.wide {p : Nat} {M N : Nat → Prop} {w : World} {gs : List Gt} {hi hi' : Int} (h : GX p M w gs hi) (hm : ∀ k, M k → N k) (hh : hi ≤ hi') : GX p N w gs hi' := by
  obtain ⟨o, a, c, b, v, h1, h2, h3⟩ := h
  exact ⟨o, a, c, b, v, h1, ⟨h2.1, by omega⟩, fun k hk => hm k (h3 k hk)⟩
end Go.Proofs.Ythagoihpppppkaa

/- fromSet: the relation with a set's numbers. -/
import Derived.Test.YtkoigonbncpbaaaA4
namespace Go.Proofs.Ytkoigonbncpbaaa
open Go.RowKit Go.Maps Go.Sort Go.Shelf

theorem keys_calls (mb : Option Nat) (W : World) : Calls Try.prog 57 #[.map mb] W fun e w' => e = .returned (.func (.func 61) #[] #[.pointer (some ⟨W.heap.size, 0, none⟩)]) ∧ w' = W.alloc (.cells #[.map mb] 52) :=
  (callsIn_wide (n := 5)).1 (AnyZI.keys_in Try.keysA Fence.wide 5 trivial rfl mb W)

set_option maxHeartbeats 1000000 in
theorem sorted_calls (Bm b : Nat) (S : List Int) (w : World) (h : SetM w b S) (hm : w.cell? ⟨Bm, 0, none⟩ = some (.map (some b))) (hl : S.length ≤ 100000) :
    Calls Try.prog 56 #[.func (.func 61) #[] #[.pointer (some ⟨Bm, 0, none⟩)]] w fun e w' => ∃ a c, e = .returned (.slice a (uniq S).length c) ∧ Span w.heap.size w'.heap.size w' (fun W => IntsW W a c (uniq S)) ∧ w.grownBy w' none := by
  have hsz := size_keys S
  have hseq : SeqGives Fence.wide 2 Try.prog 61 #[.pointer (some ⟨Bm, 0, none⟩)] encZ (fun ss => ss.Perm (intKeys (Maps.setOf (.lit (.bool true) : DataW Unit) (S.map (Lit.int .i64))))) (Maps.size (Maps.setOf (.lit (.bool true) : DataW Unit) (S.map (Lit.int .i64)))) w :=
    AnyZI.keys_gives (ρ := Try.keysA_ren) { Try.keysA with } Fence.wide _ trivial rfl (by omega) Bm b _ _ _ (lies_lt hm) hm h.1
  have cS := AnyZI.sorted_in Try.sortedA Fence.wide 5 trivial trivial trivial trivial rfl (by omega) (sortsA _) (enters_of Try.func60 (by kernel_rfl) rfl) 61 #[.pointer (some ⟨Bm, 0, none⟩)] trivial (enters_of Try.func61 (by kernel_rfl) rfl) _ _ (by unfold maxLen; omega) (by omega) _ hseq
  change CallsIn _ _ Try.prog 56 _ _ _ at cS
  refine ((callsIn_wide (n := 5)).1 cS).mono ?_
  rintro e w' ⟨v, ss, rfl, hp, hrow, _, hb⟩
  have hk := sorted_keys h hp
  have hn : ss.length = (uniq S).length := by
    have := (List.mergeSort_perm ss (fun x y => decide (x ≤ y))).length_eq
    rw [hk] at this
    exact this.symm
  rw [hk, hn] at hrow
  obtain ⟨a, c, rfl, hs⟩ := span_own rfl hrow
  exact ⟨a, c, rfl, hs, grown_of_below hb⟩

theorem results45 (tmps : Array Value) (w : World) (b : Nat) (a : Option Addr) (n c : Nat) (x : Int) (ht : tmps.getD 4 undef = .pointer (some ⟨b, 0, none⟩)) (h0 : w.cell? ⟨b, 0, none⟩ = some (.int .i64 x)) (h1 : w.cell? ⟨b, 1, none⟩ = some (.slice a n c)) :
    (results Try.f45 tmps).run Try.prog w = .ok (.agg #[.int .i64 x, .slice a n c]) w := by
  have ht' : tmps[4]?.getD undef = .pointer (some ⟨b, 0, none⟩) := by simpa using ht
  simp [results, ht', go_sem, h0, h1, Result.andThen]

set_option maxRecDepth 100000 in
set_option maxHeartbeats 2000000 in
theorem fromSet_calls (k : Int) (b : Nat) (S : List Int) (w : World) (h : SetM w b S) (hl : S.length ≤ 100000) :
    Calls Try.prog 45 #[.int .i64 k, .map (some b)] w fun e w' => ∃ a c, e = .returned (.agg #[.int .i64 k, .slice a (uniq S).length c]) ∧ Span w.heap.size w'.heap.size w' (fun W => IntsW W a c (uniq S)) ∧ w.grownBy w' none := by
  obtain ⟨p, hp⟩ : ∃ p, (uniq S).length = p := ⟨_, rfl⟩
  have hg := World.grownBy_alloc w (.cells #[.int .i64 0, .slice none 0 0] 27) none
  have e0 : (w.alloc (.cells #[.int .i64 0, .slice none 0 0] 27)).cell? ⟨w.heap.size, 0, none⟩ = some (.int .i64 0) := by go_simp
  have e1 : (w.alloc (.cells #[.int .i64 0, .slice none 0 0] 27)).cell? ⟨w.heap.size, 1, none⟩ = some (.slice none 0 0) := by go_simp
  have ef0 : (w.alloc (.cells #[.int .i64 0, .slice none 0 0] 27)).frozen? ⟨w.heap.size, 0, none⟩ = false := by go_simp
  have ef1 : (w.alloc (.cells #[.int .i64 0, .slice none 0 0] 27)).frozen? ⟨w.heap.size, 1, none⟩ = false := by go_simp
  obtain ⟨W, hW⟩ : ∃ W, w.alloc (.cells #[.int .i64 0, .slice none 0 0] 27) = W := ⟨_, rfl⟩
  have hsz : W.heap.size = w.heap.size + 1 := by rw [← hW]; simp
  rw [hW] at hg e0 e1 ef0 ef1
  have hga := World.grownBy_alloc W (.cells #[.map (some b)] 52) none
  have hm : (W.alloc (.cells #[.map (some b)] 52)).cell? ⟨W.heap.size, 0, none⟩ = some (.map (some b)) := by go_simp
  have hS := (h.grown hg (by simp)).grown hga (by simp)
  have HC := Lib.hid (sorted_calls W.heap.size b S _ hS hm hl)
  rw [hp] at HC ⊢
  obtain ⟨W2, hW2⟩ : ∃ W2, W.alloc (.cells #[.map (some b)] 52) = W2 := ⟨_, rfl⟩
  rw [hW2] at HC hga
  have HG := Lib.hid (And.intro hg (And.intro hga hsz))
  have HE := Lib.hid (And.intro e0 (And.intro e1 (And.intro ef0 ef1)))
  clear hg hga hsz hm hS h e0 e1 ef0 ef1
  go_enter Try.func45, Try.ntmps45
  go_wp2_with (go_at_call 57; refine (keys_calls _ _).mono ?_; rintro e w' ⟨rfl, rfl⟩)
  clear hW
  refine HC.out.mono ?_
  rintro e w3 ⟨a', c', rfl, hi, g3⟩
  have HI := Lib.hid hi; clear hi
  have g := HG.out.2.1.trans g3
  have m0 := g.cell HE.out.1 (by simp)
  have m1 := g.cell HE.out.2.1 (by simp)
  have f0 := (grown_frozen g (show w.heap.size < W.heap.size by have := HG.out.2.2; omega) 0).trans HE.out.2.2.1
  have f1 := (grown_frozen g (show w.heap.size < W.heap.size by have := HG.out.2.2; omega) 1).trans HE.out.2.2.2
  have HG3 := Lib.hid (And.intro g g3); clear g g3
  go_wp2_with fail
  refine bodyPost_ret (results45 _ _ w.heap.size a' p c' k rfl (by rw [World.cell?_setCell_other _ _ _ _ (by intro e; injection e with _ e; cases e)]; exact World.cell?_setCell_same _ _ _ m0) (World.cell?_setCell_same _ _ _ (by rw [World.cell?_setCell_other _ _ _ _ (by intro e; injection e with _ e; cases e)]; exact m1))) rfl ⟨a', c', rfl, ?_, ?_⟩
  · have h1 := (HI.out.off (grown_set _ w.heap.size 0 (.int .i64 k)) (fun x e => by cases e; have := HG.out.2.2; have := HG.out.2.1.size; exact .inl (by omega))).off (grown_set _ w.heap.size 1 (.slice a' p c')) (fun x e => by cases e; have := HG.out.2.2; have := HG.out.2.1.size; exact .inl (by omega))
    exact h1.wide (by have := HG.out.2.2; have := HG.out.2.1.size; omega) (by simp [World.setCell]) (Nat.le_refl _)
  · exact grown_own (grown_own (HG.out.1.trans HG3.out.1) (grown_set _ w.heap.size 0 _) (fun k hk => by cases hk; omega)) (grown_set _ w.heap.size 1 _) (fun k hk => by cases hk; omega)
end Go.Proofs.Ytkoigonbncpbaaa

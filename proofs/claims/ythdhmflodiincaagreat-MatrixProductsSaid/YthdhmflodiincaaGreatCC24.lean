/- Texts of the proof: UL1 UN VA WA. -/
import Derived.Test.YthdhmflodiincaaGreatCC23
import Derived.Shelf.SlIterI.Nil
import Derived.Shelf.SortM.Plain
import Derived.Shelf.SortM.SortNone
import Derived.Ground.GgzProg
import Derived.Ground.SlgmProg
import Derived.Test.YthdhmflodiincaaGreatCC22
import Derived.Test.YthdhmflodiincaaGreatCC15
set_option maxRecDepth 100000
set_option maxHeartbeats 8000000
namespace Go.Proofs.YthdhmflodiincaaGreat
open Go.RowKit Go.Maps Go.Sort Go.Shelf
set_option maxRecDepth 100000

def Tryz.keysA_ren : Go.Shelf.Ren := ⟨fun | 7 => 91 | 10 => 106 | n => n, fun | 23 => 90 | 26 => 3 | 3 => 4 | 28 => 92 | 0 => 0 | 27 => 91 | 33 => 109 | 4 => 4 | n => n, fun | n => n⟩
theorem Tryz.keysA : Go.Proofs.SlLaysZI.n7 Tryz.prog Tryz.keysA_ren where
 mixed := by kernel_rfl
 f7 := ⟨Tryz.f91.name, of_decide_eq_true (by kernel_rfl), Tryz.func91.trans (congrArg some (by kernel_rfl))⟩
 f10 := ⟨Tryz.f106.name, of_decide_eq_true (by kernel_rfl), Tryz.func106.trans (congrArg some (by kernel_rfl))⟩
 t0 := Tryz.underlying0
 a0 := Tryz.isAgg0
 z0 := Tryz.sizeOf0
 v0 := Tryz.zeroValue0
 t4 := Tryz.underlying4
 a4 := Tryz.isAgg4
 z4 := Tryz.sizeOf4
 v4 := Tryz.zeroValue4
 t23 := Tryz.underlying90
 a23 := Tryz.isAgg90
 z23 := Tryz.sizeOf90
 v23 := Tryz.zeroValue90
 t26 := Tryz.underlying3
 a26 := Tryz.isAgg3
 z26 := Tryz.sizeOf3
 v26 := Tryz.zeroValue3
 t27 := Tryz.underlying91
 a27 := Tryz.isAgg91
 z27 := Tryz.sizeOf91
 v27 := Tryz.zeroValue91
 t28 := Tryz.underlying92
 a28 := Tryz.isAgg92
 z28 := Tryz.sizeOf92
 v28 := Tryz.zeroValue92
 t33 := Tryz.underlying109
 a33 := Tryz.isAgg109
 z33 := Tryz.sizeOf109
 v33 := Tryz.zeroValue109
def Tryz.sortedA_ren : Go.Shelf.Ren := ⟨fun | 6 => 90 | 8 => 104 | 9 => 105 | 11 => 118 | 13 => 102 | 12 => 119 | 23 => 116 | 24 => 117 | 14 => 125 | 15 => 126 | 16 => 127 | 17 => 128 | 18 => 129 | 19 => 130 | 20 => 131 | 21 => 132 | 22 => 133 | 25 => 135 | 26 => 121 | 27 => 122 | 28 => 136 | 29 => 137 | 30 => 103 | 31 => 138 | n => n, fun | 26 => 3 | 28 => 92 | 24 => 28 | 0 => 0 | 3 => 3 | 37 => 131 | 48 => 142 | 50 => 144 | 4 => 4 | 40 => 136 | 39 => 135 | 45 => 87 | 5 => 5 | 9 => 9 | 51 => 147 | 55 => 151 | 57 => 159 | 58 => 160 | 33 => 109 | n => n, fun | n => n⟩
theorem Tryz.sortedA : Go.Proofs.SlLaysZI.n6 Tryz.prog Tryz.sortedA_ren where
 mixed := by kernel_rfl
 f6 := ⟨Tryz.f90.name, of_decide_eq_true (by kernel_rfl), Tryz.func90.trans (congrArg some (by kernel_rfl))⟩
 f8 := ⟨Tryz.f104.name, of_decide_eq_true (by kernel_rfl), Tryz.func104.trans (congrArg some (by kernel_rfl))⟩
 f11 := ⟨Tryz.f118.name, of_decide_eq_true (by kernel_rfl), Tryz.func118.trans (congrArg some (by kernel_rfl))⟩
 t0 := Tryz.underlying0
 a0 := Tryz.isAgg0
 z0 := Tryz.sizeOf0
 v0 := Tryz.zeroValue0
 t24 := Tryz.underlying28
 a24 := Tryz.isAgg28
 z24 := Tryz.sizeOf28
 v24 := Tryz.zeroValue28
 t26 := Tryz.underlying3
 a26 := Tryz.isAgg3
 z26 := Tryz.sizeOf3
 v26 := Tryz.zeroValue3
 t28 := Tryz.underlying92
 a28 := Tryz.isAgg92
 z28 := Tryz.sizeOf92
 v28 := Tryz.zeroValue92
 i26 := by kernel_rfl
def Tryz.sortA_ren : Go.Shelf.Ren := ⟨fun | 5 => 105 | 8 => 102 | 7 => 119 | 19 => 116 | 20 => 117 | 10 => 125 | 11 => 126 | 12 => 127 | 13 => 128 | 14 => 129 | 15 => 130 | 16 => 131 | 17 => 132 | 18 => 133 | 30 => 135 | 31 => 121 | 32 => 122 | 33 => 136 | 34 => 137 | 35 => 103 | 40 => 138 | n => n, fun | 23 => 28 | 25 => 3 | 3 => 3 | 32 => 131 | 22 => 28 | 0 => 0 | 44 => 142 | 46 => 144 | 4 => 4 | 36 => 136 | 35 => 135 | 41 => 87 | 5 => 5 | 9 => 9 | 53 => 147 | 57 => 151 | 63 => 159 | 64 => 160 | n => n, fun | n => n⟩
theorem Tryz.sortA : Go.Proofs.SlLaysM.n5 Tryz.prog Tryz.sortA_ren where
 mixed := by kernel_rfl
 f5 := ⟨Tryz.f105.name, of_decide_eq_true (by kernel_rfl), Tryz.func105.trans (congrArg some (by kernel_rfl))⟩
 f7 := ⟨Tryz.f119.name, of_decide_eq_true (by kernel_rfl), Tryz.func119.trans (congrArg some (by kernel_rfl))⟩
 f8 := Tryz.func102.trans (congrArg some (by kernel_rfl))
 f10 := ⟨Tryz.f125.name, of_decide_eq_true (by kernel_rfl), Tryz.func125.trans (congrArg some (by kernel_rfl))⟩
 f11 := ⟨Tryz.f126.name, of_decide_eq_true (by kernel_rfl), Tryz.func126.trans (congrArg some (by kernel_rfl))⟩
 f12 := ⟨Tryz.f127.name, of_decide_eq_true (by kernel_rfl), Tryz.func127.trans (congrArg some (by kernel_rfl))⟩
 f13 := ⟨Tryz.f128.name, of_decide_eq_true (by kernel_rfl), Tryz.func128.trans (congrArg some (by kernel_rfl))⟩
 f14 := ⟨Tryz.f129.name, of_decide_eq_true (by kernel_rfl), Tryz.func129.trans (congrArg some (by kernel_rfl))⟩
 f15 := ⟨Tryz.f130.name, of_decide_eq_true (by kernel_rfl), Tryz.func130.trans (congrArg some (by kernel_rfl))⟩
 f16 := ⟨Tryz.f131.name, of_decide_eq_true (by kernel_rfl), Tryz.func131.trans (congrArg some (by kernel_rfl))⟩
 f17 := ⟨Tryz.f132.name, of_decide_eq_true (by kernel_rfl), Tryz.func132.trans (congrArg some (by kernel_rfl))⟩
 f18 := ⟨Tryz.f133.name, of_decide_eq_true (by kernel_rfl), Tryz.func133.trans (congrArg some (by kernel_rfl))⟩
 f19 := Tryz.func116.trans (congrArg some (by kernel_rfl))
 f20 := Tryz.func117.trans (congrArg some (by kernel_rfl))
 f30 := ⟨Tryz.f135.name, of_decide_eq_true (by kernel_rfl), Tryz.func135.trans (congrArg some (by kernel_rfl))⟩
 f31 := Tryz.func121.trans (congrArg some (by kernel_rfl))
 f32 := Tryz.func122.trans (congrArg some (by kernel_rfl))
 f33 := ⟨Tryz.f136.name, of_decide_eq_true (by kernel_rfl), Tryz.func136.trans (congrArg some (by kernel_rfl))⟩
 f34 := ⟨Tryz.f137.name, of_decide_eq_true (by kernel_rfl), Tryz.func137.trans (congrArg some (by kernel_rfl))⟩
 f35 := ⟨Tryz.f103.name, of_decide_eq_true (by kernel_rfl), Tryz.func103.trans (congrArg some (by kernel_rfl))⟩
 f40 := ⟨Tryz.f138.name, of_decide_eq_true (by kernel_rfl), Tryz.func138.trans (congrArg some (by kernel_rfl))⟩
 t0 := Tryz.underlying0
 a0 := Tryz.isAgg0
 z0 := Tryz.sizeOf0
 v0 := Tryz.zeroValue0
 t3 := Tryz.underlying3
 a3 := Tryz.isAgg3
 z3 := Tryz.sizeOf3
 v3 := Tryz.zeroValue3
 t4 := Tryz.underlying4
 a4 := Tryz.isAgg4
 z4 := Tryz.sizeOf4
 v4 := Tryz.zeroValue4
 t5 := Tryz.underlying5
 a5 := Tryz.isAgg5
 z5 := Tryz.sizeOf5
 v5 := Tryz.zeroValue5
 t9 := Tryz.underlying9
 a9 := Tryz.isAgg9
 z9 := Tryz.sizeOf9
 v9 := Tryz.zeroValue9
 t22 := Tryz.underlying28
 a22 := Tryz.isAgg28
 z22 := Tryz.sizeOf28
 v22 := Tryz.zeroValue28
 t23 := Tryz.underlying28
 a23 := Tryz.isAgg28
 z23 := Tryz.sizeOf28
 v23 := Tryz.zeroValue28
 t25 := Tryz.underlying3
 a25 := Tryz.isAgg3
 z25 := Tryz.sizeOf3
 v25 := Tryz.zeroValue3
 t32 := Tryz.underlying131
 a32 := Tryz.isAgg131
 z32 := Tryz.sizeOf131
 v32 := Tryz.zeroValue131
 t35 := Tryz.underlying135
 a35 := Tryz.isAgg135
 z35 := Tryz.sizeOf135
 v35 := Tryz.zeroValue135
 t36 := Tryz.underlying136
 a36 := Tryz.isAgg136
 z36 := Tryz.sizeOf136
 v36 := Tryz.zeroValue136
 t41 := Tryz.underlying87
 a41 := Tryz.isAgg87
 z41 := Tryz.sizeOf87
 v41 := Tryz.zeroValue87
 t44 := Tryz.underlying142
 a44 := Tryz.isAgg142
 z44 := Tryz.sizeOf142
 v44 := Tryz.zeroValue142
 t46 := Tryz.underlying144
 a46 := Tryz.isAgg144
 z46 := Tryz.sizeOf144
 v46 := Tryz.zeroValue144
 t53 := Tryz.underlying147
 a53 := Tryz.isAgg147
 z53 := Tryz.sizeOf147
 v53 := Tryz.zeroValue147
 t57 := Tryz.underlying151
 a57 := Tryz.isAgg151
 z57 := Tryz.sizeOf151
 v57 := Tryz.zeroValue151
 t63 := Tryz.underlying159
 a63 := Tryz.isAgg159
 z63 := Tryz.sizeOf159
 v63 := Tryz.zeroValue159
 t64 := Tryz.underlying160
 a64 := Tryz.isAgg160
 z64 := Tryz.sizeOf160
 v64 := Tryz.zeroValue160
theorem sortsA (m : Nat) : AnyZI.SortsIn Tryz.prog Tryz.sortedA_ren Fence.wide m :=
  ⟨fun blk off cap ss W hH hblk hsz => callsIn_wide.2 (AnyM.slices_Sort_int Tryz.sortA blk off cap ss W hH hblk hsz),
   fun p cap W => callsIn_wide.2 (AnyM.slices_Sort_int_none Tryz.sortA p cap W)⟩

theorem sorted_keys {w : World} {b : Nat} {S ss : List Int} (h : SetM w b S) (hp : ss.Perm (intKeys (Maps.setOf (.lit (.bool true) : DataW Unit) (S.map (Lit.int .i64))))) :
  (ss.mergeSort fun x y => decide (x ≤ y)) = ofTo S S.length := by
 obtain ⟨es, hes, hpw⟩ := h.1.tidy (Maps.int_keyed Tryz.underlying3)
 have hm := mem_keys S
 rw [hes] at hp hm
 have hko : ∀ p ∈ es, ∃ x, p.1 = .int .i64 x := by
  obtain ⟨es0, clock, _, F, _, hD⟩ := h.1
  rw [hes] at hD
  injection hD with hD
  intro p hp
  rw [hD] at hp
  obtain ⟨x, hx, rfl⟩ := List.mem_map.1 (mem_sorted.1 hp)
  obtain ⟨y, hy⟩ := F.reads x hx
  rw [Go.WideElems.rg_of hy]
  have hv := Go.WideElems.rd_key hy
  obtain ⟨z, _, hz, _⟩ := Maps.keyOf_i64 Tryz.underlying3 hv
  exact ⟨z, hz⟩
 have hmem : ∀ x, x ∈ ss ↔ x ∈ S := fun x => by
  rw [hp.mem_iff, ← hm x, Maps.has_eq, List.any_eq_true]
  show x ∈ es.map (fun p => Go.intOf p.1) ↔ _
  rw [List.mem_map]
  constructor
  ·
   rintro ⟨p, hp', rfl⟩
   obtain ⟨a, ha⟩ := hko p hp'
   exact ⟨p, hp', by rw [ha]; simp [Lit.sameKey, Go.intOf]⟩
  ·
   rintro ⟨p, hp', hs⟩
   obtain ⟨a, ha⟩ := hko p hp'
   rw [ha] at hs
   exact ⟨p, hp', by rw [ha]; simpa [Lit.sameKey, Go.intOf] using hs⟩
 have hnd : ss.Nodup := by
  refine hp.symm.nodup ?_
  show (es.map fun p => Go.intOf p.1).Nodup
  refine List.pairwise_map.2 (hpw.imp_of_mem fun {p q} hp' hq' hne e => hne ?_)
  obtain ⟨a, ha⟩ := hko p hp'
  obtain ⟨b, hb⟩ := hko q hq'
  rw [ha, hb] at e ⊢
  exact congrArg _ e
 have hps := List.mergeSort_perm ss (fun x y => decide (x ≤ y))
 have hnd2 : (ss.mergeSort fun x y => decide (x ≤ y)).Nodup := hps.symm.nodup hnd
 have hle : (ss.mergeSort fun x y => decide (x ≤ y)).Pairwise (fun a b => decide (a ≤ b) = true) :=
  List.pairwise_mergeSort (fun a b c h1 h2 => by simp only [decide_eq_true_eq] at *; omega) (fun a b => by simp only [Bool.or_eq_true, decide_eq_true_eq]; omega) ss
 refine up_ext ?_ ofTo_up fun x => ?_
 ·
  refine (hle.and hnd2).imp fun {a b} h => ?_
  have h1 := of_decide_eq_true h.1
  have h2 := h.2
  omega
 ·
  rw [hps.mem_iff, hmem x, mem_ofTo]
  constructor
  ·
   intro hx
   obtain ⟨j, hj, e⟩ := List.getElem_of_mem hx
   exact ⟨j, hj, by rw [List.getElem?_eq_getElem hj, e]⟩
  ·
   rintro ⟨j, _, e⟩
   exact List.mem_of_getElem? e

theorem grown_of_below {w w' : World} (h : Below w.heap.size w w') : w.grownBy w' none := ⟨h.os, h.tape, h.output, h.size, fun k hk _ => h.block k hk⟩
theorem span_own {w w' : World} {v : Value} {n : Nat} {l : List Int} (hn : l.length = n) (h : w'.ownsRow w.heap.size 3 1 v n (intCells l)) : ∃ a c, v = .slice a n c ∧ Span w.heap.size w'.heap.size w' (fun W => IntsW W a c l) := by
 subst hn
 obtain ⟨a, c, e, hs⟩ := ints_span h
 exact ⟨a, c, e, hs.map fun W hW => hW.weak⟩

theorem keys_calls (mb : Option Nat) (W : World) : Calls Tryz.prog 91 #[.map mb] W fun e w' => e = .returned (.func (.func 106) #[] #[.pointer (some ⟨W.heap.size, 0, none⟩)]) ∧ w' = W.alloc (.cells #[.map mb] 90) :=
 (callsIn_wide (n := 5)).1 (AnyZI.keys_in Tryz.keysA Fence.wide 5 trivial rfl mb W)

theorem sorted_calls (Bm b : Nat) (S : List Int) (w : World) (h : SetM w b S) (hm : w.cell? ⟨Bm, 0, none⟩ = some (.map (some b))) (hl : S.length ≤ 100000) :
  Calls Tryz.prog 90 #[.func (.func 106) #[] #[.pointer (some ⟨Bm, 0, none⟩)]] w fun e w' => ∃ a c, e = .returned (.slice a (uniq S).length c) ∧ Span w.heap.size w'.heap.size w' (fun W => IntsW W a c (uniq S)) ∧ w.grownBy w' none := by
 have hsz := size_keys S
 have hseq : SeqGives Fence.wide 2 Tryz.prog 106 #[.pointer (some ⟨Bm, 0, none⟩)] encZ (fun ss => ss.Perm (intKeys (Maps.setOf (.lit (.bool true) : DataW Unit) (S.map (Lit.int .i64))))) (Maps.size (Maps.setOf (.lit (.bool true) : DataW Unit) (S.map (Lit.int .i64)))) w :=
  AnyZI.keys_gives (ρ := Tryz.keysA_ren) { Tryz.keysA with } Fence.wide _ trivial rfl (by omega) Bm b _ _ _ (lies_lt hm) hm h.1
 have cS := AnyZI.sorted_in Tryz.sortedA Fence.wide 5 trivial trivial trivial trivial rfl (by omega) (sortsA _) (enters_of Tryz.func105 (by kernel_rfl) rfl) 106 #[.pointer (some ⟨Bm, 0, none⟩)] trivial (enters_of Tryz.func106 (by kernel_rfl) rfl) _ _ (by unfold maxLen; omega) (by omega) _ hseq
 change CallsIn _ _ Tryz.prog 90 _ _ _ at cS
 refine ((callsIn_wide (n := 5)).1 cS).mono ?_
 rintro e w' ⟨v, ss, rfl, hp, hrow, _, hb⟩
 have hk := sorted_keys h hp
 have hn : ss.length = (uniq S).length := by
  have := (List.mergeSort_perm ss (fun x y => decide (x ≤ y))).length_eq
  rw [hk] at this
  exact this.symm
 rw [hk, hn] at hrow
 obtain ⟨a, c, rfl, hs⟩ := span_own rfl hrow
 exact ⟨a, c, rfl, hs, grown_of_below hb⟩

theorem relres110 (tmps : Array Value) (w : World) (b : Nat) (a : Option Addr) (n c : Nat) (x : Int) (ht : tmps.getD 4 undef = .pointer (some ⟨b, 0, none⟩)) (h0 : w.cell? ⟨b, 0, none⟩ = some (.int .i64 x)) (h1 : w.cell? ⟨b, 1, none⟩ = some (.slice a n c)) :
  (results Tryz.f57 tmps).run Tryz.prog w = .ok (.agg #[.int .i64 x, .slice a n c]) w := by
 have ht' : tmps[4]?.getD undef = .pointer (some ⟨b, 0, none⟩) := by simpa using ht
 simp [results, ht', go_sem, h0, h1, Result.andThen]

theorem fromSet_calls (k : Int) (b : Nat) (S : List Int) (w : World) (h : SetM w b S) (hl : S.length ≤ 100000) :
  Calls Tryz.prog 57 #[.int .i64 k, .map (some b)] w fun e w' => ∃ a c, e = .returned (.agg #[.int .i64 k, .slice a (uniq S).length c]) ∧ Span w.heap.size w'.heap.size w' (fun W => IntsW W a c (uniq S)) ∧ w.grownBy w' none := by
 obtain ⟨p, hp⟩ : ∃ p, (uniq S).length = p := ⟨_, rfl⟩
 have hg := gAl w (.cells #[.int .i64 0, .slice none 0 0] 40) none
 have e0 : (w.alloc (.cells #[.int .i64 0, .slice none 0 0] 40)).cell? ⟨w.heap.size, 0, none⟩ = some (.int .i64 0) := by go_simp
 have e1 : (w.alloc (.cells #[.int .i64 0, .slice none 0 0] 40)).cell? ⟨w.heap.size, 1, none⟩ = some (.slice none 0 0) := by go_simp
 have ef0 : (w.alloc (.cells #[.int .i64 0, .slice none 0 0] 40)).frozen? ⟨w.heap.size, 0, none⟩ = false := by go_simp
 have ef1 : (w.alloc (.cells #[.int .i64 0, .slice none 0 0] 40)).frozen? ⟨w.heap.size, 1, none⟩ = false := by go_simp
 obtain ⟨W, hW⟩ : ∃ W, w.alloc (.cells #[.int .i64 0, .slice none 0 0] 40) = W := ⟨_, rfl⟩
 have hsz : W.heap.size = w.heap.size + 1 := by rw [← hW]; simp
 rw [hW] at hg e0 e1 ef0 ef1
 have hga := gAl W (.cells #[.map (some b)] 90) none
 have hm : (W.alloc (.cells #[.map (some b)] 90)).cell? ⟨W.heap.size, 0, none⟩ = some (.map (some b)) := by go_simp
 have hS := (h.grown hg (by simp)).grown hga (by simp)
 have HC := Lib.hid (sorted_calls W.heap.size b S _ hS hm hl)
 rw [hp] at HC ⊢
 obtain ⟨W2, hW2⟩ : ∃ W2, W.alloc (.cells #[.map (some b)] 90) = W2 := ⟨_, rfl⟩
 rw [hW2] at HC hga
 have HG := Lib.hid (And.intro hg (And.intro hga hsz))
 have HE := Lib.hid (And.intro e0 (And.intro e1 (And.intro ef0 ef1)))
 clear hg hga hsz hm hS h e0 e1 ef0 ef1
 go_enter Tryz.func57, Tryz.ntmps57
 go_wp2_with (go_at_call 91; refine (keys_calls _ _).mono ?_; rintro e w' ⟨rfl, rfl⟩)
 clear hW
 refine HC.out.mono ?_
 rintro e w3 ⟨a', c', rfl, hi, g3⟩
 have HI := Lib.hid hi; clear hi
 have g := HG.out.2.1.trans g3
 have m0 := g.cell HE.out.1 (by simp)
 have m1 := g.cell HE.out.2.1 (by simp)
 have f0 := (grown_frozen g (show w.heap.size < W.heap.size by have := HG.out.2.2; omega) 0).trans HE.out.2.2.1
 have f1 := (grown_frozen g (show w.heap.size < W.heap.size by have := HG.out.2.2; omega) 1).trans HE.out.2.2.2
 have HG3 := Lib.hid (And.intro g g3); clear g g3
 go_wp2_with fail
 refine bodyPost_ret (relres110 _ _ w.heap.size a' p c' k rfl (by rw [World.cell?_setCell_other _ _ _ _ (by intro e; injection e with _ e; cases e)]; exact World.cell?_setCell_same _ _ _ m0) (World.cell?_setCell_same _ _ _ (by rw [World.cell?_setCell_other _ _ _ _ (by intro e; injection e with _ e; cases e)]; exact m1))) rfl ⟨a', c', rfl, ?_, ?_⟩
 ·
  have h1 := (HI.out.off (grown_set _ w.heap.size 0 (.int .i64 k)) (fun x e => by cases e; have := HG.out.2.2; have := HG.out.2.1.size; exact .inl (by omega))).off (grown_set _ w.heap.size 1 (.slice a' p c')) (fun x e => by cases e; have := HG.out.2.2; have := HG.out.2.1.size; exact .inl (by omega))
  exact h1.wide (by have := HG.out.2.2; have := HG.out.2.1.size; omega) (by simp [World.setCell]) (Nat.le_refl _)
 · exact grown_own (grown_own (HG.out.1.trans HG3.out.1) (grown_set _ w.heap.size 0 _) (fun k hk => by cases hk; omega)) (grown_set _ w.heap.size 1 _) (fun k hk => by cases hk; omega)


theorem relres67 (tmps : Array Value) (w : World) (b : Nat) (a : Option Addr) (n c : Nat) (x : Int) (ht : tmps.getD 4 undef = .pointer (some ⟨b, 0, none⟩)) (h0 : w.cell? ⟨b, 0, none⟩ = some (.int .i64 x)) (h1 : w.cell? ⟨b, 1, none⟩ = some (.slice a n c)) :
  (results Tryz.f20 tmps).run Tryz.prog w = .ok (.agg #[.int .i64 x, .slice a n c]) w := by
 have ht' : tmps[4]?.getD undef = .pointer (some ⟨b, 0, none⟩) := by simpa using ht
 simp [results, ht', go_sem, h0, h1, Result.andThen]

def turnL (n : Nat) (xs : List Int) : List Int := xs.map fun x => x % (n : Int) * n + x / n
theorem turn_take {n : Nat} {xs : List Int} {i : Nat} {x : Int} (h : xs[i]? = some x) : turnL n (xs.take (i + 1)) = turnL n (xs.take i) ++ [x % (n : Int) * n + x / n] := by
 unfold turnL
 rw [List.take_add_one, h]
 simp

theorem relTurn_calls (n : Nat) (k : Int) (xs : List Int) (xa : Option Addr) (xc : Nat) (w : World) (h : IntsW w xa xc xs) (hl : xs.length ≤ 100000) (hn : 1 ≤ n) (hn2 : n ≤ 12) (hx : ∀ x ∈ xs, 0 ≤ x ∧ x ≤ 2000) :
  Calls Tryz.prog 20 #[.int .i64 (n : Int), .agg #[.int .i64 k, .slice xa xs.length xc]] w fun e w' => ∃ a c, e = .returned (.agg #[.int .i64 k, .slice a (uniq (turnL n xs)).length c]) ∧ Span w.heap.size w'.heap.size w' (fun W => IntsW W a c (uniq (turnL n xs))) ∧ w.grownBy w' none := by
 obtain ⟨m, hm⟩ : ∃ m, xs.length = m := ⟨_, rfl⟩
 obtain ⟨p, hp⟩ : ∃ p, (uniq (turnL n xs)).length = p := ⟨_, rfl⟩
 have hc := two_cells w (.int .i64 k) (.slice xa m xc) (.int .i64 0) (.slice none 0 0) 40 40
 have hg := (gAl w (.cells #[.int .i64 k, .slice xa m xc] 40) none).trans (gAl (w.alloc (.cells #[.int .i64 k, .slice xa m xc] 40)) (.cells #[.int .i64 0, .slice none 0 0] 40) none)
 have hsz : ((w.alloc (.cells #[.int .i64 k, .slice xa m xc] 40)).alloc (.cells #[.int .i64 0, .slice none 0 0] 40)).heap.size = w.heap.size + 2 := by simp
 obtain ⟨W, hW⟩ : ∃ W, (w.alloc (.cells #[.int .i64 k, .slice xa m xc] 40)).alloc (.cells #[.int .i64 0, .slice none 0 0] 40) = W := ⟨_, rfl⟩
 rw [hW] at hc hg hsz
 have HH := Lib.hid (And.intro (h.grown hg) (And.intro hm hx))
 have hl' := hl
 rw [hm] at hl' ⊢
 have HP := Lib.hid hp
 rw [hp]
 clear h hm hx hp hl
 have HG := Lib.hid (And.intro hg hsz); clear hg hsz
 have HC := Lib.hid hc
 obtain ⟨_, c0, c1, d0, d1, f0, f1⟩ := hc
 have hmm := @run_makeMap Tryz.prog
 have hga := gAl W (.map #[] 0) none
 have c1' := hga.cell c1 (by simp)
 go_enter Tryz.func20, Tryz.ntmps20
 go_wp2_with fail
 clear hW
 have hnew := SetM.new W
 obtain ⟨W0, hW0⟩ : ∃ W0, W.alloc (.map #[] 0) = W0 := ⟨_, rfl⟩
 rw [hW0] at hnew hga ⊢
 clear hW0 c1' c0 c1 d0 d1 f0 f1 hmm
 have HN := Lib.hid (And.intro hnew hga); clear hnew hga
 go_loopg [12] m (fun g s12 wr => ∃ (i : Nat), s12 = .int .i64 (i : Int) ∧ g = m - i ∧ i ≤ m ∧ SetM wr W.heap.size (turnL n (xs.take i)) ∧ W.grownBy wr none)
 case atStart => exact ⟨0, rfl, rfl, Nat.zero_le _, HN.out.1, HN.out.2⟩
 case round =>
  obtain ⟨i, rfl, hgk, hi, hsd, hgr⟩ := hrel
  have HSD := Lib.hid hsd; clear hsd
  have HWR := Lib.hid hgr; clear hgr
  have HI := Lib.hid hgk; clear hgk
  by_cases hin : i < m
  ·
   have hinB : decide (i < m) = true := by simpa using hin
   have hinI : (i : Int) < (m : Int) := by omega
   obtain ⟨z, hz⟩ : ∃ z, xs[i]? = some z := ⟨_, List.getElem?_eq_getElem (by rw [HH.out.2.1]; exact hin)⟩
   obtain ⟨b, o, rfl, hcell0⟩ := HH.out.1.at hz
   have hzb := HH.out.2.2 z (List.mem_of_getElem? hz)
   obtain ⟨x, rfl⟩ : ∃ x : Nat, z = (x : Int) := ⟨z.toNat, by omega⟩
   obtain ⟨r, hr⟩ : ∃ r, x % n = r := ⟨_, rfl⟩
   obtain ⟨q, hq⟩ : ∃ q, x / n = q := ⟨_, rfl⟩
   have hT := turn_take (n := n) hz
   have hri : (x : Int) % (n : Int) = (r : Int) := by omega
   have hqi : (x : Int) / (n : Int) = (q : Int) := by rw [← hq]; rfl
   have hrn : r < n := by rw [← hr]; exact Nat.mod_lt _ (by omega)
   have hqx : q ≤ 2000 := by rw [← hq]; exact Nat.le_trans (Nat.div_le_self _ _) (by omega)
   have hrq : r * n ≤ 144 := Nat.le_trans (Nat.mul_le_mul (Nat.le_of_lt hrn) (Nat.le_refl n)) (by have := Nat.mul_le_mul hn2 hn2; omega)
   rw [hri, hqi] at hT
   obtain ⟨P, hP⟩ : ∃ P, r * n = P := ⟨_, rfl⟩
   obtain ⟨V, hV⟩ : ∃ V, P + q = V := ⟨_, rfl⟩
   have hPi : (r : Int) * (n : Int) = (P : Int) := by rw [← hP]; simp
   have HT := Lib.hid (show turnL n (xs.take (i + 1)) = turnL n (xs.take i) ++ [(V : Int)] by rw [hT, hPi, ← hV]; simp)
   rw [hP] at hrq
   have hmod : (x : Int).tmod (n : Int) = (r : Int) := by rw [← hri, Int.tmod_eq_emod_of_nonneg (by omega)]
   have hwq : IntKind.i64.wrap (q : Int) = (q : Int) := IntWalk.i64_in _ (by omega)
   have hwP : IntKind.i64.wrap ((r : Int) * (n : Int)) = (P : Int) := by rw [hPi]; exact IntWalk.i64_in _ (by omega)
   have hwV : IntKind.i64.wrap ((P : Int) + (q : Int)) = (V : Int) := by rw [IntWalk.i64_in _ (by omega)]; omega
   have HV := Lib.hid (show V ≤ 3000 by omega)
   have hnn : n ≠ 0 := by omega
   have HLT := Lib.hid (show (turnL n (xs.take i)).length ≤ 100000 by unfold turnL; rw [List.length_map, List.length_take]; omega)
   have hn0 : ((n : Int) == 0) = false := by simp; omega
   have hn00 : (n : Int) ≠ 0 := by omega
   have hnB : decide ((0 : Int) < (n : Int)) = true := by simp; omega
   have hnC : decide (0 < n) = true := by simp; omega
   have e1 := HWR.out.cell HC.out.2.2.1 (by simp)
   have e2 := HWR.out.cell hcell0 (by simp)
   clear hT hr hq hz hzb hP hV hPi hri
   go_wp2_with fail
   clear e1 e2
   have HS := Lib.hid (fun (Wh : World) (hWh : W.grownBy Wh none) => (hWh : (fun Wh : World => W.grownBy Wh none) Wh))
   have hdr : W.grownBy wr.drew none := gT HWR.out (⟨rfl, rfl, rfl, Nat.le_refl _, fun _ _ _ => rfl⟩ : wr.grownBy wr.drew none)
   refine wp_region_held_drew (S := (fun Wh : World => W.grownBy Wh none)) (by kernel_rfl) (HS.out _ hdr) (fun hH => ?_)
   refine wpAnyH_take (i := 0) (oi := { dst := some 18, op := Op.move (Operand.tmp 5), type := 90, pos := "relation.go:136", after := #[], guard := none }) (v := ?_) rfl (by kernel_rfl) (by kernel_rfl) (by kernel_rfl) (fun _ _ _ h => h) (Or.inl ⟨by rfl, ?_⟩) (by assumption) ?_
   rotate_left 1
   · (intro W h; (try dsimp only at h); go_simp <;> with_reducible rfl)
   try simp only [Act.put, sA, sB, sC]
   refine wpAnyH_take (i := 1) (oi := { dst := some 19, op := Op.move (Operand.tmp 7), type := 3, pos := "relation.go:136", after := #[], guard := none }) (v := ?_) rfl (by kernel_rfl) (by kernel_rfl) (by kernel_rfl) (fun _ _ _ h => h) (Or.inl ⟨by rfl, ?_⟩) (by assumption) ?_
   rotate_left 1
   · (intro W h; (try dsimp only at h); go_simp <;> with_reducible rfl)
   try simp only [Act.put, sA, sB, sC]
   refine wpAnyH_take (i := 2) (oi := { dst := some 20, op := Op.move (Operand.tmp 0), type := 3, pos := "relation.go:136", after := #[], guard := none }) (v := ?_) rfl (by kernel_rfl) (by kernel_rfl) (by kernel_rfl) (fun _ _ _ h => h) (Or.inl ⟨by rfl, ?_⟩) (by assumption) ?_
   rotate_left 1
   · (intro W h; (try dsimp only at h); go_simp <;> with_reducible rfl)
   try simp only [Act.put, sA, sB, sC]
   refine wpAnyH_take (i := 3) (oi := { dst := some 21, op := Op.binOp BinOp.rem 3 (Operand.tmp 19) (Operand.tmp 20) 3, type := 3, pos := "relation.go:136", after := #[{ on := 1, ground := Ground.data }, { on := 2, ground := Ground.data }], guard := none }) (v := ?_) rfl (by kernel_rfl) (by kernel_rfl) (by kernel_rfl) (fun _ _ _ h => h) (Or.inl ⟨by rfl, ?_⟩) (by assumption) ?_
   rotate_left 1
   · (intro W h; (try dsimp only at h); go_simp <;> with_reducible rfl)
   try simp only [Act.put, sA, sB, sC]
   refine wpAnyH_take (i := 4) (oi := { dst := some 22, op := Op.move (Operand.tmp 0), type := 3, pos := "relation.go:136", after := #[], guard := none }) (v := ?_) rfl (by kernel_rfl) (by kernel_rfl) (by kernel_rfl) (fun _ _ _ h => h) (Or.inl ⟨by rfl, ?_⟩) (by assumption) ?_
   rotate_left 1
   · (intro W h; (try dsimp only at h); go_simp <;> with_reducible rfl)
   try simp only [Act.put, sA, sB, sC]
   refine wpAnyH_take (i := 5) (oi := { dst := some 23, op := Op.binOp BinOp.mul 3 (Operand.tmp 21) (Operand.tmp 22) 3, type := 3, pos := "relation.go:136", after := #[{ on := 3, ground := Ground.data }, { on := 4, ground := Ground.data }], guard := none }) (v := ?_) rfl (by kernel_rfl) (by kernel_rfl) (by kernel_rfl) (fun _ _ _ h => h) (Or.inl ⟨by rfl, ?_⟩) (by assumption) ?_
   rotate_left 1
   · (intro W h; (try dsimp only at h); go_simp <;> with_reducible rfl)
   try simp only [Act.put, sA, sB, sC]
   refine wpAnyH_take (i := 6) (oi := { dst := some 24, op := Op.move (Operand.tmp 7), type := 3, pos := "relation.go:136", after := #[], guard := none }) (v := ?_) rfl (by kernel_rfl) (by kernel_rfl) (by kernel_rfl) (fun _ _ _ h => h) (Or.inl ⟨by rfl, ?_⟩) (by assumption) ?_
   rotate_left 1
   · (intro W h; (try dsimp only at h); go_simp <;> with_reducible rfl)
   try simp only [Act.put, sA, sB, sC]
   refine wpAnyH_take (i := 7) (oi := { dst := some 25, op := Op.move (Operand.tmp 0), type := 3, pos := "relation.go:136", after := #[], guard := none }) (v := ?_) rfl (by kernel_rfl) (by kernel_rfl) (by kernel_rfl) (fun _ _ _ h => h) (Or.inl ⟨by rfl, ?_⟩) (by assumption) ?_
   rotate_left 1
   · (intro W h; (try dsimp only at h); go_simp <;> with_reducible rfl)
   try simp only [Act.put, sA, sB, sC]
   refine wpAnyH_take (i := 8) (oi := { dst := some 26, op := Op.binOp BinOp.quo 3 (Operand.tmp 24) (Operand.tmp 25) 3, type := 3, pos := "relation.go:136", after := #[{ on := 6, ground := Ground.data }, { on := 7, ground := Ground.data }], guard := none }) (v := ?_) rfl (by kernel_rfl) (by kernel_rfl) (by kernel_rfl) (fun _ _ _ h => h) (Or.inl ⟨by rfl, ?_⟩) (by assumption) ?_
   rotate_left 1
   · (intro W h; (try dsimp only at h); go_simp <;> with_reducible rfl)
   try simp only [Act.put, sA, sB, sC]
   refine wpAnyH_take (i := 9) (oi := { dst := some 27, op := Op.binOp BinOp.add 3 (Operand.tmp 23) (Operand.tmp 26) 3, type := 3, pos := "relation.go:136", after := #[{ on := 5, ground := Ground.data }, { on := 8, ground := Ground.data }], guard := none }) (v := ?_) rfl (by kernel_rfl) (by kernel_rfl) (by kernel_rfl) (fun _ _ _ h => h) (Or.inl ⟨by rfl, ?_⟩) (by assumption) ?_
   rotate_left 1
   · (intro W h; (try dsimp only at h); go_simp <;> with_reducible rfl)
   try simp only [Act.put, sA, sB, sC]
   refine wpAnyH_ready (rs := [10]) (by kernel_rfl) (by simp) ?_
   refine (AllReadyH.cons (o := { dst := none, op := Op.mapUpdate 90 (Operand.tmp 18) (Operand.tmp 27) (Operand.const (Value.bool true)), type := 0, pos := "relation.go:136", after := #[{ on := 0, ground := Ground.data }, { on := 9, ground := Ground.data }, { on := 0, ground := Ground.phase }, { on := 1, ground := Ground.phase }, { on := 2, ground := Ground.phase }, { on := 3, ground := Ground.phase }, { on := 4, ground := Ground.phase }, { on := 5, ground := Ground.phase }, { on := 6, ground := Ground.phase }, { on := 7, ground := Ground.phase }, { on := 8, ground := Ground.phase }, { on := 9, ground := Ground.phase }], guard := none }) rfl (fun K hK => ?_) AllReadyH.nil)
   refine ready_setM (.tmp 18) (.tmp 27) rfl rfl W.heap.size (turnL n (xs.take i)) rfl HSD.out (by have := HLT.out; omega) (V : Int) rfl (wf64 (by omega) (by have := HV.out; omega)) (fun w6 hset hgr6 => ?_)
   have hgs := grown_own hdr hgr6 (fun k hk => by cases hk; exact Nat.le_refl _)
   refine hK.out _ _ (HS.out _ hgs) (fun hH => ?_)
   clear hK K
   try simp only [Act.put]
   refine wpAnyH_done (by kernel_rfl) ?_ _
   have hEND := hgs
   clear hH
   have HE := Lib.hid (And.intro hset hEND)
   clear hset hEND hgr6 hgs hdr
   go_wp2_with fail
   go_roundg (m - (i + 1))
   case measure => rw [HI.out]; omega
   case rel => exact ⟨i + 1, rfl, rfl, by omega, by rw [HT.out]; exact HE.out.1, HE.out.2⟩
  ·
   have hie : i = m := by omega
   subst hie
   have hinB : decide (i < i) = false := by simp
   have e0 := HWR.out.cell HC.out.2.1 (by simp)
   have hall : xs.take i = xs := List.take_of_length_le (by rw [HH.out.2.1]; exact Nat.le_refl _)
   have HF := Lib.hid (fun (U : World) (g : wr.grownBy U none) => fromSet_calls k W.heap.size (turnL n (xs.take i)) U (HSD.out.grown g (by simp)) (by unfold turnL; rw [List.length_map, List.length_take]; omega))
   rw [hall, HP.out] at HF
   clear hall
   go_wp2_with fail
   refine (HF.out wr (grown_refl _ _)).mono ?_
   rintro e w3 ⟨a', c', rfl, hi, g3⟩
   have g := gT HWR.out g3
   have m0 := g.cell HC.out.2.2.2.1 (by simp)
   have m1 := g.cell HC.out.2.2.2.2.1 (by simp)
   have f0 := (grown_frozen g HC.out.1 0).trans HC.out.2.2.2.2.2.1
   have f1 := (grown_frozen g HC.out.1 1).trans HC.out.2.2.2.2.2.2
   have HI3 := Lib.hid hi
   have HG3 := Lib.hid g
   clear hi g
   go_wp2_with fail
   have hret := ret_rel (p := p) (k := k) (B := w.heap.size + 1) (HI3.out.wide (by have := HG.out.2; have := HWR.out.size; omega) (Nat.le_refl _) (Nat.le_refl _)) (by omega) (HG.out.1.trans HG3.out)
   refine bodyPost_ret (relres67 _ _ (w.heap.size + 1) a' p c' k rfl (by rw [World.cell?_setCell_other _ _ _ _ (by intro e; injection e with _ e; cases e)]; exact World.cell?_setCell_same _ _ _ m0) (World.cell?_setCell_same _ _ _ (by rw [World.cell?_setCell_other _ _ _ _ (by intro e; injection e with _ e; cases e)]; exact m1))) rfl ⟨a', c', rfl, hret⟩
end Go.Proofs.YthdhmflodiincaaGreat
namespace Go.Proofs.YthdhmflodiincaaGreat

def Cst (r : Int) : Prop := r = 0 ∨ r = 1
def C0 (m : List Cl) : Prop := ∀ c ∈ m, c.2 = 0
theorem C0.at {m : List Cl} (h : C0 m) (k : Int) : Cst (atM m k) := by
 rcases @atM_mem m k with e | e
 · exact Or.inr e
 · exact Or.inl (h _ e)
theorem validGo_of {g : List Gt} : ∀ {m : List Cl} {b : Int}, Mat g m → (∀ c ∈ m, b < c.1) → validGo g.length b m = true
 | [], _, _, _ => rfl
 | x :: m, b, h, hb => by
  obtain ⟨h1, h2⟩ := upM_cons.1 h.1
  have h3 := h.2 x (List.mem_cons_self ..)
  have h4 := h3.1
  unfold Ok at h4
  have h5 := hb x (List.mem_cons_self ..)
  unfold validGo okC
  rw [decide_eq_false (by omega), decide_eq_false (by omega), decide_eq_false (by omega), beq_false_of_ne h3.2, validGo_of ⟨h2, fun c hc => h.2 c (List.mem_cons_of_mem _ hc)⟩ h1]
  rfl
theorem validM_of {g : List Gt} {m : List Cl} {ar : Int} (h : Mat g m) (hr : ∀ c ∈ m, 0 ≤ c.1) (h1 : 1 ≤ ar) (h2 : ar ≤ 3) : validM g.length ar m = true := by
 unfold validM
 rw [validGo_of h (fun c hc => by have := hr c hc; omega), decide_eq_true h1, decide_eq_true h2]
 rfl
end Go.Proofs.YthdhmflodiincaaGreat
namespace Go.Proofs.YthdhmflodiincaaGreat
open Go.RowKit Go.Maps


theorem own_neZ {w : World} {B b : Nat} {e : TypeId} {size n : Nat} {v : Value} {xs : List Value} (h : w.ownsRow B e size v n xs) (hb : b < B) : v.ownBlock = none ∨ v.ownBlock ≠ some b := by
 cases hv : v.ownBlock with
 | none => exact .inl rfl
 | some k => have := (h.lt k hv).1; exact .inr (by simp; omega)

theorem ready_append_gZ {ops : Array Oper} {o : Oper} {a : Act} {Q : Exit → Act → World → Prop} {K' : Act → World → Prop} {w : World} (t e : TypeId) (s x : Operand) (hgd : o.guard = none)
  (ho : o.op = .call { callee := .builtin .append, args := #[s, x], argTypes := #[t, t] }) {i0 : TypeInfo} {z : Value} {k bytes : Nat} (hund : Tryz.prog.underlying t = some (.slice e)) (hi0 : Tryz.prog.info? e = some i0) (hz0 : i0.zero = some z) (hz1 : i0.size = k) (hz2 : i0.bytes = bytes) (hzc : z.cells.size = k) (hk : 0 < k) (hb : bytes ≤ 1000000)
  (base : Nat) (v : Value) (n : Nat) (xs : List Value) (hs : a.eval s = v) (hown : w.ownsRow base e k v n xs)
  (ad : Addr) (us : List Value) (hl : us.length = k) (hx : a.eval x = .slice (some ad) 1 1) (hnews : ∀ j u, us[j]? = some u → w.cell? (ad.add j) = some u) (h1 : ∀ u ∈ us, u.oneCell' = true)
  (h63 : n ≤ 1000000) (hbase : base ≤ w.heap.size)
  (h : ∀ v' w', w'.ownsRow base e k v' (n + 1) (xs ++ us) → w.grownBy w' v.ownBlock → (v'.ownBlock = v.ownBlock ∨ v'.ownBlock = some w.heap.size) → K' (a.put o.dst v') w') :
  if Region.wanted o (yielded ops a.tmps) = true then Oper.wp Tryz.prog o a w K' Q else K' (a.put o.dst undef) w := by
 have hbn : (n + 1) * bytes ≤ 140737488355328 := Nat.le_trans (Nat.mul_le_mul (show n + 1 ≤ 1000001 by omega) hb) (by omega)
 obtain ⟨v', w', hr, h2, h3, h4, h5⟩ := run_append_own_at (P := Tryz.prog) w base t o.type e i0 z k bytes hund hi0 hz0 hz1 hz2 hzc hk v n xs hown ad 1 1 us (by rw [hl, Nat.one_mul]) hnews h1 (by unfold maxLen; omega) hbn hbase
 have hw : Region.wanted o (yielded ops a.tmps) = true := by simp only [Region.wanted, hgd]
 rw [if_pos hw]
 unfold Oper.wp execOp
 simp only [ho, resolve, invoke, builtin, Sem.run_bind, Sem.run_pure, Result.andThen_ok, List.map_toArray, List.map_cons, List.map_nil, hs, hx, hr]
 exact h v' w' h2 h3 h5

structure RowBox (Bs : Nat) (wr : World) (b : Nat) (k : Int) (v : Value) (s : List Int) : Prop where
 row : wr.cell? ⟨b, 1, none⟩ = some v
 own : wr.ownsRow Bs 3 1 v s.length (intCells s)
 c0 : wr.cell? ⟨b, 0, none⟩ = some (.int .i64 k)
 fr : wr.frozen? ⟨b, 1, none⟩ = false
 low : b < Bs ∧ Bs ≤ wr.heap.size
theorem RowBox.new (w : World) (k : Int) {Bs : Nat} (hB : Bs = w.heap.size + 1) : RowBox Bs (w.alloc (.cells #[.int .i64 k, .slice none 0 0] 40)) w.heap.size k (.slice none 0 0) [] :=
 ⟨by go_simp, World.ownsRow_nil _ _ _ _, by go_simp, by go_simp, by rw [hB]; simp⟩
theorem RowBox.more {Bs Bs' : Nat} {wr : World} {b : Nat} {k : Int} (h : RowBox Bs wr b k (.slice none 0 0) []) (h1 : Bs ≤ Bs') (h2 : Bs' ≤ wr.heap.size) : RowBox Bs' wr b k (.slice none 0 0) [] :=
 ⟨h.row, World.ownsRow_nil _ _ _ _, h.c0, h.fr, by have := h.low; omega, h2⟩
theorem RowBox.grown {Bs : Nat} {wr w' : World} {b : Nat} {k : Int} {v : Value} {s : List Int} (h : RowBox Bs wr b k v s) (g : wr.grownBy w' none) : RowBox Bs w' b k v s :=
 ⟨g.cell h.row (by simp), own_grown h.own g, g.cell h.c0 (by simp), (grown_frozen g (lies_lt h.c0) 1).trans h.fr, h.low.1, Nat.le_trans h.low.2 g.size⟩
theorem RowBox.at_ {Bs : Nat} {wr WA w3 : World} {b : Nat} {k : Int} {v : Value} {s : List Int} (h : RowBox Bs wr b k v s) (ha : wr.grownBy WA none) (hg : WA.grownBy w3 v.ownBlock) :
  w3.cell? ⟨b, 1, none⟩ = some v ∧ w3.frozen? ⟨b, 1, none⟩ = false := by
 have hne : some b ≠ v.ownBlock := fun e => by have := (h.own.lt b e.symm).1; have := h.low; omega
 have hlt := lies_lt h.row
 have e1 := ha.block b hlt (by simp)
 have e2 := hg.block b (Nat.lt_of_lt_of_le hlt ha.size) hne
 exact ⟨hg.cell (ha.cell h.row (by simp)) hne, (World.frozen?_of_block (a := ⟨b, 1, none⟩) (e2.trans e1)).trans h.fr⟩
theorem RowBox.step {Bs : Nat} {wr WA w3 : World} {b : Nat} {k : Int} {v v' : Value} {s : List Int} {x : Int} (h : RowBox Bs wr b k v s) (ha : wr.grownBy WA none) (hg : WA.grownBy w3 v.ownBlock)
  (hown' : w3.ownsRow Bs 3 1 v' (s.length + 1) (intCells s ++ [.int .i64 x])) : RowBox Bs (w3.setCell ⟨b, 1, none⟩ v') b k v' (s ++ [x]) := by
 have hlow := h.low
 have hne : some b ≠ v.ownBlock := fun e => by have := (h.own.lt b e.symm).1; omega
 obtain ⟨h1, h2⟩ := h.at_ ha hg
 refine ⟨World.cell?_setCell_same' _ _ _ (by rw [h1]; rfl), ?_, ?_, by rw [World.frozen?_setCell]; exact h2, hlow.1, ?_⟩
 · rw [List.length_append, intCells, List.map_append]; exact hown'.kept (grown_set _ _ _ _) (own_neZ hown' (by omega))
 · rw [World.cell?_setCell_other _ _ _ _ (by intro e; injection e with _ e1; omega)]; exact hg.cell (ha.cell h.c0 (by simp)) hne
 · have := ha.size; have := hg.size; simp [World.setCell]; omega
theorem RowBox.grows {Bs : Nat} {w0 wr WA w3 : World} {b : Nat} {k : Int} {v v' : Value} {s : List Int} (h : RowBox Bs wr b k v s) (hw : w0.grownBy wr none) (h0 : w0.heap.size ≤ b) (ha : wr.grownBy WA none) (hg : WA.grownBy w3 v.ownBlock) : w0.grownBy (w3.setCell ⟨b, 1, none⟩ v') none :=
 grown_own (grown_own (hw.trans ha) hg (fun j hj => by have := (h.own.lt j hj).1; have := h.low; omega)) (grown_set _ _ _ _) (fun j hj => by cases hj; exact h0)
theorem RowBox.grows2 {Bs : Nat} {w0 wr WA w3 : World} {b : Nat} {k : Int} {v v' : Value} {s s' : List Int} (h : RowBox Bs wr b k v s) (_hst : RowBox Bs (w3.setCell ⟨b, 1, none⟩ v') b k v' s') (hw : w0.grownBy wr none) (h0 : w0.heap.size ≤ b) (ha : wr.grownBy WA none) (hg : WA.grownBy w3 v.ownBlock) : w0.grownBy (w3.setCell ⟨b, 1, none⟩ v') none :=
 h.grows hw h0 ha hg
theorem RowBox.ints {Bs : Nat} {wr : World} {b : Nat} {k : Int} {v : Value} {s : List Int} (h : RowBox Bs wr b k v s) : ∃ a c, v = .slice a s.length c ∧ Span Bs wr.heap.size wr (fun W => Ints W a c s) := ints_span h.own


end Go.Proofs.YthdhmflodiincaaGreat

/- Texts of the proof: UL1 UM UO RZ WA. -/
import Derived.Test.YthdhmflodiincaaGreatCB24
import Derived.Shelf.SlIterI.Nil
import Derived.Shelf.SortM.Plain
import Derived.Shelf.SortM.SortNone
import Derived.Ground.GgzProg
import Derived.Ground.SlgmProg
import Derived.Test.YthdhmflodiincaaGreatCB20
import Derived.Test.YthdhmflodiincaaGreatCB13
import Derived.Test.YthdhmflodiincaaGreatCB05
import Derived.Test.YthdhmflodiincaaGreatCB10
import Derived.Test.YthdhmflodiincaaGreatCB00
import Derived.Test.YthdhmflodiincaaGreatCB12
import Derived.Deep.DeepCutAuto
import Derived.Test.YthdhmflodiincaaGreatCB16
import Derived.Test.YthdhmflodiincaaGreatCB02
import Derived.Test.YthdhmflodiincaaGreatCB04
set_option maxRecDepth 100000
set_option maxHeartbeats 8000000
namespace Go.Proofs.YthdhmflodiincaaGreat
open Go.RowKit Go.Maps Go.Sort Go.Shelf
set_option maxRecDepth 100000

def Tryz.keysA_ren : Go.Shelf.Ren := ⟨fun | 7 => 91 | 10 => 106 | n => n, fun | 23 => 90 | 26 => 3 | 3 => 4 | 28 => 92 | 0 => 0 | 27 => 91 | 33 => 109 | 4 => 4 | n => n, fun | n => n⟩
theorem Tryz.keysA : Go.Proofs.SlLaysZI.n7 Tryz.prog Tryz.keysA_ren where
  mixed := by kernel_rfl
  f7 := ⟨Tryz.f91.name, of_decide_eq_true (by kernel_rfl), Tryz.func91.trans (congrArg some (by kernel_rfl))⟩
  f10 := ⟨Tryz.f106.name, of_decide_eq_true (by kernel_rfl), Tryz.func106.trans (congrArg some (by kernel_rfl))⟩
  t0 := Tryz.underlying0
  a0 := Tryz.isAgg0
  z0 := Tryz.sizeOf0
  v0 := Tryz.zeroValue0
  t4 := Tryz.underlying4
  a4 := Tryz.isAgg4
  z4 := Tryz.sizeOf4
  v4 := Tryz.zeroValue4
  t23 := Tryz.underlying90
  a23 := Tryz.isAgg90
  z23 := Tryz.sizeOf90
  v23 := Tryz.zeroValue90
  t26 := Tryz.underlying3
  a26 := Tryz.isAgg3
  z26 := Tryz.sizeOf3
  v26 := Tryz.zeroValue3
  t27 := Tryz.underlying91
  a27 := Tryz.isAgg91
  z27 := Tryz.sizeOf91
  v27 := Tryz.zeroValue91
  t28 := Tryz.underlying92
  a28 := Tryz.isAgg92
  z28 := Tryz.sizeOf92
  v28 := Tryz.zeroValue92
  t33 := Tryz.underlying109
  a33 := Tryz.isAgg109
  z33 := Tryz.sizeOf109
  v33 := Tryz.zeroValue109
def Tryz.sortedA_ren : Go.Shelf.Ren := ⟨fun | 6 => 90 | 8 => 104 | 9 => 105 | 11 => 118 | 13 => 102 | 12 => 119 | 23 => 116 | 24 => 117 | 14 => 125 | 15 => 126 | 16 => 127 | 17 => 128 | 18 => 129 | 19 => 130 | 20 => 131 | 21 => 132 | 22 => 133 | 25 => 135 | 26 => 121 | 27 => 122 | 28 => 136 | 29 => 137 | 30 => 103 | 31 => 138 | n => n, fun | 26 => 3 | 28 => 92 | 24 => 28 | 0 => 0 | 3 => 3 | 37 => 131 | 48 => 142 | 50 => 144 | 4 => 4 | 40 => 136 | 39 => 135 | 45 => 87 | 5 => 5 | 9 => 9 | 51 => 147 | 55 => 151 | 57 => 159 | 58 => 160 | 33 => 109 | n => n, fun | n => n⟩
theorem Tryz.sortedA : Go.Proofs.SlLaysZI.n6 Tryz.prog Tryz.sortedA_ren where
  mixed := by kernel_rfl
  f6 := ⟨Tryz.f90.name, of_decide_eq_true (by kernel_rfl), Tryz.func90.trans (congrArg some (by kernel_rfl))⟩
  f8 := ⟨Tryz.f104.name, of_decide_eq_true (by kernel_rfl), Tryz.func104.trans (congrArg some (by kernel_rfl))⟩
  f11 := ⟨Tryz.f118.name, of_decide_eq_true (by kernel_rfl), Tryz.func118.trans (congrArg some (by kernel_rfl))⟩
  t0 := Tryz.underlying0
  a0 := Tryz.isAgg0
  z0 := Tryz.sizeOf0
  v0 := Tryz.zeroValue0
  t24 := Tryz.underlying28
  a24 := Tryz.isAgg28
  z24 := Tryz.sizeOf28
  v24 := Tryz.zeroValue28
  t26 := Tryz.underlying3
  a26 := Tryz.isAgg3
  z26 := Tryz.sizeOf3
  v26 := Tryz.zeroValue3
  t28 := Tryz.underlying92
  a28 := Tryz.isAgg92
  z28 := Tryz.sizeOf92
  v28 := Tryz.zeroValue92
  i26 := by kernel_rfl
def Tryz.sortA_ren : Go.Shelf.Ren := ⟨fun | 5 => 105 | 8 => 102 | 7 => 119 | 19 => 116 | 20 => 117 | 10 => 125 | 11 => 126 | 12 => 127 | 13 => 128 | 14 => 129 | 15 => 130 | 16 => 131 | 17 => 132 | 18 => 133 | 30 => 135 | 31 => 121 | 32 => 122 | 33 => 136 | 34 => 137 | 35 => 103 | 40 => 138 | n => n, fun | 23 => 28 | 25 => 3 | 3 => 3 | 32 => 131 | 22 => 28 | 0 => 0 | 44 => 142 | 46 => 144 | 4 => 4 | 36 => 136 | 35 => 135 | 41 => 87 | 5 => 5 | 9 => 9 | 53 => 147 | 57 => 151 | 63 => 159 | 64 => 160 | n => n, fun | n => n⟩
theorem Tryz.sortA : Go.Proofs.SlLaysM.n5 Tryz.prog Tryz.sortA_ren where
  mixed := by kernel_rfl
  f5 := ⟨Tryz.f105.name, of_decide_eq_true (by kernel_rfl), Tryz.func105.trans (congrArg some (by kernel_rfl))⟩
  f7 := ⟨Tryz.f119.name, of_decide_eq_true (by kernel_rfl), Tryz.func119.trans (congrArg some (by kernel_rfl))⟩
  f8 := Tryz.func102.trans (congrArg some (by kernel_rfl))
  f10 := ⟨Tryz.f125.name, of_decide_eq_true (by kernel_rfl), Tryz.func125.trans (congrArg some (by kernel_rfl))⟩
  f11 := ⟨Tryz.f126.name, of_decide_eq_true (by kernel_rfl), Tryz.func126.trans (congrArg some (by kernel_rfl))⟩
  f12 := ⟨Tryz.f127.name, of_decide_eq_true (by kernel_rfl), Tryz.func127.trans (congrArg some (by kernel_rfl))⟩
  f13 := ⟨Tryz.f128.name, of_decide_eq_true (by kernel_rfl), Tryz.func128.trans (congrArg some (by kernel_rfl))⟩
  f14 := ⟨Tryz.f129.name, of_decide_eq_true (by kernel_rfl), Tryz.func129.trans (congrArg some (by kernel_rfl))⟩
  f15 := ⟨Tryz.f130.name, of_decide_eq_true (by kernel_rfl), Tryz.func130.trans (congrArg some (by kernel_rfl))⟩
  f16 := ⟨Tryz.f131.name, of_decide_eq_true (by kernel_rfl), Tryz.func131.trans (congrArg some (by kernel_rfl))⟩
  f17 := ⟨Tryz.f132.name, of_decide_eq_true (by kernel_rfl), Tryz.func132.trans (congrArg some (by kernel_rfl))⟩
  f18 := ⟨Tryz.f133.name, of_decide_eq_true (by kernel_rfl), Tryz.func133.trans (congrArg some (by kernel_rfl))⟩
  f19 := Tryz.func116.trans (congrArg some (by kernel_rfl))
  f20 := Tryz.func117.trans (congrArg some (by kernel_rfl))
  f30 := ⟨Tryz.f135.name, of_decide_eq_true (by kernel_rfl), Tryz.func135.trans (congrArg some (by kernel_rfl))⟩
  f31 := Tryz.func121.trans (congrArg some (by kernel_rfl))
  f32 := Tryz.func122.trans (congrArg some (by kernel_rfl))
  f33 := ⟨Tryz.f136.name, of_decide_eq_true (by kernel_rfl), Tryz.func136.trans (congrArg some (by kernel_rfl))⟩
  f34 := ⟨Tryz.f137.name, of_decide_eq_true (by kernel_rfl), Tryz.func137.trans (congrArg some (by kernel_rfl))⟩
  f35 := ⟨Tryz.f103.name, of_decide_eq_true (by kernel_rfl), Tryz.func103.trans (congrArg some (by kernel_rfl))⟩
  f40 := ⟨Tryz.f138.name, of_decide_eq_true (by kernel_rfl), Tryz.func138.trans (congrArg some (by kernel_rfl))⟩
  t0 := Tryz.underlying0
  a0 := Tryz.isAgg0
  z0 := Tryz.sizeOf0
  v0 := Tryz.zeroValue0
  t3 := Tryz.underlying3
  a3 := Tryz.isAgg3
  z3 := Tryz.sizeOf3
  v3 := Tryz.zeroValue3
  t4 := Tryz.underlying4
  a4 := Tryz.isAgg4
  z4 := Tryz.sizeOf4
  v4 := Tryz.zeroValue4
  t5 := Tryz.underlying5
  a5 := Tryz.isAgg5
  z5 := Tryz.sizeOf5
  v5 := Tryz.zeroValue5
  t9 := Tryz.underlying9
  a9 := Tryz.isAgg9
  z9 := Tryz.sizeOf9
  v9 := Tryz.zeroValue9
  t22 := Tryz.underlying28
  a22 := Tryz.isAgg28
  z22 := Tryz.sizeOf28
  v22 := Tryz.zeroValue28
  t23 := Tryz.underlying28
  a23 := Tryz.isAgg28
  z23 := Tryz.sizeOf28
  v23 := Tryz.zeroValue28
  t25 := Tryz.underlying3
  a25 := Tryz.isAgg3
  z25 := Tryz.sizeOf3
  v25 := Tryz.zeroValue3
  t32 := Tryz.underlying131
  a32 := Tryz.isAgg131
  z32 := Tryz.sizeOf131
  v32 := Tryz.zeroValue131
  t35 := Tryz.underlying135
  a35 := Tryz.isAgg135
  z35 := Tryz.sizeOf135
  v35 := Tryz.zeroValue135
  t36 := Tryz.underlying136
  a36 := Tryz.isAgg136
  z36 := Tryz.sizeOf136
  v36 := Tryz.zeroValue136
  t41 := Tryz.underlying87
  a41 := Tryz.isAgg87
  z41 := Tryz.sizeOf87
  v41 := Tryz.zeroValue87
  t44 := Tryz.underlying142
  a44 := Tryz.isAgg142
  z44 := Tryz.sizeOf142
  v44 := Tryz.zeroValue142
  t46 := Tryz.underlying144
  a46 := Tryz.isAgg144
  z46 := Tryz.sizeOf144
  v46 := Tryz.zeroValue144
  t53 := Tryz.underlying147
  a53 := Tryz.isAgg147
  z53 := Tryz.sizeOf147
  v53 := Tryz.zeroValue147
  t57 := Tryz.underlying151
  a57 := Tryz.isAgg151
  z57 := Tryz.sizeOf151
  v57 := Tryz.zeroValue151
  t63 := Tryz.underlying159
  a63 := Tryz.isAgg159
  z63 := Tryz.sizeOf159
  v63 := Tryz.zeroValue159
  t64 := Tryz.underlying160
  a64 := Tryz.isAgg160
  z64 := Tryz.sizeOf160
  v64 := Tryz.zeroValue160
theorem sortsA (m : Nat) : AnyZI.SortsIn Tryz.prog Tryz.sortedA_ren Fence.wide m :=
  ⟨fun blk off cap ss W hH hblk hsz => callsIn_wide.2 (AnyM.slices_Sort_int Tryz.sortA blk off cap ss W hH hblk hsz),
   fun p cap W => callsIn_wide.2 (AnyM.slices_Sort_int_none Tryz.sortA p cap W)⟩

theorem sorted_keys {w : World} {b : Nat} {S ss : List Int} (h : SetM w b S) (hp : ss.Perm (intKeys (Maps.setOf (.lit (.bool true) : DataW Unit) (S.map (Lit.int .i64))))) :
    (ss.mergeSort fun x y => decide (x ≤ y)) = ofTo S S.length := by
  obtain ⟨es, hes, hpw⟩ := h.1.tidy (Maps.int_keyed Tryz.underlying3)
  have hm := mem_keys S
  rw [hes] at hp hm
  have hko : ∀ p ∈ es, ∃ x, p.1 = .int .i64 x := by
    obtain ⟨es0, clock, _, F, _, hD⟩ := h.1
    rw [hes] at hD
    injection hD with hD
    intro p hp
    rw [hD] at hp
    obtain ⟨x, hx, rfl⟩ := List.mem_map.1 (mem_sorted.1 hp)
    obtain ⟨y, hy⟩ := F.reads x hx
    rw [Go.WideElems.rg_of hy]
    have hv := Go.WideElems.rd_key hy
    obtain ⟨z, _, hz, _⟩ := Maps.keyOf_i64 Tryz.underlying3 hv
    exact ⟨z, hz⟩
  have hmem : ∀ x, x ∈ ss ↔ x ∈ S := fun x => by
    rw [hp.mem_iff, ← hm x, Maps.has_eq, List.any_eq_true]
    show x ∈ es.map (fun p => Go.intOf p.1) ↔ _
    rw [List.mem_map]
    constructor
    · rintro ⟨p, hp', rfl⟩
      obtain ⟨a, ha⟩ := hko p hp'
      exact ⟨p, hp', by rw [ha]; simp [Lit.sameKey, Go.intOf]⟩
    · rintro ⟨p, hp', hs⟩
      obtain ⟨a, ha⟩ := hko p hp'
      rw [ha] at hs
      exact ⟨p, hp', by rw [ha]; simpa [Lit.sameKey, Go.intOf] using hs⟩
  have hnd : ss.Nodup := by
    refine hp.symm.nodup ?_
    show (es.map fun p => Go.intOf p.1).Nodup
    refine List.pairwise_map.2 (hpw.imp_of_mem fun {p q} hp' hq' hne e => hne ?_)
    obtain ⟨a, ha⟩ := hko p hp'
    obtain ⟨b, hb⟩ := hko q hq'
    rw [ha, hb] at e ⊢
    exact congrArg _ e
  have hps := List.mergeSort_perm ss (fun x y => decide (x ≤ y))
  have hnd2 : (ss.mergeSort fun x y => decide (x ≤ y)).Nodup := hps.symm.nodup hnd
  have hle : (ss.mergeSort fun x y => decide (x ≤ y)).Pairwise (fun a b => decide (a ≤ b) = true) :=
    List.pairwise_mergeSort (fun a b c h1 h2 => by simp only [decide_eq_true_eq] at *; omega) (fun a b => by simp only [Bool.or_eq_true, decide_eq_true_eq]; omega) ss
  refine up_ext ?_ ofTo_up fun x => ?_
  · refine (hle.and hnd2).imp fun {a b} h => ?_
    have h1 := of_decide_eq_true h.1
    have h2 := h.2
    omega
  · rw [hps.mem_iff, hmem x, mem_ofTo]
    constructor
    · intro hx
      obtain ⟨j, hj, e⟩ := List.getElem_of_mem hx
      exact ⟨j, hj, by rw [List.getElem?_eq_getElem hj, e]⟩
    · rintro ⟨j, _, e⟩
      exact List.mem_of_getElem? e

theorem grown_of_below {w w' : World} (h : Below w.heap.size w w') : w.grownBy w' none := ⟨h.os, h.tape, h.output, h.size, fun k hk _ => h.block k hk⟩
theorem span_own {w w' : World} {v : Value} {n : Nat} {l : List Int} (hn : l.length = n) (h : w'.ownsRow w.heap.size 3 1 v n (intCells l)) : ∃ a c, v = .slice a n c ∧ Span w.heap.size w'.heap.size w' (fun W => IntsW W a c l) := by
  subst hn
  obtain ⟨a, c, e, hs⟩ := ints_span h
  exact ⟨a, c, e, hs.map fun W hW => hW.weak⟩

theorem keys_calls (mb : Option Nat) (W : World) : Calls Tryz.prog 91 #[.map mb] W fun e w' => e = .returned (.func (.func 106) #[] #[.pointer (some ⟨W.heap.size, 0, none⟩)]) ∧ w' = W.alloc (.cells #[.map mb] 90) :=
  (callsIn_wide (n := 5)).1 (AnyZI.keys_in Tryz.keysA Fence.wide 5 trivial rfl mb W)

theorem sorted_calls (Bm b : Nat) (S : List Int) (w : World) (h : SetM w b S) (hm : w.cell? ⟨Bm, 0, none⟩ = some (.map (some b))) (hl : S.length ≤ 100000) :
    Calls Tryz.prog 90 #[.func (.func 106) #[] #[.pointer (some ⟨Bm, 0, none⟩)]] w fun e w' => ∃ a c, e = .returned (.slice a (uniq S).length c) ∧ Span w.heap.size w'.heap.size w' (fun W => IntsW W a c (uniq S)) ∧ w.grownBy w' none := by
  have hsz := size_keys S
  have hseq : SeqGives Fence.wide 2 Tryz.prog 106 #[.pointer (some ⟨Bm, 0, none⟩)] encZ (fun ss => ss.Perm (intKeys (Maps.setOf (.lit (.bool true) : DataW Unit) (S.map (Lit.int .i64))))) (Maps.size (Maps.setOf (.lit (.bool true) : DataW Unit) (S.map (Lit.int .i64)))) w :=
    AnyZI.keys_gives (ρ := Tryz.keysA_ren) { Tryz.keysA with } Fence.wide _ trivial rfl (by omega) Bm b _ _ _ (lies_lt hm) hm h.1
  have cS := AnyZI.sorted_in Tryz.sortedA Fence.wide 5 trivial trivial trivial trivial rfl (by omega) (sortsA _) (enters_of Tryz.func105 (by kernel_rfl) rfl) 106 #[.pointer (some ⟨Bm, 0, none⟩)] trivial (enters_of Tryz.func106 (by kernel_rfl) rfl) _ _ (by unfold maxLen; omega) (by omega) _ hseq
  change CallsIn _ _ Tryz.prog 90 _ _ _ at cS
  refine ((callsIn_wide (n := 5)).1 cS).mono ?_
  rintro e w' ⟨v, ss, rfl, hp, hrow, _, hb⟩
  have hk := sorted_keys h hp
  have hn : ss.length = (uniq S).length := by
    have := (List.mergeSort_perm ss (fun x y => decide (x ≤ y))).length_eq
    rw [hk] at this
    exact this.symm
  rw [hk, hn] at hrow
  obtain ⟨a, c, rfl, hs⟩ := span_own rfl hrow
  exact ⟨a, c, rfl, hs, grown_of_below hb⟩

theorem relres110 (tmps : Array Value) (w : World) (b : Nat) (a : Option Addr) (n c : Nat) (x : Int) (ht : tmps.getD 4 undef = .pointer (some ⟨b, 0, none⟩)) (h0 : w.cell? ⟨b, 0, none⟩ = some (.int .i64 x)) (h1 : w.cell? ⟨b, 1, none⟩ = some (.slice a n c)) :
    (results Tryz.f57 tmps).run Tryz.prog w = .ok (.agg #[.int .i64 x, .slice a n c]) w := by
  have ht' : tmps[4]?.getD undef = .pointer (some ⟨b, 0, none⟩) := by simpa using ht
  simp [results, ht', go_sem, h0, h1, Result.andThen]

theorem fromSet_calls (k : Int) (b : Nat) (S : List Int) (w : World) (h : SetM w b S) (hl : S.length ≤ 100000) :
    Calls Tryz.prog 57 #[.int .i64 k, .map (some b)] w fun e w' => ∃ a c, e = .returned (.agg #[.int .i64 k, .slice a (uniq S).length c]) ∧ Span w.heap.size w'.heap.size w' (fun W => IntsW W a c (uniq S)) ∧ w.grownBy w' none := by
  obtain ⟨p, hp⟩ : ∃ p, (uniq S).length = p := ⟨_, rfl⟩
  have hg := World.grownBy_alloc w (.cells #[.int .i64 0, .slice none 0 0] 40) none
  have e0 : (w.alloc (.cells #[.int .i64 0, .slice none 0 0] 40)).cell? ⟨w.heap.size, 0, none⟩ = some (.int .i64 0) := by go_simp
  have e1 : (w.alloc (.cells #[.int .i64 0, .slice none 0 0] 40)).cell? ⟨w.heap.size, 1, none⟩ = some (.slice none 0 0) := by go_simp
  have ef0 : (w.alloc (.cells #[.int .i64 0, .slice none 0 0] 40)).frozen? ⟨w.heap.size, 0, none⟩ = false := by go_simp
  have ef1 : (w.alloc (.cells #[.int .i64 0, .slice none 0 0] 40)).frozen? ⟨w.heap.size, 1, none⟩ = false := by go_simp
  obtain ⟨W, hW⟩ : ∃ W, w.alloc (.cells #[.int .i64 0, .slice none 0 0] 40) = W := ⟨_, rfl⟩
  have hsz : W.heap.size = w.heap.size + 1 := by rw [← hW]; simp
  rw [hW] at hg e0 e1 ef0 ef1
  have hga := World.grownBy_alloc W (.cells #[.map (some b)] 90) none
  have hm : (W.alloc (.cells #[.map (some b)] 90)).cell? ⟨W.heap.size, 0, none⟩ = some (.map (some b)) := by go_simp
  have hS := (h.grown hg (by simp)).grown hga (by simp)
  have HC := Lib.hid (sorted_calls W.heap.size b S _ hS hm hl)
  rw [hp] at HC ⊢
  obtain ⟨W2, hW2⟩ : ∃ W2, W.alloc (.cells #[.map (some b)] 90) = W2 := ⟨_, rfl⟩
  rw [hW2] at HC hga
  have HG := Lib.hid (And.intro hg (And.intro hga hsz))
  have HE := Lib.hid (And.intro e0 (And.intro e1 (And.intro ef0 ef1)))
  clear hg hga hsz hm hS h e0 e1 ef0 ef1
  go_enter Tryz.func57, Tryz.ntmps57
  go_wp2_with (go_at_call 91; refine (keys_calls _ _).mono ?_; rintro e w' ⟨rfl, rfl⟩)
  clear hW
  refine HC.out.mono ?_
  rintro e w3 ⟨a', c', rfl, hi, g3⟩
  have HI := Lib.hid hi; clear hi
  have g := HG.out.2.1.trans g3
  have m0 := g.cell HE.out.1 (by simp)
  have m1 := g.cell HE.out.2.1 (by simp)
  have f0 := (grown_frozen g (show w.heap.size < W.heap.size by have := HG.out.2.2; omega) 0).trans HE.out.2.2.1
  have f1 := (grown_frozen g (show w.heap.size < W.heap.size by have := HG.out.2.2; omega) 1).trans HE.out.2.2.2
  have HG3 := Lib.hid (And.intro g g3); clear g g3
  go_wp2_with fail
  refine bodyPost_ret (relres110 _ _ w.heap.size a' p c' k rfl (by rw [World.cell?_setCell_other _ _ _ _ (by intro e; injection e with _ e; cases e)]; exact World.cell?_setCell_same _ _ _ m0) (World.cell?_setCell_same _ _ _ (by rw [World.cell?_setCell_other _ _ _ _ (by intro e; injection e with _ e; cases e)]; exact m1))) rfl ⟨a', c', rfl, ?_, ?_⟩
  · have h1 := (HI.out.off (grown_set _ w.heap.size 0 (.int .i64 k)) (fun x e => by cases e; have := HG.out.2.2; have := HG.out.2.1.size; exact .inl (by omega))).off (grown_set _ w.heap.size 1 (.slice a' p c')) (fun x e => by cases e; have := HG.out.2.2; have := HG.out.2.1.size; exact .inl (by omega))
    exact h1.wide (by have := HG.out.2.2; have := HG.out.2.1.size; omega) (by simp [World.setCell]) (Nat.le_refl _)
  · exact grown_own (grown_own (HG.out.1.trans HG3.out.1) (grown_set _ w.heap.size 0 _) (fun k hk => by cases hk; omega)) (grown_set _ w.heap.size 1 _) (fun k hk => by cases hk; omega)
end Go.Proofs.YthdhmflodiincaaGreat

namespace Go.Proofs.YthdhmflodiincaaGreat
open Go.RowKit Go.Maps Go.Sort Go.Shelf


def stepC (n m f t : Nat) (S : List Int) : List Int := if ((f * n + m : Nat) : Int) ∈ S ∧ ((m * n + t : Nat) : Int) ∈ S then S ++ [((f * n + t : Nat) : Int)] else S
def runT (n m f : Nat) : Nat → List Int → List Int
  | 0, S => S
  | t + 1, S => stepC n m f t (runT n m f t S)
def runF (n m : Nat) : Nat → List Int → List Int
  | 0, S => S
  | f + 1, S => runT n m f n (runF n m f S)
def runM (n : Nat) : Nat → List Int → List Int
  | 0, S => S
  | m + 1, S => runF n m n (runM n m S)
abbrev closS (n : Nat) (xs : List Int) : List Int := runM n n xs
end Go.Proofs.YthdhmflodiincaaGreat

namespace Go.Proofs.YthdhmflodiincaaGreat

theorem mem_stepC {n m f t : Nat} {S : List Int} {z : Int} : z ∈ stepC n m f t S ↔ z ∈ S ∨ (z = ((f * n + t : Nat) : Int) ∧ ((f * n + m : Nat) : Int) ∈ S ∧ ((m * n + t : Nat) : Int) ∈ S) := by
  unfold stepC
  by_cases h : ((f * n + m : Nat) : Int) ∈ S ∧ ((m * n + t : Nat) : Int) ∈ S
  · rw [if_pos h, List.mem_append, List.mem_singleton]
    exact ⟨fun h' => h'.elim .inl fun e => .inr ⟨e, h⟩, fun h' => h'.elim .inl fun e => .inr e.1⟩
  · rw [if_neg h]
    exact ⟨.inl, fun h' => h'.elim id fun e => absurd e.2 h⟩
theorem runT_all {P : Int → Prop} {n m f : Nat} : ∀ (t : Nat) (S : List Int), (∀ z ∈ S, P z) → (∀ t', t' < t → ∀ S' : List Int, (∀ z ∈ S', P z) → ((f * n + m : Nat) : Int) ∈ S' → ((m * n + t' : Nat) : Int) ∈ S' → P ((f * n + t' : Nat) : Int)) → ∀ z ∈ runT n m f t S, P z
  | 0, S, h, _, z, hz => h z hz
  | t + 1, S, h, hs, z, hz => by
    have ih := runT_all t S h (fun t' ht => hs t' (by omega))
    rcases mem_stepC.1 hz with h1 | ⟨rfl, h1, h2⟩
    · exact ih z h1
    · exact hs t (by omega) _ ih h1 h2
theorem runF_all {P : Int → Prop} {n m : Nat} : ∀ (f : Nat) (S : List Int), (∀ z ∈ S, P z) → (∀ f' t', f' < f → t' < n → ∀ S' : List Int, (∀ z ∈ S', P z) → ((f' * n + m : Nat) : Int) ∈ S' → ((m * n + t' : Nat) : Int) ∈ S' → P ((f' * n + t' : Nat) : Int)) → ∀ z ∈ runF n m f S, P z
  | 0, S, h, _, z, hz => h z hz
  | f + 1, S, h, hs, z, hz => runT_all n _ (runF_all f S h (fun f' t' hf ht => hs f' t' (by omega) ht)) (fun t' ht => hs f t' (by omega) ht) z hz
theorem runM_all {P : Int → Prop} {n : Nat} : ∀ (m : Nat) (S : List Int), (∀ z ∈ S, P z) → (∀ m' f' t', m' < m → f' < n → t' < n → ∀ S' : List Int, (∀ z ∈ S', P z) → ((f' * n + m' : Nat) : Int) ∈ S' → ((m' * n + t' : Nat) : Int) ∈ S' → P ((f' * n + t' : Nat) : Int)) → ∀ z ∈ runM n m S, P z
  | 0, S, h, _, z, hz => h z hz
  | m + 1, S, h, hs, z, hz => runF_all n _ (runM_all m S h (fun m' f' t' hm hf ht => hs m' f' t' (by omega) hf ht)) (fun f' t' hf ht => hs m f' t' (by omega) hf ht) z hz
abbrev Hs (L : List Int) (z : Nat) : Prop := ((z : Nat) : Int) ∈ L
theorem pair_of {q z p : Nat} (hq : 0 < q) (h : z < p * q) : ∃ u v, u < p ∧ v < q ∧ z = u * q + v :=
  ⟨z / q, z % q, Nat.div_lt_of_lt_mul (by rw [Nat.mul_comm]; exact h), Nat.mod_lt _ hq, by rw [Nat.mul_comm]; exact (Nat.div_add_mod z q).symm⟩
theorem pair_div {q u v : Nat} (hv : v < q) : (u * q + v) / q = u := by rw [Nat.mul_comm, Nat.mul_add_div (by omega), Nat.div_eq_of_lt hv, Nat.add_zero]
theorem pair_mod {q u v : Nat} (hv : v < q) : (u * q + v) % q = v := by rw [Nat.mul_comm, Nat.mul_add_mod, Nat.mod_eq_of_lt hv]
theorem pair_inj {q u v u' v' : Nat} (hv : v < q) (hv' : v' < q) (h : u * q + v = u' * q + v') : u = u' ∧ v = v' := by
  have h1 := congrArg (· / q) h
  have h2 := congrArg (· % q) h
  simp only [pair_div hv, pair_div hv', pair_mod hv, pair_mod hv'] at h1 h2
  exact ⟨h1, h2⟩
theorem runT_mono {n m f : Nat} {z : Int} : ∀ (t : Nat) (S : List Int), z ∈ S → z ∈ runT n m f t S
  | 0, _, h => h
  | t + 1, S, h => mem_stepC.2 (.inl (runT_mono t S h))
theorem runF_mono {n m : Nat} {z : Int} : ∀ (f : Nat) (S : List Int), z ∈ S → z ∈ runF n m f S
  | 0, _, h => h
  | f + 1, S, h => runT_mono n _ (runF_mono f S h)
theorem runM_mono {n : Nat} {z : Int} : ∀ (m : Nat) (S : List Int), z ∈ S → z ∈ runM n m S
  | 0, _, h => h
  | m + 1, S, h => runF_mono n _ (runM_mono m S h)
theorem runT_has {n m f t' : Nat} : ∀ (t : Nat) (S : List Int), t' < t → Hs S (f * n + m) → Hs S (m * n + t') → Hs (runT n m f t S) (f * n + t')
  | 0, _, h, _, _ => by omega
  | t + 1, S, h, h1, h2 => by
    rcases Nat.lt_or_ge t' t with h' | h'
    · exact mem_stepC.2 (.inl (runT_has t S h' h1 h2))
    · obtain rfl : t' = t := by omega
      exact mem_stepC.2 (.inr ⟨rfl, runT_mono _ _ h1, runT_mono _ _ h2⟩)
theorem runF_has {n m f' t' : Nat} (ht : t' < n) : ∀ (f : Nat) (S : List Int), f' < f → Hs S (f' * n + m) → Hs S (m * n + t') → Hs (runF n m f S) (f' * n + t')
  | 0, _, h, _, _ => by omega
  | f + 1, S, h, h1, h2 => by
    rcases Nat.lt_or_ge f' f with h' | h'
    · exact runT_mono _ _ (runF_has ht f S h' h1 h2)
    · obtain rfl : f' = f := by omega
      exact runT_has n _ ht (runF_mono _ _ h1) (runF_mono _ _ h2)
theorem runF_iff {n m x y : Nat} {S : List Int} (hm : m < n) (hx : x < n) (hy : y < n) (_hS : ∀ z ∈ S, ∃ u v, u < n ∧ v < n ∧ z = ((u * n + v : Nat) : Int)) :
    Hs (runF n m n S) (x * n + y) ↔ Hs S (x * n + y) ∨ (Hs S (x * n + m) ∧ Hs S (m * n + y)) := by
  constructor
  · intro h
    have key := runF_all (P := fun z => ∀ u v, u < n → v < n → z = ((u * n + v : Nat) : Int) → Hs S (u * n + v) ∨ (Hs S (u * n + m) ∧ Hs S (m * n + v))) (n := n) (m := m) n S
      (fun z hz u v hu hv e => .inl (by rw [Hs, ← e]; exact hz))
      (fun f' t' hf ht S' hS' h1 h2 u v hu hv e => by
        obtain ⟨rfl, rfl⟩ := pair_inj hv ht (by omega : u * n + v = f' * n + t')
        refine .inr ⟨?_, ?_⟩
        · exact (hS' _ h1 u m hu hm rfl).elim id And.left
        · exact (hS' _ h2 m v hm hv rfl).elim id And.right)
    exact key _ h x y hx hy rfl
  · rintro (h | ⟨h1, h2⟩)
    · exact runF_mono _ _ h
    · exact runF_has hy n S hx h1 h2
theorem runM_pairs {n : Nat} (m : Nat) (_hmn : m ≤ n) {S : List Int} (hS : ∀ z ∈ S, ∃ u v, u < n ∧ v < n ∧ z = ((u * n + v : Nat) : Int)) : ∀ z ∈ runM n m S, ∃ u v, u < n ∧ v < n ∧ z = ((u * n + v : Nat) : Int) :=
  runM_all (P := fun z => ∃ u v, u < n ∧ v < n ∧ z = ((u * n + v : Nat) : Int)) m S hS (fun _ f' t' _ hf ht _ _ _ _ => ⟨f', t', hf, ht, rfl⟩)
theorem runM_closed {n : Nat} : ∀ (M : Nat), M ≤ n → ∀ {S : List Int}, (∀ z ∈ S, ∃ u v, u < n ∧ v < n ∧ z = ((u * n + v : Nat) : Int)) →
    ∀ m x y, m < M → x < n → y < n → Hs (runM n M S) (x * n + m) → Hs (runM n M S) (m * n + y) → Hs (runM n M S) (x * n + y)
  | 0, _, _, _, m, _, _, hm, _, _, _, _ => by omega
  | M + 1, hM, S, hS, m, x, y, hm, hx, hy, h1, h2 => by
    have ih := runM_closed M (by omega) hS
    have hp := runM_pairs M (by omega) hS
    have it := fun {x y : Nat} (hx : x < n) (hy : y < n) => runF_iff (m := M) (S := runM n M S) (by omega) hx hy hp
    change Hs (runF n M n (runM n M S)) _ at h1 h2
    change Hs (runF n M n (runM n M S)) _
    rcases Nat.lt_or_ge m M with hmM | hmM
    · rw [it hx (by omega)] at h1
      rw [it (by omega) hy] at h2
      rw [it hx hy]
      rcases h1 with h1 | ⟨h1, h1'⟩ <;> rcases h2 with h2 | ⟨h2, h2'⟩
      · exact .inl (ih m x y hmM hx hy h1 h2)
      · exact .inr ⟨ih m x M hmM hx (by omega) h1 h2, h2'⟩
      · exact .inr ⟨h1, ih m M y hmM (by omega) hy h1' h2⟩
      · exact .inr ⟨h1, h2'⟩
    · obtain rfl : m = M := by omega
      rw [it hx (by omega)] at h1
      rw [it (by omega) hy] at h2
      rw [it hx hy]
      exact .inr ⟨h1.elim id And.left, h2.elim id And.right⟩

theorem clos_way {n : Nat} {A : List Int} (hA : ∀ z ∈ A, ∃ u v, u < n ∧ v < n ∧ z = ((u * n + v : Nat) : Int)) {x y : Nat} (hx : x < n) (hy : y < n) : Hs (uniq (closS n A)) (x * n + y) ↔ Way (fun x y => Hs A (x * n + y)) n n x y := by
  constructor
  · intro h
    have key := runM_all (P := fun z => ∀ u v, u < n → v < n → z = ((u * n + v : Nat) : Int) → Way (fun x y => Hs A (x * n + y)) n n u v) (n := n) n A
      (fun z hz u v hu hv e => ((way_one hu hv).2 (by rw [Hs, ← e]; exact hz)).wide (by omega))
      (fun m' f' t' hm hf ht S' hS' h1 h2 u v hu hv e => by
        obtain ⟨rfl, rfl⟩ := pair_inj hv ht (by omega : u * n + v = f' * n + t')
        exact ((hS' _ h1 u m' hu hm rfl).join (hS' _ h2 m' v hm hv rfl)).short)
    exact key _ (mem_uniq.1 h) x y hx hy rfl
  · rintro ⟨m, v, h1, _, rfl, rfl, hv, hr⟩
    rw [Hs, mem_uniq]
    have hb : ∀ i, i < m → Hs (closS n A) (v 0 * n + v (i + 1)) := by
      intro i
      induction i with
      | zero => exact fun h => runM_mono _ _ (hr 0 h)
      | succ i ih => exact fun h => runM_closed n (Nat.le_refl _) hA (v (i + 1)) (v 0) (v (i + 2)) (hv _ (by omega)) (hv _ (by omega)) (hv _ (by omega)) (ih (by omega)) (runM_mono _ _ (hr (i + 1) h))
    have := hb (m - 1) (by omega)
    rwa [Nat.sub_add_cancel h1] at this
theorem val_pairs {n : Nat} {g : List Gt} {m : List Cl} (hs : Sq n g m) (v : List Bool) : ∀ z ∈ valL g v m, ∃ x y, x < n ∧ y < n ∧ z = ((x * n + y : Nat) : Int) := fun z hz => by
  unfold valL at hz
  obtain ⟨c, hc, rfl⟩ := List.mem_map.1 hz
  obtain ⟨h0, h1⟩ := hs.2 c (List.mem_filter.1 hc).1
  obtain ⟨k, hk⟩ : ∃ k : Nat, c.1 = (k : Int) := ⟨c.1.toNat, by omega⟩
  have hk2 : k < n * n := by rw [hk] at h1; exact_mod_cast h1
  obtain ⟨x, y, hx, hy, e⟩ := pair_of (by rcases Nat.eq_zero_or_pos n with rfl | h; omega; exact h) hk2
  exact ⟨x, y, hx, hy, by rw [hk, e]⟩
theorem val_rel {n : Nat} {g : List Gt} {m : List Cl} (hG : Good g) (hs : Sq n g m) (v : List Bool) (x y : Nat) : Hs (valL g v m) (x * n + y) ↔ relM g v n m x y := by
  rw [Hs, mem_valL hG hs.1.1 v]
  unfold relM
  rw [show ((x * n + y : Nat) : Int) = (x : Int) * n + y by simp]
theorem val_clos {n : Nat} {gs g : List Gt} {a m : List Cl} (hG : Good gs) (ha : Sq n gs a) (hg : Good g) (hm : Sq n g m) (v : List Bool) (h : ∀ x y, x < n → y < n → (relM g v n m x y ↔ Way (relM gs v n a) n n x y)) : valL g v m = uniq (closS n (valL gs v a)) := by
  have hA := val_pairs ha v
  have hw : ∀ x y, x < n → y < n → (Hs (valL g v m) (x * n + y) ↔ Hs (uniq (closS n (valL gs v a))) (x * n + y)) := fun x y hx hy => by
    rw [val_rel hg hm, h x y hx hy, clos_way hA hx hy]
    have e : (fun x y => Hs (valL gs v a) (x * n + y)) = relM gs v n a := by
      funext x y
      exact propext (val_rel hG ha v x y)
    rw [e]
  refine up_ext (val_up hm.1.1 v) (uniq_up _) fun z => ?_
  constructor
  · intro hz
    obtain ⟨x, y, hx, hy, rfl⟩ := val_pairs hm v z hz
    exact (hw x y hx hy).1 hz
  · intro hz
    obtain ⟨x, y, hx, hy, rfl⟩ := runM_pairs n (Nat.le_refl _) hA z (mem_uniq.1 hz)
    exact (hw x y hx hy).2 hz
theorem smP_val {n : Nat} {gs : List Gt} {a : List Cl} (hG : Good gs) (ha : Sq n gs a) (hn1 : 1 ≤ n) (hn : n ≤ 4) (hl : gs.length ≤ 1000) (v : List Bool) : valL (smP n gs a).1 v (smP n gs a).2 = uniq (closS n (valL gs v a)) := by
  obtain ⟨q1, q2, q3, q4, q5⟩ := smP_ok hG ha hn1 hn hl
  exact val_clos hG ha q1 q4 v fun x y hx hy => q5 v x y hx hy
end Go.Proofs.YthdhmflodiincaaGreat

namespace Go.Proofs.YthdhmflodiincaaGreat

theorem valE_valL {g : List Gt} {v : List Bool} {m : List Cl} (h : ∀ c ∈ m, Ok g c.2) : valE g v m = valL g v m := by
  unfold valE valL
  rw [List.filter_congr (fun c hc => eval_val (h c hc))]
theorem madeC_next (refs : List Int) (raw : List Nat) (k : Nat) : madeC refs raw (k + 1) = madeC refs raw k ++ (if (raw.getD k 0) % 2 = 1 ∧ pickL refs (raw.getD k 0 / 2) ≠ 1 then [((k : Int), pickL refs (raw.getD k 0 / 2))] else []) := by
  unfold madeC
  rw [List.range_succ, List.filterMap_append, List.filterMap_cons, List.filterMap_nil]
  by_cases hc : (raw.getD k 0) % 2 = 1 ∧ pickL refs (raw.getD k 0 / 2) ≠ 1
  · rw [if_pos hc, if_pos hc]
  · rw [if_neg hc, if_neg hc]
theorem madeC_all (refs : List Int) (raw : List Nat) : ∀ k, UpM (madeC refs raw k) ∧ ∀ c ∈ madeC refs raw k, 0 ≤ c.1 ∧ c.1 < (k : Int) ∧ c.2 ≠ 1 ∧ ∃ n, c.2 = pickL refs n
  | 0 => ⟨by unfold UpM madeC; simp, fun c hc => by simp [madeC] at hc⟩
  | k + 1 => by
    obtain ⟨h1, h2⟩ := madeC_all refs raw k
    rw [madeC_next]
    by_cases hc : (raw.getD k 0) % 2 = 1 ∧ pickL refs (raw.getD k 0 / 2) ≠ 1
    · rw [if_pos hc]
      refine ⟨?_, fun c hm => ?_⟩
      · unfold UpM at h1 ⊢
        rw [List.map_append, List.pairwise_append]
        refine ⟨h1, by simp, fun x hx y hy => ?_⟩
        obtain ⟨c, hc', rfl⟩ := List.mem_map.1 hx
        simp at hy
        subst hy
        exact (h2 c hc').2.1
      · rcases List.mem_append.1 hm with hm | hm
        · have := h2 c hm
          exact ⟨this.1, by have := this.2.1; omega, this.2.2⟩
        · rw [List.mem_singleton.1 hm]
          exact ⟨by show (0 : Int) ≤ (k : Int); omega, by show (k : Int) < ((k + 1 : Nat) : Int); omega, hc.2, _, rfl⟩
    · rw [if_neg hc, List.append_nil]
      exact ⟨h1, fun c hm => by have := h2 c hm; exact ⟨this.1, by have := this.2.1; omega, this.2.2⟩⟩
theorem made_mat {g : List Gt} {refs : List Int} (hp : 1 ≤ g.length) (h : ∀ r ∈ refs, Ok g r) (raw : List Nat) (k : Nat) : Mat g (madeC refs raw k) :=
  ⟨(madeC_all refs raw k).1, fun c hc => by
    obtain ⟨_, _, h3, n, h4⟩ := (madeC_all refs raw k).2 c hc
    exact ⟨by rw [h4]; exact pick_ok hp h n, h3⟩⟩
open Go.RowKit in
open Go.RowKit in
theorem value_at {g : List Gt} {vs : List Bool} {m : List Cl} {na : Nat} {xa ma va : Option Addr} {xc mc vc : Nat} {w : World} (ar : Int) (hna : m.length = na) (hv8 : vs.length = 8) (hG : Good g) (hl : g.length ≤ 1000) (hok : ∀ c ∈ m, Ok g c.2) (hn : na ≤ 1000) (h : GatesW w xa xc g) (hm : CellsW w ma mc m) (hv : BoolsW w va vc vs) :
    Calls Tryz.prog 12 #[.agg #[.slice xa g.length xc], .agg #[.int .i64 ar, .slice ma na mc], .slice va 8 vc] w fun e w' => ∃ b nv d, e = .returned (.agg #[.int .i64 ar, .slice b nv d]) ∧ (valL g vs m).length = nv ∧ IntsW w' b d (valL g vs m) ∧ w.grownBy w' none := by
  subst hna
  have h1 := mvalue_calls g m vs ar xa xc ma mc va vc w h hm hv hl hn (by omega) (good_bounds hG (by omega)) (fun x hx => by have := hok x hx; unfold Ok at this; omega)
  rw [hv8, valE_valL hok] at h1
  refine h1.mono fun e w' he => ?_
  obtain ⟨b, d, rfl, hi, hg⟩ := he
  exact ⟨b, _, d, rfl, rfl, hi.weak, hg⟩
end Go.Proofs.YthdhmflodiincaaGreat

namespace Go.Proofs.YthdhmflodiincaaGreat
open Go.RowKit Go.Maps


theorem own_neZ {w : World} {B b : Nat} {e : TypeId} {size n : Nat} {v : Value} {xs : List Value} (h : w.ownsRow B e size v n xs) (hb : b < B) : v.ownBlock = none ∨ v.ownBlock ≠ some b := by
  cases hv : v.ownBlock with
  | none => exact .inl rfl
  | some k => have := (h.lt k hv).1; exact .inr (by simp; omega)

structure RowBox (Bs : Nat) (wr : World) (b : Nat) (k : Int) (v : Value) (s : List Int) : Prop where
  row : wr.cell? ⟨b, 1, none⟩ = some v
  own : wr.ownsRow Bs 3 1 v s.length (intCells s)
  c0 : wr.cell? ⟨b, 0, none⟩ = some (.int .i64 k)
  fr : wr.frozen? ⟨b, 1, none⟩ = false
  low : b < Bs ∧ Bs ≤ wr.heap.size
theorem RowBox.new (w : World) (k : Int) {Bs : Nat} (hB : Bs = w.heap.size + 1) : RowBox Bs (w.alloc (.cells #[.int .i64 k, .slice none 0 0] 40)) w.heap.size k (.slice none 0 0) [] :=
  ⟨by go_simp, World.ownsRow_nil _ _ _ _, by go_simp, by go_simp, by rw [hB]; simp⟩
theorem RowBox.more {Bs Bs' : Nat} {wr : World} {b : Nat} {k : Int} (h : RowBox Bs wr b k (.slice none 0 0) []) (h1 : Bs ≤ Bs') (h2 : Bs' ≤ wr.heap.size) : RowBox Bs' wr b k (.slice none 0 0) [] :=
  ⟨h.row, World.ownsRow_nil _ _ _ _, h.c0, h.fr, by have := h.low; omega, h2⟩
theorem RowBox.grown {Bs : Nat} {wr w' : World} {b : Nat} {k : Int} {v : Value} {s : List Int} (h : RowBox Bs wr b k v s) (g : wr.grownBy w' none) : RowBox Bs w' b k v s :=
  ⟨g.cell h.row (by simp), own_grown h.own g, g.cell h.c0 (by simp), (grown_frozen g (lies_lt h.c0) 1).trans h.fr, h.low.1, Nat.le_trans h.low.2 g.size⟩
theorem RowBox.at_ {Bs : Nat} {wr WA w3 : World} {b : Nat} {k : Int} {v : Value} {s : List Int} (h : RowBox Bs wr b k v s) (ha : wr.grownBy WA none) (hg : WA.grownBy w3 v.ownBlock) :
    w3.cell? ⟨b, 1, none⟩ = some v ∧ w3.frozen? ⟨b, 1, none⟩ = false := by
  have hne : some b ≠ v.ownBlock := fun e => by have := (h.own.lt b e.symm).1; have := h.low; omega
  have hlt := lies_lt h.row
  have e1 := ha.block b hlt (by simp)
  have e2 := hg.block b (Nat.lt_of_lt_of_le hlt ha.size) hne
  exact ⟨hg.cell (ha.cell h.row (by simp)) hne, (World.frozen?_of_block (a := ⟨b, 1, none⟩) (e2.trans e1)).trans h.fr⟩
theorem RowBox.step {Bs : Nat} {wr WA w3 : World} {b : Nat} {k : Int} {v v' : Value} {s : List Int} {x : Int} (h : RowBox Bs wr b k v s) (ha : wr.grownBy WA none) (hg : WA.grownBy w3 v.ownBlock)
    (hown' : w3.ownsRow Bs 3 1 v' (s.length + 1) (intCells s ++ [.int .i64 x])) : RowBox Bs (w3.setCell ⟨b, 1, none⟩ v') b k v' (s ++ [x]) := by
  have hlow := h.low
  have hne : some b ≠ v.ownBlock := fun e => by have := (h.own.lt b e.symm).1; omega
  obtain ⟨h1, h2⟩ := h.at_ ha hg
  refine ⟨World.cell?_setCell_same' _ _ _ (by rw [h1]; rfl), ?_, ?_, by rw [World.frozen?_setCell]; exact h2, hlow.1, ?_⟩
  · rw [List.length_append, intCells, List.map_append]; exact hown'.kept (grown_set _ _ _ _) (own_neZ hown' (by omega))
  · rw [World.cell?_setCell_other _ _ _ _ (by intro e; injection e with _ e1; omega)]; exact hg.cell (ha.cell h.c0 (by simp)) hne
  · have := ha.size; have := hg.size; simp [World.setCell]; omega
theorem RowBox.grows {Bs : Nat} {w0 wr WA w3 : World} {b : Nat} {k : Int} {v v' : Value} {s : List Int} (h : RowBox Bs wr b k v s) (hw : w0.grownBy wr none) (h0 : w0.heap.size ≤ b) (ha : wr.grownBy WA none) (hg : WA.grownBy w3 v.ownBlock) : w0.grownBy (w3.setCell ⟨b, 1, none⟩ v') none :=
  grown_own (grown_own (hw.trans ha) hg (fun j hj => by have := (h.own.lt j hj).1; have := h.low; omega)) (grown_set _ _ _ _) (fun j hj => by cases hj; exact h0)
theorem RowBox.ints {Bs : Nat} {wr : World} {b : Nat} {k : Int} {v : Value} {s : List Int} (h : RowBox Bs wr b k v s) : ∃ a c, v = .slice a s.length c ∧ Span Bs wr.heap.size wr (fun W => Ints W a c s) := ints_span h.own


end Go.Proofs.YthdhmflodiincaaGreat

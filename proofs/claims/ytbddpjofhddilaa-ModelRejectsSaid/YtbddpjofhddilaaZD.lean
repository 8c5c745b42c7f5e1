/- Copies of rows appended; what a changed model's parts measure; validity called. -/
import Derived.Test.YtbddpjofhddilaaZB
namespace Go.Proofs.Ytbddpjofhddilaa
open Go.RowKit

theorem up_sub_lenZ : ∀ {l m : List Int}, Up l → Up m → (∀ z ∈ l, z ∈ m) → l.length ≤ m.length
  | [], _, _, _, _ => Nat.zero_le _
  | x :: l, [], _, _, h => by have := h x (by simp); cases this
  | x :: l, y :: m, hl, hm, h => by
    obtain ⟨hx, hl'⟩ := List.pairwise_cons.1 hl
    obtain ⟨hy, hm'⟩ := List.pairwise_cons.1 hm
    by_cases hxy : x = y
    · subst hxy
      have := up_sub_lenZ hl' hm' (fun z hz => by
        rcases List.mem_cons.1 (h z (List.mem_cons_of_mem _ hz)) with e | e
        · subst e; have := hx z hz; omega
        · exact e)
      simp only [List.length_cons]; omega
    · have hxm : x ∈ m := by
        rcases List.mem_cons.1 (h x (by simp)) with e | e
        · exact absurd e hxy
        · exact e
      have hyx := hy x hxm
      have := up_sub_lenZ hl hm' (fun z hz => by
        rcases List.mem_cons.1 (h z hz) with e | e
        · subst e
          rcases List.mem_cons.1 hz with e | e
          · omega
          · have := hx z e; omega
        · exact e)
      simp only [List.length_cons] at this ⊢; omega
theorem validZ {s1 fa s3 s4 sa ta : Option Addr} {ns c1 fc n3 q3 n4 q4 n f k sc tc : Nat} {F : List Fd} {us : List Int} {st lp : Int} {L : List (List Rl)} {w : World} {B : Bool} (hF : Fields w fa fc F) (hu : Ints w sa sc us) (hT : Sts w ta tc L) (hn : us.length = n) (hf : F.length = f) (hk : L.length = k)
    (hns : ns ≤ 10) (hnf : F.length ≤ 10) (hus : us.length ≤ 10) (hk64 : L.length ≤ 64) (hr : ∀ l ∈ L, l.length ≤ 10 ∧ ∀ r ∈ l, r.2.length ≤ 200) (hfl : ∀ f ∈ F, f.2.1.length ≤ 10) (hB : validM ns us st F L lp = B) :
    Calls Try.prog 18 #[.agg #[.slice s1 ns c1, .slice fa f fc, .slice s3 n3 q3, .slice s4 n4 q4], .agg #[.slice sa n sc, .int .i64 st, .slice ta k tc, .int .i64 lp]] w fun e w' => e = .returned (.bool B) ∧ w.grownBy w' none := by
  have h := modelValid_calls s1 fa s3 s4 ns c1 fc n3 q3 n4 q4 F us sa sc st ta L tc lp w hF hu hT hns hnf hus hk64 hr hfl
  rw [hn, hf, hk, hB] at h
  exact h
theorem append_sts {ops : Array Oper} {rest : List Oper} {o : Oper} {a : Act} {Q : Exit → Act → World → Prop} {w : World} (hgd : o.guard = none) (s x : Operand)
    (ho : o.op = .call { callee := .builtin .append, args := #[s, x], argTypes := #[31, 31] })
    (base : Nat) (v : Value) (hs : a.eval s = v) (hown : w.ownsRow base 40 1 v 0 [])
    (ad : Addr) (m c : Nat) (D : List Ds) (hx : a.eval x = .slice (some ad) m c) (hm : D.length = m) (hnews : ∀ j u, (rowOf D)[j]? = some u → w.cell? (ad.add j) = some u) (h63 : m ≤ 1000) (hbase : base ≤ w.heap.size)
    (h : ∀ v' w', w'.ownsRow base 40 1 v' m (rowOf D) → w.grownBy w' v.ownBlock → wpList Try.prog ops Q rest (a.put o.dst v') w') : wpList Try.prog ops Q (o :: rest) a w := by
  obtain ⟨i0, hi0, hz0, hz1, hz2⟩ := info_parts info40
  refine wpList_append_own w hgd s x 31 ho base 40 i0 (.slice none 0 0) 1 24 Try.underlying31 hi0 hz0 hz1 hz2 rfl (by decide) v 0 [] hs hown ad m c (rowOf D) hx (by rw [rowOf, List.length_map, hm, Nat.mul_one]) hnews (fun u hu => by rw [rowOf, List.mem_map] at hu; obtain ⟨d, _, rfl⟩ := hu; rfl) (by unfold maxLen; omega) (by omega) hbase (fun v' w' h1 h2 _ => h v' w' ?_ h2)
  rw [Nat.zero_add, List.nil_append] at h1
  exact h1
theorem relOf_len : ∀ D : List Dr, (relOf D).length = D.length * 2
  | [] => rfl
  | d :: D => by
    have ih := relOf_len D
    unfold relOf at ih ⊢
    rw [List.flatMap_cons, List.length_append, ih]
    simp [relCells]; omega
theorem append_rels {ops : Array Oper} {rest : List Oper} {o : Oper} {a : Act} {Q : Exit → Act → World → Prop} {w : World} (hgd : o.guard = none) (s x : Operand)
    (ho : o.op = .call { callee := .builtin .append, args := #[s, x], argTypes := #[40, 40] })
    (base : Nat) (v : Value) (hs : a.eval s = v) (hown : w.ownsRow base 53 2 v 0 [])
    (ad : Addr) (m c : Nat) (D : List Dr) (hx : a.eval x = .slice (some ad) m c) (hm : D.length = m) (hnews : ∀ j u, (relOf D)[j]? = some u → w.cell? (ad.add j) = some u) (h63 : m ≤ 1000) (hbase : base ≤ w.heap.size)
    (h : ∀ v' w', w'.ownsRow base 53 2 v' m (relOf D) → w.grownBy w' v.ownBlock → wpList Try.prog ops Q rest (a.put o.dst v') w') : wpList Try.prog ops Q (o :: rest) a w := by
  obtain ⟨i0, hi0, hz0, hz1, hz2⟩ := info_parts info53
  refine wpList_append_own w hgd s x 40 ho base 53 i0 (.agg #[.int .i64 0, .slice none 0 0]) 2 32 Try.underlying40 hi0 hz0 hz1 hz2 rfl (by decide) v 0 [] hs hown ad m c (relOf D) hx (by rw [relOf_len, hm]) hnews (fun u hu => by
    rw [relOf, List.mem_flatMap] at hu
    obtain ⟨d, _, hd⟩ := hu
    simp [relCells] at hd
    rcases hd with rfl | rfl <;> rfl) (by unfold maxLen; omega) (by omega) hbase (fun v' w' h1 h2 _ => h v' w' ?_ h2)
  rw [Nat.zero_add, List.nil_append] at h1
  exact h1
/-- Measures of the changed models. -/
def FewM (L : List (List Rl)) : Prop := ∀ l ∈ L, l.length ≤ 10 ∧ ∀ r ∈ l, r.2.length ≤ 200
theorem few_drop {L : List (List Rl)} (h : FewM L) : FewM (L.drop 1) := fun l hl => h l (List.mem_of_mem_drop hl)
theorem few_set {L : List (List Rl)} (h : FewM L) {q : Nat} {l : List Rl} (hl : l.length ≤ 10 ∧ ∀ r ∈ l, r.2.length ≤ 200) : FewM (L.set q l) := fun m hm => by
  rcases List.mem_or_eq_of_mem_set hm with hm | rfl
  · exact h m hm
  · exact hl
theorem few_one {L : List (List Rl)} (h : FewM L) {l : List Rl} (hl : l ∈ L) : (l.drop 1).length ≤ 10 ∧ ∀ r ∈ l.drop 1, r.2.length ≤ 200 :=
  ⟨by rw [List.length_drop]; have := (h l hl).1; omega, fun r hr => (h l hl).2 r (List.mem_of_mem_drop hr)⟩
theorem valid_short {k : Nat} {us : List Int} {st : Int} {F : List Fd} {L : List (List Rl)} {lp : Int} (h : validM k us st F L lp = true) {i j : Nat} {f : Fd} {l : List Rl} {r : Rl} (hf : F[i]? = some f) (hl : L[j]? = some l) (hr : l[i]? = some r) : r.2.length ≤ 125 := by
  have h0 := fits_parts (field_parts (validM_field h hf hl)).2
  rw [List.getD_eq_getElem?_getD, hr, Option.getD_some] at h0
  have h1 := up_sub_lenZ h0.2.2.1 full_up ((inB_iff h0.2.2.1 full_up).1 h0.2.2.2)
  exact Nat.le_trans h1 (fullL_len (validI_facts (validM_parts h).1).2.1 f.2.1)
theorem few_rel {L : List (List Rl)} (h : FewM L) {l : List Rl} (hl : l ∈ L) {i : Nat} {r : Rl} {z x : Int} (hr : r.2.length ≤ 125) : (l.set i (x, unionL r.2 [z])).length ≤ 10 ∧ ∀ y ∈ l.set i (x, unionL r.2 [z]), y.2.length ≤ 200 := by
  refine ⟨by rw [List.length_set]; exact (h l hl).1, fun y hy => ?_⟩
  rcases List.mem_or_eq_of_mem_set hy with hy | rfl
  · exact (h l hl).2 y hy
  · have h1 : (unionL r.2 [z]).length ≤ r.2.length + 1 := merge_len (fun x y => x || y) r.2 [z]
    show (unionL r.2 [z]).length ≤ 200
    omega
/-- An append of one element, where the order of a region is drawn. -/
theorem ready_append_z {ops : Array Oper} {o : Oper} {a : Act} {Q : Exit → Act → World → Prop} {K' : Act → World → Prop} {w : World} (t e : TypeId) (s x : Operand) (hgd : o.guard = none)
    (ho : o.op = .call { callee := .builtin .append, args := #[s, x], argTypes := #[t, t] }) {i0 : TypeInfo} {z : Value} {k bytes : Nat} (hund : Try.prog.underlying t = some (.slice e)) (hi0 : Try.prog.info? e = some i0) (hz0 : i0.zero = some z) (hz1 : i0.size = k) (hz2 : i0.bytes = bytes) (hzc : z.cells.size = k) (hk : 0 < k) (hb : bytes ≤ 1000000)
    (base : Nat) (v : Value) (n : Nat) (xs : List Value) (hs : a.eval s = v) (hown : w.ownsRow base e k v n xs)
    (ad : Addr) (us : List Value) (hl : us.length = k) (hx : a.eval x = .slice (some ad) 1 1) (hnews : ∀ j u, us[j]? = some u → w.cell? (ad.add j) = some u) (h1 : ∀ u ∈ us, u.oneCell' = true)
    (h63 : n ≤ 1000000) (hbase : base ≤ w.heap.size)
    (h : ∀ v' w', w'.ownsRow base e k v' (n + 1) (xs ++ us) → w.grownBy w' v.ownBlock → (v'.ownBlock = v.ownBlock ∨ v'.ownBlock = some w.heap.size) → K' (a.put o.dst v') w') :
    if Region.wanted o (yielded ops a.tmps) = true then Oper.wp Try.prog o a w K' Q else K' (a.put o.dst undef) w := by
  have hbn : (n + 1) * bytes ≤ 140737488355328 := Nat.le_trans (Nat.mul_le_mul (show n + 1 ≤ 1000001 by omega) hb) (by omega)
  obtain ⟨v', w', hr, h2, h3, h4, h5⟩ := run_append_own_at (P := Try.prog) w base t o.type e i0 z k bytes hund hi0 hz0 hz1 hz2 hzc hk v n xs hown ad 1 1 us (by rw [hl, Nat.one_mul]) hnews h1 (by unfold maxLen; omega) hbn hbase
  have hw : Region.wanted o (yielded ops a.tmps) = true := by simp only [Region.wanted, hgd]
  rw [if_pos hw]
  unfold Oper.wp execOp
  simp only [ho, resolve, invoke, builtin, Sem.run_bind, Sem.run_pure, Result.andThen_ok, List.map_toArray, List.map_cons, List.map_nil, hs, hx, hr]
  exact h v' w' h2 h3 h5
theorem own_keptZ {w w' : World} {B e k n : Nat} {v : Value} {cs : List Value} (h : w.ownsRow B e k v n cs) (hg : w.grownBy w' none) : w'.ownsRow B e k v n cs := h.kept hg (by cases hv : v.ownBlock <;> simp)
theorem intsW_oneZ (w : World) (z : Int) : IntsW (w.alloc (.cells #[.int .i64 z] 3)) (some ⟨w.heap.size, 0, none⟩) 1 [z] := ⟨Nat.le_refl _, .inr ⟨_, _, rfl, fun j u hj => by
  match j, hj with
  | 0, hj => simp at hj; subst hj; go_simp⟩⟩
theorem add_offZ (b o j : Nat) : (⟨b, o, none⟩ : Addr).add j = ⟨b, o + j, none⟩ := by unfold Addr.add; split <;> simp_all
end Go.Proofs.Ytbddpjofhddilaa

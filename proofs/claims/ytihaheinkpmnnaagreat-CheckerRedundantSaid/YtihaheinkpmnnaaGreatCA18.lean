/- Texts of the proof: VA KQ. -/
import Derived.Test.YtihaheinkpmnnaaGreatCA17
import Derived.Test.YtihaheinkpmnnaaGreatCA16
import Derived.Test.YtihaheinkpmnnaaGreatCA08
namespace Go.Proofs.YtihaheinkpmnnaaGreat
set_option maxRecDepth 200000
open Go.RowKit Go.Shelf
attribute [local go_sem] Oper.semAt_some
def inV (x : Int) : Array Value := #[.int .i64 x]
set_option maxHeartbeats 4000000 in
theorem values_iter {L : List Int} {a : Option Addr} {c b : Nat} (hl : L.length ≤ 100000) (I : Nat → World → Prop) (hI : ∀ k W, I k W → W.cell? ⟨b, 0, none⟩ = some (.slice a L.length c) ∧ IntsW W a c L) (w : World) :
    IterX inV Fence.wide Tryz.prog 75 #[] #[.pointer (some ⟨b, 0, none⟩)] I (fun k x W => I k W ∧ L[k]? = some x) (fun k W => k = L.length ∧ I k W) (fun k _ k' => k' = k + 1) 0 w := by
  intro nn l Ext X hY hj hext
  obtain ⟨n, hn⟩ : ∃ n, L.length = n := ⟨_, rfl⟩
  obtain ⟨q0, _⟩ := hI 0 w hj
  rw [hn] at q0 hl ⊢
  have HY := Lib.hid hY
  have HI := Lib.hid (And.intro hI hn)
  have HJ := Lib.hid (And.intro hj hext)
  clear hY hI hn hj hext
  refine callsIn_of_wp Tryz.func75 rfl trivial ?_ rfl
  simp only [Tryz.ntmps75, List.size_toArray, List.length_cons, List.length_nil, Nat.reduceAdd, Nat.reduceSub, Array.replicate_succ, Array.replicate_zero, List.push_toArray, List.append_toArray, List.nil_append, List.cons_append]
  gi_wp2_with fail
  gi_loopg [7] n (fun gk s7 wr => ∃ k : Nat, s7 = .int .i64 (k : Int) ∧ gk = n - k ∧ k ≤ n ∧ I k wr ∧ Ext wr)
  case atStart => exact ⟨0, rfl, rfl, by omega, HJ.out.1, HJ.out.2⟩
  case round =>
    obtain ⟨k, rfl, hgk, hk, hj, hext⟩ := hrel
    have HR := Lib.hid (And.intro hgk (And.intro hj hext))
    clear hgk hj hext
    by_cases hkn : k < n
    · have f1 : decide ((k : Int) < (n : Int)) = true := decide_eq_true (by omega)
      have f1' : decide (k < n) = true := decide_eq_true hkn
      have i0 : (0 : Int) ≤ (k : Int) := by omega
      have i1 : (k : Int) < (n : Int) := by omega
      have k1 : IntKind.i64.wrap ((k : Int) + 1) = (k : Int) + 1 := IntWalk.i64_in _ (by omega)
      obtain ⟨x, hx⟩ : ∃ x, L[k]? = some x := ⟨_, List.getElem?_eq_getElem (by rw [HI.out.2]; exact hkn)⟩
      obtain ⟨bz, oz, rfl, hcell⟩ := (HI.out.1 k wr HR.out.2.1).2.at hx
      have HX := Lib.hid hx
      clear hx
      gi_wp2_with fail
      obtain ⟨fn, tmps, assign, body, hy, hRI⟩ := HY.out k x wr ⟨HR.out.2.1, HX.out⟩ HR.out.2.2
      simp only [inV] at hy
      have HRI := Lib.hid hRI
      clear hRI q0 hcell
      gi_wp2_with fail
      rw [hy, Oper.uponIn_round]
      clear hy
      refine ⟨fun h => (by cases h), ?_⟩
      refine HRI.out.mono ?_
      rintro e W3 (⟨rfl, b', rfl, hj', he'⟩ | ⟨rfl, hx⟩)
      · have HN3 := Lib.hid (And.intro hj' he')
        clear hj' he'
        gi_wp2_with fail
        gi_roundg (n - (k + 1))
        case measure => rw [HR.out.1]; omega
        case rel => exact ⟨k + 1, rfl, rfl, by omega, HN3.out.1, HN3.out.2⟩
      · gi_wp2_with fail
        refine bodyPost_ret (results_none rfl _ _ _) rfl ?_
        exact ⟨⟨_, rfl⟩, .inr hx⟩
    · have hkn' : k = n := by omega
      subst hkn'
      have f1 : decide ((k : Int) < (k : Int)) = false := decide_eq_false (by omega)
      have f1' : decide (k < k) = false := decide_eq_false (by omega)
      gi_wp2_with fail
      go_end0
      exact ⟨⟨_, rfl⟩, .inl ⟨⟨k, rfl, HR.out.2.1⟩, HR.out.2.2⟩⟩
theorem own_low' {w : World} {B n size : Nat} {e : TypeId} {v : Value} {xs : List Value} (h : w.ownsRow B e size v n xs) : ∀ r, v.ownBlock = some r → B ≤ r := by
  intro r hr
  rcases h.2 with ⟨rfl, _⟩ | ⟨g, cap, cur, rfl, hb, _⟩
  · cases hr
  · cases hr; exact hb
theorem own_isCells {w : World} {B n size : Nat} {e : TypeId} {v : Value} {xs : List Value} (h : w.ownsRow B e size v n xs) {j : Nat} {o : Obj} (hj : v.ownBlock = some j) (ho : w.heap[j]? = some o) : o.isCells = true := by
  rcases h.2 with ⟨rfl, _⟩ | ⟨g, cap, cur, rfl, hb, hg, _⟩
  · cases hj
  · cases hj; rw [hg] at ho; cases ho; rfl
theorem heap_setCell_one {w : World} {b : Nat} {v u : Value} {T : TypeId} (h : w.heap[b]? = some (.cells #[v] T (0, 0))) : (w.setCell ⟨b, 0, none⟩ u).heap[b]? = some (.cells #[u] T (0, 0)) := by
  have hlt := (Array.getElem?_eq_some_iff.1 h).1
  have hg := (Array.getElem?_eq_some_iff.1 h).2
  show (w.heap.modify b _)[b]? = _
  rw [Array.getElem?_eq_getElem (by rw [Array.size_modify]; exact hlt), Array.getElem_modify_self, hg]
  rfl
/-- What AppendSeq has taken in so far: the box holds a row of its own. -/
structure AS (w : World) (L : List Int) (a : Option Addr) (c b : Nat) (k : Nat) (W : World) : Prop where
  box : ∃ v, W.heap[w.heap.size]? = some (.cells #[v] 34 (0, 0)) ∧ W.ownsRow (w.heap.size + 1) 3 1 v k (intCells (L.take k)) ∧ (v = .slice none 0 0 ↔ k = 0)
  grown : w.grownBy W none
  size : w.heap.size < W.heap.size
  le : k ≤ L.length
theorem as_own (w : World) (L : List Int) (a : Option Addr) (c b : Nat) (B : Nat) (hB : w.heap.size < B) : OwnFrom B (AS w L a c b) := by
  intro k W W' row h hg hr
  obtain ⟨⟨v, h1, h2, h3⟩, h4, h5, h6⟩ := h
  have hne : ∀ (j : Nat) (o : Obj), W.heap[j]? = some o → o.isCells = true → some j ≠ row := fun j o hj ho e => by
    obtain ⟨_, o', ho', hc⟩ := hr j e.symm
    rw [hj] at ho'; cases ho'; rw [ho] at hc; cases hc
  refine ⟨⟨v, (hg.block _ h5 (hne _ _ h1 rfl)).trans h1, h2.kept hg ?_, h3⟩, ?_, Nat.lt_of_lt_of_le h5 hg.size, h6⟩
  · rcases h2.2 with ⟨rfl, _⟩ | ⟨g, cap, cur, rfl, _, hb, _⟩
    · exact .inl rfl
    · exact .inr (fun e => hne g _ hb rfl e)
  · exact grown_own h4 hg (fun r e => by have := (hr r e).1; omega)
set_option maxHeartbeats 8000000 in
theorem seq_calls {L : List Int} {a : Option Addr} {c b : Nat} (hl : L.length ≤ 100000) (w : World) (hb : w.cell? ⟨b, 0, none⟩ = some (.slice a L.length c)) (h : IntsW w a c L) :
    Calls Tryz.prog 95 #[.slice none 0 0, .func (.func 75) #[] #[.pointer (some ⟨b, 0, none⟩)]] w fun e w' => ∃ v, e = .returned v ∧ w'.ownsRow (w.heap.size + 1) 3 1 v L.length (intCells L) ∧ w.grownBy w' none := by
  obtain ⟨i0, hi0, hz0, hz1, hz2⟩ := info_parts info3
  have HH := Lib.hid (And.intro hb (And.intro h hl))
  have HV := Lib.hid (fun W => values_iter hl (AS w L a c b) (fun k W hs => ⟨hs.grown.cell hb (by simp), h.grown hs.grown⟩) W)
  clear hb h
  refine callsIn_wide (n := 3) |>.1 ?_
  refine callsIn_of_wp_marks Tryz.func95 rfl trivial ?_ rfl
  simp only [Tryz.ntmps95, List.size_toArray, List.length_cons, List.length_nil, Nat.reduceAdd, Nat.reduceSub, Array.replicate_succ, Array.replicate_zero, List.push_toArray, List.append_toArray, List.nil_append, List.cons_append]
  gi_wp2_with fail
  obtain ⟨W0, hW0⟩ : ∃ z, w.alloc (.cells #[.slice none 0 0] 34) = z := ⟨_, rfl⟩
  have hs0 : W0.heap.size = w.heap.size + 1 := by rw [← hW0]; simp
  have hv0 : W0.heap[w.heap.size]? = some (.cells #[.slice none 0 0] 34 (0, 0)) := by rw [← hW0]; exact World.alloc_heap_new w _
  have hg0 : w.grownBy W0 none := by rw [← hW0]; exact World.grownBy_alloc w _ none
  rw [hW0]
  clear hW0
  refine rangeX (n := 3) (vals := inV) (gf := 75) (la := #[]) (lb := #[.pointer (some ⟨b, 0, none⟩)]) rfl (by omega) rfl trivial (enters_of Tryz.func75 (by kernel_rfl) rfl) (fun _ => rfl) (J := AS w L a c b) (A := fun k x W => AS w L a c b k W ∧ L[k]? = some x) (Z := fun k W => k = L.length ∧ AS w L a c b k W) (R := fun k _ k' => k' = k + 1) (b0 := 0)
    (fun W _ => HV.out W) (as_own w L a c b _ (by omega)) (fun s W W' row hs hg hr => ⟨as_own w L a c b _ (by omega) s.1 W W' row hs.1 hg hr, hs.2⟩) (fun s W W' row hs hg hr => ⟨hs.1, as_own w L a c b _ (by omega) s W W' row hs.2 hg hr⟩)
    (fun _ _ => False) (fun s W W' row hs hg hr => hs) ⟨⟨_, hv0, World.ownsRow_nil _ _ _ _, by simp⟩, hg0, by omega, Nat.zero_le _⟩ ?round ?done ?stop
  case stop => intro D id W hD hf; exact hf.elim
  case round =>
    intro l k x W hF
    simp only [inV]
    gi_wp2
    refine ⟨trivial, fun W2 hA2 => ?_⟩
    obtain ⟨⟨⟨v, hv, hrow, hnil⟩, hgr, hsz, hle⟩, hx⟩ := hA2
    obtain ⟨hc2, hf2⟩ : W2.cell? ⟨w.heap.size, 0, none⟩ = some v ∧ W2.frozen? ⟨w.heap.size, 0, none⟩ = false := ⟨by simp [World.cell?, hv], by simp [World.frozen?, hv]⟩
    have HB := Lib.hid (And.intro hv (And.intro hrow (And.intro hgr (And.intro hsz hx))))
    have hkL : k < L.length := (List.getElem?_eq_some_iff.1 hx).1
    have hx' := hx
    have hk' : (k : Nat) ≤ 100000 := by omega
    clear hF hv hrow hgr hx hnil
    obtain ⟨bs, hbs⟩ : ∃ z, w.heap.size = z := ⟨_, rfl⟩
    rw [hbs] at hc2 hf2 ⊢
    have HBS := Lib.hid hbs
    have hrow2 := HB.out.2.1
    clear hbs
    gi_wp2_with (gi_at_builtin; refine wpListIn_append_own _ rfl _ _ 34 rfl (w.heap.size + 1) 3 i0 (.int .i64 0) 1 8 Tryz.underlying34 hi0 hz0 hz1 hz2 rfl (by decide) _ _ _ rfl (hrow2.alloc _) ⟨W2.heap.size, 0, none⟩ 1 1 [.int .i64 x] rfl rfl (cell_one_new _ _ _) ?hq1 ?hq2 ?hq3 ?hq4 ?_)
    case hq1 => intro u hu; simp at hu; subst hu; rfl
    case hq2 => unfold maxLen; omega
    case hq3 => omega
    case hq4 => have := HB.out.2.2.2.1; simp; omega
    intro v' w3 hown' hg3 hnil3
    obtain ⟨rg, rc, rfl⟩ : ∃ rg rc, v' = .slice (some ⟨rg, 0, none⟩) (k + 1) rc := by
      rcases hown'.2 with ⟨_, h0⟩ | ⟨g, cap, cur, e, _⟩
      · omega
      · exact ⟨g, cap, e⟩
    have hlow := own_low' HB.out.2.1
    have hsl : w.heap.size < W2.heap.size := HB.out.2.2.2.1
    have hne : some w.heap.size ≠ v.ownBlock := fun e => by have := hlow _ e.symm; omega
    have hv3 : w3.heap[w.heap.size]? = some (.cells #[v] 34 (0, 0)) := (hg3.block _ (by simp; omega) hne).trans ((Below.heap_alloc _ _ _ hsl).trans HB.out.1)
    have hgw : w.grownBy w3 none := grown_own (HB.out.2.2.1.trans (World.grownBy_alloc _ _ _)) hg3 (fun r e => by have := hlow r e; omega)
    obtain ⟨hc3, hf3⟩ : w3.cell? ⟨w.heap.size, 0, none⟩ = some v ∧ w3.frozen? ⟨w.heap.size, 0, none⟩ = false := ⟨by simp [World.cell?, hv3], by simp [World.frozen?, hv3]⟩
    have hlow' := own_low' hown'
    have HE : Hid (postX (AS w L a c b) (fun k' => k' = k + 1) (fun _ _ => False) W2 .normal { tmps := #[], defers := [] } (w3.setCell ⟨w.heap.size, 0, none⟩ (.slice (some ⟨rg, 0, none⟩) (k + 1) rc))) := Lib.hid (by
      have hg4 : w3.grownBy (w3.setCell ⟨w.heap.size, 0, none⟩ (.slice (some ⟨rg, 0, none⟩) (k + 1) rc)) (some w.heap.size) := grown_set w3 _ 0 _
      have hne' : some w.heap.size ≠ (Value.slice (some ⟨rg, 0, none⟩) (k + 1) rc).ownBlock := fun e => by have := hlow' _ e.symm; omega
      refine ⟨?_, k + 1, rfl, ⟨⟨.slice (some ⟨rg, 0, none⟩) (k + 1) rc, ?_, ?_, by simp⟩, grown_own hgw hg4 (fun r e => by cases e; exact Nat.le_refl _), ?_, by omega⟩⟩
      · refine (KeepsOthers.alloc _ _).trans ((KeepsOthers.of_grownBy hg3 (fun j o e hj => ?_)).trans (KeepsOthers.setCell _ _ _))
        exact own_isCells (hrow2.alloc _) e hj
      · exact heap_setCell_one hv3
      · have := hown'.kept hg4 (.inr hne'.symm)
        rw [List.take_add_one, hx', Option.toList_some]
        simpa [intCells] using this
      · exact Nat.lt_of_lt_of_le hsl (Nat.le_trans (by simp) (Nat.le_trans hg3.size hg4.size)))
    rw [HBS.out] at hc3 hf3 HE
    clear hg3 hown' hgw hne hv3 hlow hlow' hrow2 hc2 hf2
    gi_wp2_with fail
    exact HE.out
  case done =>
    intro D k W hD hZ hK
    obtain ⟨rfl, ⟨v, hv, hrow, hnil⟩, hgr, hsz, hle⟩ := hZ
    have hc3 : W.cell? ⟨w.heap.size, 0, none⟩ = some v := by simp [World.cell?, hv]
    rw [List.take_length] at hrow
    have hlow := own_low' hrow
    have HE : Hid (W.ownsRow (w.heap.size + 1) 3 1 v L.length (intCells L) ∧ w.grownBy W none) := Lib.hid ⟨hrow, hgr⟩
    have HN : Hid (v.ownBlock = none ∨ v.ownBlock ≠ some D) := Lib.hid (by
      rcases hrow.2 with ⟨rfl, _⟩ | ⟨g, cap, cur, rfl, _, hg, _⟩
      · exact .inl rfl
      · refine .inr (fun e => ?_)
        cases e
        rw [hK] at hg; cases hg)
    have HK2 := Lib.hid hK
    have HD := Lib.hid hD
    clear hv hrow hnil hgr hK hlow
    gi_wp2_with fail
    refine ⟨by simp, .inl ⟨_, _, rfl, run_takeDeferred HK2.out, ?_⟩⟩
    have hp : W.grownBy (W.putObj D (.deferred none)) (some D) := grownBy_putObj' W D _
    refine ⟨_, results_tmp rfl _ _ _, v, rfl, HE.out.1.kept hp HN.out, grown_own HE.out.2 hp (fun r e => by cases e; have := HD.out; omega)⟩
end Go.Proofs.YtihaheinkpmnnaaGreat

namespace Go.Proofs.YtihaheinkpmnnaaGreat
set_option maxRecDepth 200000
def insU (x : Int) : List Int → List Int
  | [] => [x]
  | y :: l => if x < y then x :: y :: l else if x = y then y :: l else y :: insU x l
/-- The literals in increasing order, without repetitions. -/
def normL (L : List Int) : List Int := L.foldr insU []
theorem mem_insU {x z : Int} : ∀ {l : List Int}, z ∈ insU x l ↔ z = x ∨ z ∈ l
  | [] => by simp [insU]
  | y :: l => by
    unfold insU
    split
    · simp
    · split
      · subst_vars; simp
      · rw [List.mem_cons, mem_insU, List.mem_cons]
        exact ⟨fun h => by rcases h with h | h | h <;> simp [h], fun h => by rcases h with h | h | h <;> simp [h]⟩
theorem up_insU {x : Int} : ∀ {l : List Int}, l.Pairwise (· < ·) → (insU x l).Pairwise (· < ·)
  | [], _ => by simp [insU]
  | y :: l, h => by
    obtain ⟨h1, h2⟩ := List.pairwise_cons.1 h
    unfold insU
    split
    · refine List.pairwise_cons.2 ⟨fun z hz => ?_, h⟩
      rcases List.mem_cons.1 hz with rfl | hz
      · assumption
      · have := h1 z hz; omega
    · split
      · exact h
      · refine List.pairwise_cons.2 ⟨fun z hz => ?_, up_insU h2⟩
        rcases mem_insU.1 hz with rfl | hz
        · omega
        · exact h1 z hz
theorem mem_norm {z : Int} : ∀ {L : List Int}, z ∈ normL L ↔ z ∈ L
  | [] => Iff.rfl
  | x :: L => by
    show z ∈ insU x (normL L) ↔ _
    rw [mem_insU, mem_norm, List.mem_cons]
theorem up_norm : ∀ (L : List Int), (normL L).Pairwise (· < ·)
  | [] => List.Pairwise.nil
  | _ :: L => up_insU (up_norm L)
theorem up_same : ∀ {l m : List Int}, l.Pairwise (· < ·) → m.Pairwise (· < ·) → (∀ x, x ∈ l ↔ x ∈ m) → l = m
  | [], [], _, _, _ => rfl
  | [], y :: m, _, _, h => by have := (h y).2 (List.mem_cons_self ..); cases this
  | x :: l, [], _, _, h => by have := (h x).1 (List.mem_cons_self ..); cases this
  | x :: l, y :: m, hl, hm, h => by
    obtain ⟨l1, l2⟩ := List.pairwise_cons.1 hl
    obtain ⟨m1, m2⟩ := List.pairwise_cons.1 hm
    have hxy : x = y := by
      have h1 := (h x).1 (List.mem_cons_self ..)
      have h2 := (h y).2 (List.mem_cons_self ..)
      rcases List.mem_cons.1 h1 with e | h1
      · exact e
      · rcases List.mem_cons.1 h2 with e | h2
        · exact e.symm
        · have := m1 x h1; have := l1 y h2; omega
    subst hxy
    congr 1
    refine up_same l2 m2 fun z => ⟨fun hz => ?_, fun hz => ?_⟩
    · rcases List.mem_cons.1 ((h z).1 (List.mem_cons_of_mem _ hz)) with rfl | h3
      · have := l1 z hz; omega
      · exact h3
    · rcases List.mem_cons.1 ((h z).2 (List.mem_cons_of_mem _ hz)) with rfl | h3
      · have := m1 z hz; omega
      · exact h3
theorem norm_of {l L : List Int} (h : l.Pairwise (· < ·)) (hm : ∀ x, x ∈ l ↔ x ∈ L) : l = normL L := up_same h (up_norm L) fun x => (hm x).trans mem_norm.symm
theorem eqS_norm {L M : List Int} : eqS L M = true ↔ normL L = normL M := by
  rw [eqS_iff]
  constructor
  · intro h; exact up_same (up_norm L) (up_norm M) fun x => by rw [mem_norm, mem_norm]; exact h x
  · intro h x; rw [← mem_norm, h, mem_norm]
theorem eqS_dec (L M : List Int) : eqS L M = decide (normL L = normL M) := by
  rw [Bool.eq_iff_iff, eqS_norm, decide_eq_true_eq]
theorem norm_le : ∀ (L : List Int), (normL L).length ≤ L.length
  | [] => Nat.le_refl _
  | x :: L => by
    have : ∀ l : List Int, (insU x l).length ≤ l.length + 1 := by
      intro l
      induction l with
      | nil => exact Nat.le_refl _
      | cons y l ih =>
        unfold insU
        split
        · exact Nat.le_refl _
        · split
          · exact Nat.le_succ _
          · exact Nat.succ_le_succ ih
    have h2 := norm_le L
    have h3 := this (normL L)
    show (insU x (normL L)).length ≤ _
    rw [List.length_cons]; omega
/-- D's clauses are C's and the further ones E, as sets, in some order. -/
def SubE (E : List (List Int)) (C D : List (List Int)) : Prop := (D.map normL).Perm (C.map normL ++ E)
theorem SubE.snoc {E C D : List (List Int)} (h : SubE E C D) (L : List (List Int)) : SubE E (C ++ L) (D ++ L) := by
  unfold SubE at h ⊢
  rw [List.map_append, List.map_append, List.append_assoc]
  refine (h.append_right _).trans ?_
  rw [List.append_assoc]
  exact List.Perm.append_left _ List.perm_append_comm
end Go.Proofs.YtihaheinkpmnnaaGreat

/- What the function value of ranks gives, where no sort is left. -/
import Derived.Test.YtbddpjofhddilaaUP
import Derived.Shelf.Abstract
import Derived.TacticsInMore
import Derived.LoopNIn
import Derived.LoopIn
namespace Go.Proofs.Ytbddpjofhddilaa
open Go.RowKit Go.Shelf
attribute [local go_sem] Oper.semAt_some

/-- What the three boxes hold. -/
structure Cap (W : World) (zs : List Nat) (a : Option Addr) (c : Nat) (st : Int) (x : Nat) (ss : List Nat) (sa : Option Addr) (sc bc bp bs : Nat) : Prop where
  c0 : W.cell? ⟨bc, 0, none⟩ = some (.slice a zs.length c)
  c1 : W.cell? ⟨bc, 1, none⟩ = some (.int .i64 st)
  p : W.cell? ⟨bp, 0, none⟩ = some (.int .i64 (x : Int))
  s : W.cell? ⟨bs, 0, none⟩ = some (.slice sa ss.length sc)
  zn : Nums W a c zs
  sn : Nums W sa sc ss
def capsOf (a sa : Option Addr) (bc bp bs : Nat) : List Nat := bc :: bp :: bs :: ((a.map (·.block)).toList ++ (sa.map (·.block)).toList)
theorem Nums.saved {W W' : World} {a : Option Addr} {c : Nat} {zs : List Nat} (h : Nums W a c zs) (hs : ∀ b, a.map (·.block) = some b → W'.heap[b]? = W.heap[b]?) : Nums W' a c zs := by
  obtain ⟨hc, h | ⟨b, o, rfl, hb, hz⟩⟩ := h
  · exact ⟨hc, .inl h⟩
  · have e := hs b rfl
    refine ⟨hc, .inr ⟨b, o, rfl, ?_, fun j z hj => (World.cell?_of_block (a := ⟨b, o + j, none⟩) e).trans (hz j z hj)⟩⟩
    rw [Array.getElem?_eq_getElem hb] at e
    exact (Array.getElem?_eq_some_iff.1 e).1
theorem Cap.saved {W W' : World} {zs : List Nat} {a : Option Addr} {c : Nat} {st : Int} {x : Nat} {ss : List Nat} {sa : Option Addr} {sc bc bp bs : Nat} (h : Cap W zs a c st x ss sa sc bc bp bs)
    (hs : ∀ b ∈ capsOf a sa bc bp bs, W'.heap[b]? = W.heap[b]?) : Cap W' zs a c st x ss sa sc bc bp bs :=
  ⟨(World.cell?_of_block (a := ⟨bc, 0, none⟩) (hs bc (by simp [capsOf]))).trans h.c0, (World.cell?_of_block (a := ⟨bc, 1, none⟩) (hs bc (by simp [capsOf]))).trans h.c1,
    (World.cell?_of_block (a := ⟨bp, 0, none⟩) (hs bp (by simp [capsOf]))).trans h.p, (World.cell?_of_block (a := ⟨bs, 0, none⟩) (hs bs (by simp [capsOf]))).trans h.s,
    h.zn.saved fun b hb => hs b (by simp [capsOf, hb]), h.sn.saved fun b hb => hs b (by simp [capsOf, hb])⟩
theorem Cap.grown {W W' : World} {zs : List Nat} {a : Option Addr} {c : Nat} {st : Int} {x : Nat} {ss : List Nat} {sa : Option Addr} {sc bc bp bs : Nat} (h : Cap W zs a c st x ss sa sc bc bp bs)
    (hg : W.grownBy W' none) : Cap W' zs a c st x ss sa sc bc bp bs :=
  ⟨hg.cell h.c0 (by simp), hg.cell h.c1 (by simp), hg.cell h.p (by simp), hg.cell h.s (by simp), h.zn.grown hg, h.sn.grown hg⟩

abbrev ints (l : List Nat) : List Int := l.map Int.ofNat
set_option maxHeartbeats 1000000 in
theorem ranks_none (zs : List Nat) (a : Option Addr) (c : Nat) (st : Int) (x : Nat) (sa : Option Addr) (sc bc bp bs : Nat) (w : World) (h : Cap w zs a c st x [] sa sc bc bp bs) :
    Gives Fence.wide Try.prog 130 #[.pointer (some ⟨bs, 0, none⟩), .pointer (some ⟨bp, 0, none⟩), .pointer (some ⟨bc, 0, none⟩)] (capsOf a sa bc bp bs) (ints (digs zs x [])) w := by
  intro n l J Safe hcap hJ hY h0
  have hg := World.grownBy_alloc w (.cells #[.func (.yield l) #[] #[]] 98) none
  have hy0 := YieldAt.mono (hY [] (x : Int) _ (hJ.keep _ _ _ h0 (.of_none hg)) (by simp [digs])) (R' := fun e W' => e = .returned (.bool true) ∧ J (ints (digs zs x [])) W') fun e W' h => ⟨h.1, by simpa [digs] using h.2.1⟩
  obtain ⟨fn, tmps, assign, body, hy, hR⟩ := hy0
  have hx := (h.grown hg).s
  have hp := (h.grown hg).p
  clear h hcap hJ hY h0 hg
  refine callsIn_of_wp_marks Try.func130 rfl trivial ?_ rfl
  simp only [Try.ntmps130, List.size_toArray, List.length_cons, List.length_nil, Nat.reduceAdd, Nat.reduceSub, Array.replicate_succ, Array.replicate_zero, List.push_toArray, List.append_toArray, List.nil_append, List.cons_append]
  gi_wp2
  refine ⟨fun h => (by cases h), ?_⟩
  refine hR.mono ?_
  rintro e W' ⟨rfl, hJ'⟩
  gi_wp2
  exact ⟨_, results_none rfl _ _ _, ⟨_, rfl⟩, hJ'⟩
end Go.Proofs.Ytbddpjofhddilaa

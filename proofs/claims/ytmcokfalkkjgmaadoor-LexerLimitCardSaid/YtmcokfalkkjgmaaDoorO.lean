/- From the row's listed variable to the table in memory; from a law's walk to its row. -/
import Derived.Test.YtmcokfalkkjgmaaDoorRows
import Derived.Test.YtmcokfalkkjgmaaDoorM
import Derived.ProofKit
import Derived.LaidMore
import Derived.OpenShut
import Derived.Stop.Joined
namespace Go.Proofs.YtmcokfalkkjgmaaDoor
open Go.ChangeShapes Go.WideShapes Go.ChangeAt Go.WideMaps Go.WideElems Go.RowKit
open Go.ChangeMaps (open_string shut_string)

theorem own : ownKnob Tryd.prog.godebug = none := by kernel_rfl
theorem gSym : Tryd.prog.globalNamed "armature/lexer.symbols" = some 0 := by kernel_rfl
theorem tSym : (Tryd.prog.globals[0]?).map (·.type) = some 52 := by kernel_rfl

theorem syms_of {W : World} (h : laidMetH Tryd.prog [("armature/lexer.symbols", Rows.laid_armature_lexer_symbols)] W) : SymsAt W := by
  rw [MakeChecks.laidMetH_plain _ _ _ (by kernel_rfl)] at h
  obtain ⟨ps, ⟨g0, t0, cs0, f0, p0, q0, hg0, ht0, hv0, hd0, _, _⟩, _, _⟩ := h
  obtain rfl := Option.some.inj (gSym.symm.trans hg0)
  obtain rfl := Option.some.inj (tSym.symm.trans ht0)
  obtain ⟨xs, m, rfl, hx, hlen, hn, hel⟩ := DataW.trod_array Tryd.underlying52 hd0
  have c9 : Tryd.prog.cellsOf 9 = 1 := by kernel_rfl
  have c52 : Tryd.prog.cellsOf 52 = 29 := by kernel_rfl
  simp only [Rows.laid_armature_lexer_symbols, Prod.mk.injEq, DataW.agg.injEq] at hx
  have hxs : xs.map (·.1) = symBytes.map (fun l => (DataW.lit (.string l) : DataW Unit)) := hx.1.symm
  rw [c52] at hlen
  simp only [c9, Nat.mul_one] at hel
  have hcs : cs0.toList = symBytes.map (fun l => Value.string ⟨l.toArray⟩) := by
    apply List.ext_getElem
    · rw [hlen]; rfl
    · intro i h1 h2
      have hi : i < 29 := by omega
      have he := hel i hi
      have h3 : i < xs.length := by omega
      rw [List.getElem?_eq_getElem h3, List.drop_eq_getElem_cons h1, List.take_succ_cons, List.take_zero] at he
      obtain ⟨s, e1, e2, _⟩ := DataW.trod_string Tryd.underlying9 he
      have h4 : i < symBytes.length := hi
      have e3 : (xs.map (·.1))[i]? = (symBytes.map (fun l => (DataW.lit (.string l) : DataW Unit)))[i]? := by rw [hxs]
      rw [List.getElem?_map, List.getElem?_map, List.getElem?_eq_getElem h3, List.getElem?_eq_getElem h4, e2] at e3
      simp only [Option.map_some, Option.some.injEq, DataW.lit.injEq, Lit.string.injEq] at e3
      simp only [List.cons.injEq, and_true] at e1
      rw [e1, List.getElem_map, ← e3]
  unfold World.var? at hv0
  rw [gSym] at hv0
  simp only [Option.bind_some] at hv0
  split at hv0
  · rename_i c t fr hb
    cases hv0
    refine ⟨t, fr, ?_⟩
    rw [hb, show cs0 = symCells from by rw [← Array.toList_inj, hcs]; rfl]
  · cases hv0

theorem door_met (os : Os) (args : Array Value) : laidMetH Tryd.prog [("armature/lexer.symbols", Rows.laid_armature_lexer_symbols)] ((World.doorLaid Tryd.prog 14 os).forCall (fun _ _ => 0) ⟨#[], args, []⟩).memory :=
  laidMetH_of_parts3 (fuel := 8) (laidMet_of_run' 8 (by kernel_rfl) (by kernel_rfl)) (by kernel_rfl) (by kernel_rfl)

theorem below_of {w w' : World} (h : w.grownBy w' none) : Below w.heap.size w w' := ⟨h.os, h.tape, h.output, h.size, fun k hk => h.block k hk (by simp)⟩
theorem nat_u8 {x : Int} (h : (Lit.int .u8 x).wf = true) : ∃ y : Nat, x = (y : Int) ∧ y < 256 := by
  simp [Lit.wf, IntKind.min, IntKind.max, IntKind.bits, IntKind.signed] at h
  exact ⟨x.toNat, by omega, by omega⟩
theorem nat_u32 {x : Int} (h : (Lit.int .u32 x).wf = true) : ∃ y : Nat, x = (y : Int) ∧ y < 4294967296 := by
  simp [Lit.wf, IntKind.min, IntKind.max, IntKind.bits, IntKind.signed] at h
  exact ⟨x.toNat, by omega, by omega⟩
end Go.Proofs.YtmcokfalkkjgmaaDoor

/- The scanner's search for a symbol: the first of the table's 29 that fits. -/
import Derived.Test.YtmcokfalkkjgmaaDoorB
import Derived.WalkMore
namespace Go.Proofs.YtmcokfalkkjgmaaDoor
open Go.RowKit

def symBytes : List (List UInt8) := [[60, 61, 62], [124, 124], [43, 43], [45, 62], [38, 38], [61, 62], [33, 61], [60, 61], [40], [41], [123], [125], [91], [93], [58], [59], [44], [124], [46], [39], [126], [94], [42], [43], [45], [38], [35], [61], [60]]
def sym (j : Nat) : ByteArray := ⟨(symBytes.getD j []).toArray⟩
def symCells : Array Value := (symBytes.map fun l => Value.string ⟨l.toArray⟩).toArray

/-- The table lies in memory. -/
def SymsAt (w : World) : Prop := ∃ t fr, w.heap[0]? = some (.cells symCells t fr)

/-- The text y stands in s at k. -/
def Fits (y s : ByteArray) (k : Nat) : Prop := k + y.size ≤ s.size ∧ ∀ i, i < y.size → cur y i = cur s (k + i)

theorem ix0 (w : World) : (Instr.index 52 (.agg symCells) (.int .i64 0)).run Tryd.prog w = .ok (.string (sym 0)) w := by kernel_rfl
theorem ix1 (w : World) : (Instr.index 52 (.agg symCells) (.int .i64 1)).run Tryd.prog w = .ok (.string (sym 1)) w := by kernel_rfl
theorem ix2 (w : World) : (Instr.index 52 (.agg symCells) (.int .i64 2)).run Tryd.prog w = .ok (.string (sym 2)) w := by kernel_rfl
theorem ix3 (w : World) : (Instr.index 52 (.agg symCells) (.int .i64 3)).run Tryd.prog w = .ok (.string (sym 3)) w := by kernel_rfl
theorem ix4 (w : World) : (Instr.index 52 (.agg symCells) (.int .i64 4)).run Tryd.prog w = .ok (.string (sym 4)) w := by kernel_rfl
theorem ix5 (w : World) : (Instr.index 52 (.agg symCells) (.int .i64 5)).run Tryd.prog w = .ok (.string (sym 5)) w := by kernel_rfl
theorem ix6 (w : World) : (Instr.index 52 (.agg symCells) (.int .i64 6)).run Tryd.prog w = .ok (.string (sym 6)) w := by kernel_rfl
theorem ix7 (w : World) : (Instr.index 52 (.agg symCells) (.int .i64 7)).run Tryd.prog w = .ok (.string (sym 7)) w := by kernel_rfl
theorem ix8 (w : World) : (Instr.index 52 (.agg symCells) (.int .i64 8)).run Tryd.prog w = .ok (.string (sym 8)) w := by kernel_rfl
theorem ix9 (w : World) : (Instr.index 52 (.agg symCells) (.int .i64 9)).run Tryd.prog w = .ok (.string (sym 9)) w := by kernel_rfl
theorem ix10 (w : World) : (Instr.index 52 (.agg symCells) (.int .i64 10)).run Tryd.prog w = .ok (.string (sym 10)) w := by kernel_rfl
theorem ix11 (w : World) : (Instr.index 52 (.agg symCells) (.int .i64 11)).run Tryd.prog w = .ok (.string (sym 11)) w := by kernel_rfl
theorem ix12 (w : World) : (Instr.index 52 (.agg symCells) (.int .i64 12)).run Tryd.prog w = .ok (.string (sym 12)) w := by kernel_rfl
theorem ix13 (w : World) : (Instr.index 52 (.agg symCells) (.int .i64 13)).run Tryd.prog w = .ok (.string (sym 13)) w := by kernel_rfl
theorem ix14 (w : World) : (Instr.index 52 (.agg symCells) (.int .i64 14)).run Tryd.prog w = .ok (.string (sym 14)) w := by kernel_rfl
theorem ix15 (w : World) : (Instr.index 52 (.agg symCells) (.int .i64 15)).run Tryd.prog w = .ok (.string (sym 15)) w := by kernel_rfl
theorem ix16 (w : World) : (Instr.index 52 (.agg symCells) (.int .i64 16)).run Tryd.prog w = .ok (.string (sym 16)) w := by kernel_rfl
theorem ix17 (w : World) : (Instr.index 52 (.agg symCells) (.int .i64 17)).run Tryd.prog w = .ok (.string (sym 17)) w := by kernel_rfl
theorem ix18 (w : World) : (Instr.index 52 (.agg symCells) (.int .i64 18)).run Tryd.prog w = .ok (.string (sym 18)) w := by kernel_rfl
theorem ix19 (w : World) : (Instr.index 52 (.agg symCells) (.int .i64 19)).run Tryd.prog w = .ok (.string (sym 19)) w := by kernel_rfl
theorem ix20 (w : World) : (Instr.index 52 (.agg symCells) (.int .i64 20)).run Tryd.prog w = .ok (.string (sym 20)) w := by kernel_rfl
theorem ix21 (w : World) : (Instr.index 52 (.agg symCells) (.int .i64 21)).run Tryd.prog w = .ok (.string (sym 21)) w := by kernel_rfl
theorem ix22 (w : World) : (Instr.index 52 (.agg symCells) (.int .i64 22)).run Tryd.prog w = .ok (.string (sym 22)) w := by kernel_rfl
theorem ix23 (w : World) : (Instr.index 52 (.agg symCells) (.int .i64 23)).run Tryd.prog w = .ok (.string (sym 23)) w := by kernel_rfl
theorem ix24 (w : World) : (Instr.index 52 (.agg symCells) (.int .i64 24)).run Tryd.prog w = .ok (.string (sym 24)) w := by kernel_rfl
theorem ix25 (w : World) : (Instr.index 52 (.agg symCells) (.int .i64 25)).run Tryd.prog w = .ok (.string (sym 25)) w := by kernel_rfl
theorem ix26 (w : World) : (Instr.index 52 (.agg symCells) (.int .i64 26)).run Tryd.prog w = .ok (.string (sym 26)) w := by kernel_rfl
theorem ix27 (w : World) : (Instr.index 52 (.agg symCells) (.int .i64 27)).run Tryd.prog w = .ok (.string (sym 27)) w := by kernel_rfl
theorem ix28 (w : World) : (Instr.index 52 (.agg symCells) (.int .i64 28)).run Tryd.prog w = .ok (.string (sym 28)) w := by kernel_rfl
theorem index_sym : (j : Nat) → j < 29 → (w : World) → (Instr.index 52 (.agg symCells) (.int .i64 (j : Int))).run Tryd.prog w = .ok (.string (sym j)) w
  | 0, _, w => ix0 w
  | 1, _, w => ix1 w
  | 2, _, w => ix2 w
  | 3, _, w => ix3 w
  | 4, _, w => ix4 w
  | 5, _, w => ix5 w
  | 6, _, w => ix6 w
  | 7, _, w => ix7 w
  | 8, _, w => ix8 w
  | 9, _, w => ix9 w
  | 10, _, w => ix10 w
  | 11, _, w => ix11 w
  | 12, _, w => ix12 w
  | 13, _, w => ix13 w
  | 14, _, w => ix14 w
  | 15, _, w => ix15 w
  | 16, _, w => ix16 w
  | 17, _, w => ix17 w
  | 18, _, w => ix18 w
  | 19, _, w => ix19 w
  | 20, _, w => ix20 w
  | 21, _, w => ix21 w
  | 22, _, w => ix22 w
  | 23, _, w => ix23 w
  | 24, _, w => ix24 w
  | 25, _, w => ix25 w
  | 26, _, w => ix26 w
  | 27, _, w => ix27 w
  | 28, _, w => ix28 w
  | j + 29, h, _ => absurd h (by omega)

theorem sym_size (j : Nat) (hj : j < 29) : 0 < (sym j).size ∧ (sym j).size ≤ 3 := by
  have h : ∀ j : Fin 29, 0 < (sym j).size ∧ (sym j).size ≤ 3 := by decide
  exact h ⟨j, hj⟩

theorem cur_get {s : ByteArray} {k : Nat} (h : k < s.size) : cur s k = s[k].toNat := by simp [cur, h]
theorem ext_get {s : ByteArray} {k i : Nat} (h : i < (s.extract k s.size).size) (h' : k + i < s.size) : (s.extract k s.size)[i].toNat = s[k + i].toNat := by
  rw [ByteArray.getElem_extract]

def SymPost (w : World) (b : Nat) (s : ByteArray) (k : Nat) (e : Ending) (w' : World) : Prop :=
  w.grownBy w' (some b) ∧
  ((∃ j, j < 29 ∧ Fits (sym j) s k ∧ (∀ i, i < j → ¬ Fits (sym i) s k) ∧ e = .returned (.bool true) ∧ Scan w' b s (k + (sym j).size)) ∨
   ((∀ i, i < 29 → ¬ Fits (sym i) s k) ∧ e = .returned (.bool false) ∧ Scan w' b s k))

set_option maxHeartbeats 1000000 in
theorem symbol_calls (b k : Nat) (s : ByteArray) (w : World) (hs : s.size ≤ maxLen) (hk : k ≤ s.size) (h : Scan w b s k) (_hb : b ≠ 0) (hy : SymsAt w) :
    Calls Tryd.prog 30 #[.pointer (some ⟨b, 0, none⟩)] w (SymPost w b s k) := by
  have HS := Lib.hid hs
  obtain ⟨c0, c1, c2⟩ := h
  obtain ⟨t, fr, hg⟩ := hy
  unfold maxLen at hs
  have hki : (k : Int) ≤ (s.size : Int) := by omega
  have hk0 : (0 : Int) ≤ (k : Int) := by omega
  go_enter Tryd.func30, Tryd.ntmps30
  go_wp2
  go_step3
  go_wp2
  go_quiet (fail)
  go_wp2
  go_step3
  go_wp2_with (refine wpList_load_row rfl 52 _ rfl 0 rfl t symCells fr _ hg Tryd.underlying52 rfl (by kernel_rfl) ?_)
  clear hg
  go_loopg [17] 29 (fun g s17 wr => ∃ j : Nat, s17 = .int .i64 (j : Int) ∧ g = 29 - j ∧ j ≤ 29 ∧ (∀ i, i < j → ¬ Fits (sym i) s k) ∧ Scan wr b s k ∧ w.grownBy wr (some b))
  case atStart => exact ⟨0, rfl, rfl, by omega, fun i hi => absurd hi (by omega), ⟨c0, c1, c2⟩, grown_drewN _ _ _⟩
  case round =>
    obtain ⟨j, rfl, hgk, hj, hno, hsc, hgr⟩ := hrel
    have HG := Lib.hid hgk; clear hgk
    have HN := Lib.hid hno; clear hno
    have HR := Lib.hid hgr; clear hgr
    clear c0 c1 c2
    have HC := Lib.hid hsc
    obtain ⟨c0, c1, c2⟩ := hsc
    by_cases hlt : j < 29
    · have hix : ∀ W, (Instr.index 52 (.agg symCells) (.int .i64 (j : Int))).run Tryd.prog W = .ok (.string (sym j)) W := fun W => index_sym j hlt W
      have hsz := sym_size j hlt
      obtain ⟨y, hy⟩ : ∃ y, sym j = y := ⟨_, rfl⟩
      rw [hy] at hix hsz
      have HY := Lib.hid hy; clear hy
      have hltI : decide ((j : Int) < 29) = true := by simp; omega
      by_cases hfit : y.size ≤ s.size - k
      · have hfB : decide (s.size - k < y.size) = false := by simp; omega
        go_wp2
        go_loopg [27] y.size (fun g s27 wx => ∃ i : Nat, s27 = .int .i64 (i : Int) ∧ g = y.size - i ∧ i ≤ y.size ∧ (∀ i', i' < i → cur y i' = cur s (k + i')) ∧ Scan wx b s k ∧ w.grownBy wx (some b))
        case atStart => exact ⟨0, rfl, rfl, by omega, fun i hi => absurd hi (by omega), HC.out, HR.out⟩
        case round =>
          clear c0 c1 c2 HC HR
          obtain ⟨i, rfl, hgi, hi, heq, hsc, hgr⟩ := hrel
          have HGI := Lib.hid hgi; clear hgi
          have HE := Lib.hid heq; clear heq
          have HR := Lib.hid hgr; clear hgr
          have HC := Lib.hid hsc
          obtain ⟨c0, c1, c2⟩ := hsc
          by_cases hiy : i < y.size
          · have hiyI : decide ((i : Int) < (y.size : Int)) = true := by simp; omega
            have hi1 : (i : Int) < (y.size : Int) := by omega
            have hi2 : (i : Int) < ((s.size - k : Nat) : Int) := by omega
            have hi3 : i < (s.extract k s.size).size := by simp [ByteArray.size_extract]; omega
            go_wp2
            go_quiet (fail)
            go_wp2
            · rename_i hne
              go_roundg (29 - (j + 1))
              case measure => rw [HG.out]; omega
              case rel =>
                refine ⟨j + 1, rfl, rfl, by omega, ?_, HC.out.drewN _, HR.out.trans (grown_drewN _ _ _)⟩
                intro i' hi'
                by_cases e : i' = j
                · subst e; rw [HY.out]; intro hF
                  have := hF.2 i hiy
                  rw [cur_get hiy, cur_get (show k + i < s.size by omega), ← ext_get hi3 (show k + i < s.size by omega)] at this
                  rw [this] at hne
                  simp at hne
                · exact HN.out i' (by omega)
            · rename_i hne
              go_roundg (y.size - (i + 1))
              case measure => rw [HGI.out]; omega
              case rel =>
                refine ⟨i + 1, rfl, rfl, by omega, ?_, HC.out.drewN _, HR.out.trans (grown_drewN _ _ _)⟩
                intro i' hi'
                by_cases e : i' = i
                · subst e
                  rw [cur_get hiy, cur_get (show k + i' < s.size by omega), ← ext_get hi3 (show k + i' < s.size by omega)]
                  simp at hne; omega
                · exact HE.out i' (by omega)
          · obtain rfl : i = y.size := by omega
            have hw1 : (0 : Int) ≤ (k : Int) + (y.size : Int) := by omega
            have hw2 : (k : Int) + (y.size : Int) ≤ 9223372036854775807 := by omega
            go_wp2
            rw [Exit.noGoto_ret]
            go_ret
            refine ⟨HR.out.trans (grown_set _ _ _ _), .inl ⟨j, hlt, ?_, HN.out, rfl, ?_⟩⟩
            · rw [HY.out]; exact ⟨by omega, HE.out⟩
            · rw [HY.out]; exact HC.out.set _ _ (by omega)
      · have hfB : decide (s.size - k < y.size) = true := by simp; omega
        go_wp2
        go_roundg (29 - (j + 1))
        case measure => rw [HG.out]; omega
        case rel =>
          refine ⟨j + 1, rfl, rfl, by omega, ?_, HC.out, HR.out⟩
          intro i hi
          by_cases e : i = j
          · subst e; rw [HY.out]; intro hF; exact hfit (by have := hF.1; omega)
          · exact HN.out i (by omega)
    · obtain rfl : j = 29 := by omega
      go_wp2
      rw [Exit.noGoto_ret]
      go_ret
      exact ⟨HR.out, .inr ⟨HN.out, rfl, HC.out⟩⟩

def fitB (y s : ByteArray) (k : Nat) : Bool := decide (k + y.size ≤ s.size) && (List.range y.size).all fun i => cur y i == cur s (k + i)
theorem fitB_iff (y s : ByteArray) (k : Nat) : fitB y s k = true ↔ Fits y s k := by simp [fitB, Fits]
def symFrom (s : ByteArray) (k : Nat) : Nat → Nat → Option Nat
  | 0, _ => none
  | n + 1, j => if fitB (sym j) s k then some (k + (sym j).size) else symFrom s k n (j + 1)
/-- Where the symbol at k ends, if there is one. -/
def symEnd (s : ByteArray) (k : Nat) : Option Nat := symFrom s k 29 0

theorem symFrom_some {s : ByteArray} {k j : Nat} : ∀ n i, i ≤ j → j < i + n → Fits (sym j) s k → (∀ x, x < j → ¬ Fits (sym x) s k) → symFrom s k n i = some (k + (sym j).size)
  | 0, i, h1, h2, _, _ => by omega
  | n + 1, i, h1, h2, hf, hno => by
    by_cases e : i = j
    · subst e; simp [symFrom, (fitB_iff _ _ _).2 hf]
    · have : fitB (sym i) s k = false := by
        rw [Bool.eq_false_iff]; intro h; exact hno i (by omega) ((fitB_iff _ _ _).1 h)
      simp only [symFrom, this]
      exact symFrom_some n (i + 1) (by omega) (by omega) hf hno
theorem symFrom_none {s : ByteArray} {k : Nat} : ∀ n i, (∀ x, x < i + n → ¬ Fits (sym x) s k) → symFrom s k n i = none
  | 0, i, _ => rfl
  | n + 1, i, hno => by
    have : fitB (sym i) s k = false := by
      rw [Bool.eq_false_iff]; intro h; exact hno i (by omega) ((fitB_iff _ _ _).1 h)
    simp only [symFrom, this]
    exact symFrom_none n (i + 1) (fun x hx => hno x (by omega))

/-- What the search for a symbol answers. -/
theorem symbol_end (b k : Nat) (s : ByteArray) (w : World) (hs : s.size ≤ maxLen) (hk : k ≤ s.size) (h : Scan w b s k) (hb : b ≠ 0) (hy : SymsAt w) :
    Calls Tryd.prog 30 #[.pointer (some ⟨b, 0, none⟩)] w fun e w' => e = .returned (.bool (symEnd s k).isSome) ∧ Scan w' b s ((symEnd s k).getD k) ∧ w.grownBy w' (some b) := by
  refine (symbol_calls b k s w hs hk h hb hy).mono ?_
  rintro e w' ⟨hg, h⟩
  rcases h with ⟨j, hj, hf, hno, rfl, hsc⟩ | ⟨hno, rfl, hsc⟩
  · have : symEnd s k = some (k + (sym j).size) := symFrom_some 29 0 (by omega) (by omega) hf hno
    rw [this]; exact ⟨rfl, hsc, hg⟩
  · have : symEnd s k = none := symFrom_none 29 0 (fun x hx => hno x (by omega))
    rw [this]; exact ⟨rfl, hsc, hg⟩
end Go.Proofs.YtmcokfalkkjgmaaDoor

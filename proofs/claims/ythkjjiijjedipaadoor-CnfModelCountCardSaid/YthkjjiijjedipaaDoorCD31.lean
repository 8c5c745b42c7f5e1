/- Texts of the proof: T3. -/
import Derived.Test.YthkjjiijjedipaaDoorCD30
namespace Go.Proofs.YthkjjiijjedipaaDoor
open Go.RowKit Go.Maps
set_option maxRecDepth 100000

/-- The key of a clause's text. -/
def litS (t : List UInt8) : Lit := .string t
theorem litS_inj {x y : List UInt8} (h : litS x = litS y) : x = y := by unfold litS at h; injection h
theorem keyS_key {zs : List Int} (hl : zs.length ≤ 100000) (hb : ∀ x ∈ zs, Nine x) : keyOf Tryd.prog 9 (.string ⟨(keyP zs).toArray⟩) = some (litS (keyP zs)) := by
  have h1 := text_len (msort zs) (fun x hx => hb x (mem_msort.1 hx))
  rw [msort_len] at h1
  have h2 := WideMaps.keyOf_string_mk (P := Tryd.prog) (k := 9) Tryd.underlying9 (s := ⟨(keyP zs).toArray⟩) (by unfold maxLen; simp only [ByteArray.size, List.size_toArray]; unfold keyP; omega)
  rw [h2]
  rfl

set_option maxHeartbeats 4000000 in
theorem firstsS_calls (l : List (List Int)) (a : Option Addr) (c : Nat) (w : World) (h : ClsW w a c l) (hl : l.length ≤ 100000) (hl2 : ∀ z ∈ l, z.length ≤ 100000) (hb : ∀ z ∈ l, ∀ x ∈ z, Nine x) (htab : Tab w) :
    Calls Tryd.prog 38 #[.slice a l.length c, .func (.func 39) #[] #[]] w fun e w' => ∃ b m, e = .returned (.map (some b)) ∧ MapF 9 litS w' b m (ixOf (l.map keyP)) ∧ m ≤ l.length ∧ w.heap.size ≤ b ∧ w.grownBy w' none := by
  obtain ⟨n, hn⟩ : ∃ n, l.length = n := ⟨_, rfl⟩
  rw [hn] at hl ⊢
  have hgm := World.grownBy_alloc w (.map #[] 0) none
  have hmt := MapF.made 9 litS w
  obtain ⟨W1, hW1⟩ : ∃ z, w.alloc (.map #[] 0) = z := ⟨_, rfl⟩
  rw [hW1] at hgm hmt
  obtain ⟨b, hbm⟩ : ∃ z, w.heap.size = z := ⟨_, rfl⟩
  have hmk : (Instr.makeMap 67 none).run Tryd.prog w = .ok (.map (some b)) W1 := by rw [← hW1, ← hbm]; rfl
  rw [hbm] at hmt
  have HN := Lib.hid (And.intro hn (And.intro h (And.intro hl2 (And.intro hb htab))))
  have HG := Lib.hid (And.intro hgm (And.intro hmt hbm))
  clear hgm hmt hW1 hbm hn h hb hl2 htab
  go_enter Tryd.func38, Tryd.ntmps38
  go_wp2_with fail
  clear hmk
  go_loopg [13] n (fun g s wr => ∃ (i m : Nat), s = .int .i64 (i : Int) ∧ g = n - i ∧ i ≤ n ∧ MapF 9 litS wr b m (ixOf ((l.map keyP).take i)) ∧ m ≤ i ∧ w.grownBy wr none)
  case atStart => exact ⟨0, 0, rfl, rfl, Nat.zero_le _, by rw [List.take_zero]; exact HG.out.2.1, Nat.le_refl _, HG.out.1⟩
  case round =>
    obtain ⟨i, m, rfl, hgi, hi, hM, hmi, hgr⟩ := hrel
    obtain ⟨wo, hwo⟩ : ∃ z, z = wr := ⟨_, rfl⟩
    rw [← hwo] at hM hgr ⊢
    clear hwo
    have HI := Lib.hid (And.intro hgi (And.intro hM (And.intro hmi hgr))); clear hgi hmi
    by_cases hin : i < n
    · have hinB : decide (i < n) = true := by simpa using hin
      have hinI : (i : Int) < (n : Int) := by omega
      obtain ⟨x, hx⟩ : ∃ x, l[i]? = some x := ⟨_, List.getElem?_eq_getElem (by rw [HN.out.1]; exact hin)⟩
      obtain ⟨rb, ro, ra, rc, rfl, c0, hir⟩ := (HN.out.2.1.grown hgr).at hx
      have hxl := HN.out.2.2.1 x (List.mem_of_getElem? hx)
      have hxb := HN.out.2.2.2.1 x (List.mem_of_getElem? hx)
      have HKEY := Lib.hid (keyS_key hxl hxb)
      have HKC : Hid (∀ U, wo.grownBy U none → Calls Tryd.prog 39 #[.slice ra x.length rc] U fun e w' => e = .returned (.string ⟨(keyP x).toArray⟩) ∧ U.grownBy w' none) := Lib.hid (fun U hU => key_calls x ra rc U (hir.grown hU) hxl hxb (HN.out.2.2.2.2.grown (World.grownBy.trans hgr hU)))
      have HX : Hid ((l.map keyP)[i]? = some (keyP x)) := Lib.hid (by rw [List.getElem?_map, hx]; rfl)
      obtain ⟨p, hp⟩ : ∃ p, x.length = p := ⟨_, rfl⟩
      rw [hp] at c0 HKC
      obtain ⟨kx, hkx⟩ : ∃ z, keyP x = z := ⟨_, rfl⟩
      rw [hkx] at HKEY HKC HX
      obtain ⟨S, hS⟩ : ∃ S : ByteArray, (⟨kx.toArray⟩ : ByteArray) = S := ⟨_, rfl⟩
      rw [hS] at HKEY HKC
      clear hx hM hgr hxb hxl hir hp hkx hS
      go_wp2_with fail
      refine (HKC.out wo (grown_refl _ _)).mono ?_
      rintro e w3 ⟨rfl, hg3⟩
      have hM3 := HI.out.2.1.grown hg3
      have HM3 := Lib.hid (And.intro hM3 (And.intro hg3 (World.grownBy.trans HI.out.2.2.2 hg3)))
      obtain ⟨cv, hlk, _⟩ := hM3.look (string_keyed Tryd.underlying9) Tryd.underlying67 HKEY.out
      obtain ⟨B, hB⟩ : ∃ B, (ixOf ((l.map keyP).take i) kx).isSome = B := ⟨_, rfl⟩
      rw [hB] at hlk
      have HB := Lib.hid hB; clear hB hM3 hg3 c0
      cases B with
      | true =>
        have HT := Lib.hid (ix_take_yes HX.out HB.out)
        go_wp2_with fail
        go_roundg (n - (i + 1))
        case measure => rw [HI.out.1]; omega
        case rel => exact ⟨i + 1, m, rfl, rfl, by omega, by rw [HT.out]; exact HM3.out.1, by have := HI.out.2.2.1; omega, HM3.out.2.2⟩
      | false =>
        go_wp2_with fail
        clear hlk
        refine (HKC.out w3 HM3.out.2.1).mono ?_
        rintro e w4 ⟨rfl, hg4⟩
        obtain ⟨hG1, hG2⟩ := ix_take_no HX.out HB.out
        obtain ⟨w7, hst, hM7, hg7⟩ := (HM3.out.1.grown hg4).store (string_keyed Tryd.underlying9) Tryd.underlying67 (by have := HI.out.2.2.1; omega) HKEY.out (i := i) (by omega) (fun _ _ => litS_inj) hG1 hG2
        have H7 : Hid (MapF 9 litS w7 b (m + 1) (ixOf ((l.map keyP).take (i + 1))) ∧ w.grownBy w7 none) := Lib.hid ⟨hM7, grown_own (World.grownBy.trans HM3.out.2.2 hg4) hg7 (fun k e => by cases e; exact Nat.le_of_eq HG.out.2.2)⟩
        clear hM7 hg7 hG1 hG2 hg4
        go_wp2_with fail
        go_roundg (n - (i + 1))
        case measure => rw [HI.out.1]; omega
        case rel => exact ⟨i + 1, m + 1, rfl, rfl, by omega, H7.out.1, by have := HI.out.2.2.1; omega, H7.out.2⟩
    · have hie : i = n := by omega
      subst hie
      have hinB : decide (i < i) = false := by simp
      have HE : Hid ((l.map keyP).take i = l.map keyP) := Lib.hid (List.take_of_length_le (by rw [List.length_map, HN.out.1]; exact Nat.le_refl _))
      clear hM hgr
      go_wp2_with fail
      go_ret
      exact ⟨b, m, rfl, by have := HI.out.2.1; rw [HE.out] at this; exact this, HI.out.2.2.1, Nat.le_of_eq HG.out.2.2, HI.out.2.2.2⟩
end Go.Proofs.YthkjjiijjedipaaDoor

/- The law LexerWords, walked. -/
import Derived.Test.YtmcokfalkkjgmaaDoorAd
namespace Go.Proofs.YtmcokfalkkjgmaaDoor
open Go.RowKit

set_option maxRecDepth 100000 in
set_option maxHeartbeats 2000000 in
theorem words_calls (first n : Nat) (ra : Option Addr) (rn rc : Nat) (zs : List Nat) (w : World) (hf : first < 256) (hn : n < 4294967296)
    (hz : zs.length = rn) (hzb : ∀ z ∈ zs, z < 256) (_hrl : (rn : Int) ≤ 9223372036854775807) (hr : ∀ j z : Nat, zs[j]? = some z → ∃ b o, ra = some ⟨b, o, none⟩ ∧ w.cell? ⟨b, o + j, none⟩ = some (.int .u8 (z : Int))) (hy : SymsAt w) :
    Calls Tryd.prog 9 #[.int .u8 (first : Int), .slice ra rn rc, .int .u32 (n : Int)] w fun e w' => e = .returned (.bool true) ∧ w.grownBy w' none := by
  have HR := Lib.hid (And.intro hz (And.intro hzb hr)); clear hz hzb hr
  have hc1 : ∀ W : World, (convert 32 9 (.slice (some ⟨W.heap.size, 0, none⟩) 1 1)).run Tryd.prog (W.alloc (.cells #[.int .u8 (97 + (first : Int) % 26)] 5)) = .ok (.string (chr (97 + first % 26))) (W.alloc (.cells #[.int .u8 (97 + (first : Int) % 26)] 5)) :=
    fun W => chr_conv (by omega) W _ (by omega)
  go_enter Tryd.func9, Tryd.ntmps9
  go_wp2_with fail
  refine (head_calls w hy).mono ?_
  rintro e w1 ⟨rfl, g1⟩
  have HY := Lib.hid (hy.grown0 g1); clear hy
  have HG := Lib.hid g1; clear g1
  go_wp2_with fail
  have hg0 : w1.grownBy (w1.alloc (.cells #[.int .u8 (97 + (first : Int) % 26)] 5)) none := World.grownBy_alloc _ _ _
  obtain ⟨W0, hW0⟩ : ∃ W0, w1.alloc (.cells #[.int .u8 (97 + (first : Int) % 26)] 5) = W0 := ⟨_, rfl⟩
  rw [hW0] at hg0 ⊢
  clear hW0 hc1
  have HG0 := Lib.hid (HG.out.trans hg0)
  have HY0 := Lib.hid (HY.out.grown0 hg0)
  have hr0 : ∀ j z : Nat, zs[j]? = some z → ∃ b o, ra = some ⟨b, o, none⟩ ∧ W0.cell? ⟨b, o + j, none⟩ = some (.int .u8 (z : Int)) := by
    intro j z hj
    obtain ⟨b, o, h1, h2⟩ := HR.out.2.2 j z hj
    exact ⟨b, o, h1, (HG0.out).cell h2 (by simp)⟩
  have HR0 := Lib.hid hr0; clear hr0 hg0
  have hwy := wordy_chr (c := 97 + first % 26) (by omega) (by omega)
  have hws : (chr (97 + first % 26)).size = 1 := rfl
  obtain ⟨x0, hx0⟩ : ∃ x0, chr (97 + first % 26) = x0 := ⟨_, rfl⟩
  rw [hx0] at hwy hws ⊢
  clear hx0
  have HW0 := Lib.hid (And.intro hwy hws); clear hwy hws
  go_loopg [9, 10] 41 (fun g s9 s10 wr => W0 = wr ∧ ∃ (i : Nat) (x : ByteArray), s10 = .int .i64 (i : Int) ∧ s9 = .string x ∧ g = 41 - i ∧ i ≤ 40 ∧ x.size = i + 1 ∧ Wordy x)
  case atStart => exact ⟨rfl, 0, x0, rfl, rfl, rfl, by omega, HW0.out.2, HW0.out.1⟩
  case round =>
    obtain ⟨rfl, i, x, rfl, rfl, hg, hi, hxs, hx⟩ := hrel
    have HGK := Lib.hid hg; clear hg
    have HX := Lib.hid hx; clear hx
    have HXS := Lib.hid hxs
    have hx1 : (x.size : Int) ≤ 41 := by omega
    clear hxs
    by_cases hgo : i < rn ∧ i < 40
    · obtain ⟨h1, h2⟩ := hgo
      have h1I : decide ((i : Int) < (rn : Int)) = true := by simp; omega
      have h1J : (i : Int) < (rn : Int) := by omega
      have h2I : decide ((i : Int) < 40) = true := by simp; omega
      have hzl := HR.out.1
      obtain ⟨z, hz⟩ : ∃ z, zs[i]? = some z := ⟨_, List.getElem?_eq_getElem (by omega)⟩
      have hzb := HR.out.2.1 z (List.mem_of_getElem? hz)
      obtain ⟨b, o, rfl, hcell⟩ := HR0.out i z hz
      have hk : (z : Int) % 23 = ((z % 23 : Nat) : Int) := by omega
      have hk2 : z % 23 < 23 := Nat.mod_lt _ (by omega)
      obtain ⟨k, hke⟩ : ∃ k, z % 23 = k := ⟨_, rfl⟩
      rw [hke] at hk hk2
      have hcut := setS_cut hk2
      unfold setS at hcut
      obtain ⟨y, hy⟩ : ∃ y, (⟨#[97, 98, 99, 120, 121, 122, 65, 66, 67, 88, 89, 90, 48, 49, 50, 51, 52, 53, 54, 55, 56, 57, 95]⟩ : ByteArray).extract k (k + 1) = y := ⟨_, rfl⟩
      rw [hy] at hcut
      have HCUT := Lib.hid hcut
      have hy1 : (y.size : Int) ≤ 1 := by omega
      have hkI : (k : Int) + 1 ≤ 23 := by omega
      have hkto : ((k : Int) + 1).toNat = k + 1 := by omega
      clear hcut hke hz hzl
      go_wp2
      go_roundg (41 - (i + 1))
      case measure => rw [HGK.out]; omega
      case rel => exact ⟨rfl, i + 1, x ++ y, rfl, rfl, rfl, by omega, by rw [size_app, HXS.out, HCUT.out.1], wordy_snoc HX.out HCUT.out.1 HCUT.out.2⟩
    · have hcase : (decide (i < rn) = false) ∨ (decide (i < rn) = true ∧ decide ((i : Int) < 40) = false) := by
        by_cases h1 : i < rn
        · exact .inr ⟨by simp; omega, by simp; omega⟩
        · exact .inl (by simp; omega)
      have hmI : ((n % 1000000000 : Nat) : Int) = (n : Int) % 1000000000 := by omega
      have HMI := Lib.hid hmI; clear hmI
      clear hgo
      rcases hcase with hA | ⟨hA, hB⟩
      all_goals
        go_wp2_with fail
        go_loopg [12, 13] (n % 1000000000 + 1) (fun g s12 s13 wr => W0.grownBy wr none ∧ ∃ (d : ByteArray) (m : Nat), s12 = .string d ∧ s13 = .int .u32 (m : Int) ∧ g = m + (1 - d.size) ∧ Part d m)
        case atStart => exact ⟨grown_refl _ _, ⟨#[]⟩, n % 1000000000, rfl, by rw [HMI.out], rfl, ⟨fun i hi => absurd hi (Nat.not_lt_zero _), Nat.zero_le _, by show _ < 10 ^ 9; omega, fun _ h => absurd h (Nat.not_lt_zero _)⟩⟩
        case round =>
          obtain ⟨hgr, d, m, rfl, rfl, hg, hp⟩ := hrel
          have HG2 := Lib.hid hg; clear hg
          have HGR := Lib.hid hgr; clear hgr
          have hds := hp.small
          have hroom := hp.room
          have hm9 : m < 1000000000 := by
            have : 10 ^ (9 - d.size) ≤ 10 ^ 9 := Nat.pow_le_pow_right (by omega) (by omega)
            omega
          have HP := Lib.hid hp; clear hp hroom
          have hd1 : (d.size : Int) ≤ 9 := by omega
          clear hds
          by_cases hm0 : m = 0
          · subst hm0
            by_cases hd0 : d.size = 0
            · have hc2 : ∀ W : World, (convert 32 9 (.slice (some ⟨W.heap.size, 0, none⟩) 1 1)).run Tryd.prog (W.alloc (.cells #[.int .u8 48] 5)) = .ok (.string (chr 48)) (W.alloc (.cells #[.int .u8 48] 5)) :=
                fun W => chr_conv (by omega) W _ rfl
              have hcs : ((chr 48).size : Int) ≤ 1 := Int.le_refl 1
              have hD : d.toList.isEmpty = true := by
                rw [ByteArray.toList_eq, List.isEmpty_iff]
                have : d.data = #[] := Array.eq_empty_of_size_eq_zero hd0
                rw [this]
              have HD0 := Lib.hid hd0; clear hd0
              go_wp2
              go_roundg 0
              case measure => rw [HG2.out, HD0.out]; omega
              case rel => exact ⟨HGR.out.trans (World.grownBy_alloc _ _ _), chr 48 ++ d, 0, rfl, rfl, by rw [size_app]; have : (chr 48).size = 1 := rfl; omega, part_step HP.out (.inr HD0.out)⟩
            · have hD : d.toList.isEmpty = false := by
                rw [ByteArray.toList_eq]
                cases hd : d.data.toList.isEmpty
                · rfl
                · have : d.data.toList.length = 0 := by rw [List.isEmpty_iff.1 hd]; rfl
                  have : d.size = 0 := this
                  omega
              have hd0' : 0 < d.size := by omega
              have HDG : Hid (Digity d ∧ d.size ≤ 9 ∧ (d.size = 1 ∨ cur d 0 ≠ 48)) := ⟨⟨hd0', HP.out.all⟩, HP.out.small, HP.out.lead rfl hd0'⟩
              have hd0I : (1 : Int) ≤ (d.size : Int) := by omega
              clear hd0' hd0
              go_wp2_with fail
              refine (lex_calls x wr (by unfold maxLen; omega) (HY0.out.grown0 HGR.out)).mono ?_
              rintro e w3 h3
              have G3 := Lib.hid ((HG0.out.trans HGR.out).trans h3.1)
              have HY3 := Lib.hid ((HY0.out.grown0 HGR.out).grown0 h3.1)
              by_cases h16 : x.size ≤ 16
              · have hlx : lex x = .ok [⟨1, 0, x.size⟩] := by rw [wordy_lex HX.out, if_pos h16]
                obtain ⟨g, cap, rfl, hrow, _⟩ := lex_ok_row h3 (by omega) _ hlx 1 rfl (by omega)
                have hx16 : decide ((x.size : Int) ≤ 16) = true := by simp; omega
                have HROW := Lib.hid hrow
                clear h3 hlx hrow h16
                go_wp2_with fail
                refine (lex_calls d w3 (by unfold maxLen; omega) HY3.out).mono ?_
                rintro e w4 h4
                obtain ⟨g', cap', rfl, hrow', g4⟩ := lex_ok_row h4 (by omega) _ (digity_lex HDG.out.1 HDG.out.2.1 HDG.out.2.2) 1 rfl (by omega)
                clear h4
                have HROW4 := Lib.hid (HROW.out.grown g4)
                have HROW' := Lib.hid hrow'; clear hrow'
                have HG4 := Lib.hid (G3.out.trans g4)
                have HY4 := Lib.hid (HY3.out.grown0 g4)
                clear g4
                go_wp2_with fail
                obtain ⟨u1, hu1⟩ : ∃ u1, (⟨#[48]⟩ : ByteArray) ++ d = u1 := ⟨_, rfl⟩
                have hp1 := padded HDG.out.1
                have hs1 : u1.size ≤ 10 := by rw [← hu1, size_app]; have : (⟨#[48]⟩ : ByteArray).size = 1 := rfl; omega
                have hl1 : lex u1 = .error 0 := by rw [← hu1]; exact padded_lex hp1.1 (by rw [size_app]; have : (⟨#[48]⟩ : ByteArray).size = 1 := rfl; have := HDG.out.1.pos; omega) hp1.2
                have HL1 := Lib.hid hl1
                rw [hu1]
                clear hp1 hl1 hu1
                refine (lex_calls u1 w4 (by unfold maxLen; omega) HY4.out).mono ?_
                rintro e w5 h5
                obtain ⟨rfl, g5⟩ := lex_err (by omega) HL1.out h5
                clear h5
                have HROW5 := Lib.hid (HROW4.out.grown g5)
                have HROW5' := Lib.hid (HROW'.out.grown g5)
                have HG5 := Lib.hid (HG4.out.trans g5)
                have HY5 := Lib.hid (HY4.out.grown0 g5)
                clear g5
                go_wp2_with fail
                obtain ⟨u2, hu2⟩ : ∃ u2, d ++ x = u2 := ⟨_, rfl⟩
                have hs2 : u2.size ≤ 60 := by rw [← hu2, size_app]; omega
                have hl2 : lex u2 = .error 0 := by rw [← hu2]; exact mixed_lex HDG.out.1 HX.out
                have HL2 := Lib.hid hl2
                rw [hu2]
                clear hl2 hu2
                refine (lex_calls u2 w5 (by unfold maxLen; omega) HY5.out).mono ?_
                rintro e w6 h6
                obtain ⟨rfl, g6⟩ := lex_err (by omega) HL2.out h6
                clear h6
                have r1 := HROW5.out.grown g6
                have r2 := HROW5'.out.grown g6
                have HG6 := Lib.hid (HG5.out.trans g6)
                clear g6
                have a0 : w6.cell? ⟨g, 0, none⟩ = some (.int .i64 1) := r1.cells 0 _ rfl
                have a1 : w6.cell? ⟨g, 1, none⟩ = some (.string x) := by
                  have := r1.cells 1 _ rfl
                  rw [this]; simp only [Tok.text]; rw [ByteArray.extract_zero_size]
                have a2 : w6.cell? ⟨g, 2, none⟩ = some (.int .i64 0) := r1.cells 2 _ rfl
                have b0 : w6.cell? ⟨g', 0, none⟩ = some (.int .i64 2) := r2.cells 0 _ rfl
                have b1 : w6.cell? ⟨g', 1, none⟩ = some (.string d) := by
                  have := r2.cells 1 _ rfl
                  rw [this]; simp only [Tok.text]; rw [ByteArray.extract_zero_size]
                have b2 : w6.cell? ⟨g', 2, none⟩ = some (.int .i64 0) := r2.cells 2 _ rfl
                clear r1 r2
                go_wp2
                go_ret
                exact ⟨rfl, HG6.out⟩
              · have hlx : lex x = .error 0 := by rw [wordy_lex HX.out, if_neg h16]
                obtain ⟨rfl, _⟩ := lex_err (by omega) hlx h3
                have hx16 : decide ((x.size : Int) ≤ 16) = false := by simp; omega
                clear h3 hlx h16
                go_wp2_with fail
                refine (lex_calls d w3 (by unfold maxLen; omega) HY3.out).mono ?_
                rintro e w4 h4
                obtain ⟨g', cap', rfl, hrow', g4⟩ := lex_ok_row h4 (by omega) _ (digity_lex HDG.out.1 HDG.out.2.1 HDG.out.2.2) 1 rfl (by omega)
                clear h4
                have HROW' := Lib.hid hrow'; clear hrow'
                have HG4 := Lib.hid (G3.out.trans g4)
                have HY4 := Lib.hid (HY3.out.grown0 g4)
                clear g4
                go_wp2_with fail
                obtain ⟨u1, hu1⟩ : ∃ u1, (⟨#[48]⟩ : ByteArray) ++ d = u1 := ⟨_, rfl⟩
                have hp1 := padded HDG.out.1
                have hs1 : u1.size ≤ 10 := by rw [← hu1, size_app]; have : (⟨#[48]⟩ : ByteArray).size = 1 := rfl; omega
                have hl1 : lex u1 = .error 0 := by rw [← hu1]; exact padded_lex hp1.1 (by rw [size_app]; have : (⟨#[48]⟩ : ByteArray).size = 1 := rfl; have := HDG.out.1.pos; omega) hp1.2
                have HL1 := Lib.hid hl1
                rw [hu1]
                clear hp1 hl1 hu1
                refine (lex_calls u1 w4 (by unfold maxLen; omega) HY4.out).mono ?_
                rintro e w5 h5
                obtain ⟨rfl, g5⟩ := lex_err (by omega) HL1.out h5
                clear h5
                have HROW5' := Lib.hid (HROW'.out.grown g5)
                have HG5 := Lib.hid (HG4.out.trans g5)
                have HY5 := Lib.hid (HY4.out.grown0 g5)
                clear g5
                go_wp2_with fail
                obtain ⟨u2, hu2⟩ : ∃ u2, d ++ x = u2 := ⟨_, rfl⟩
                have hs2 : u2.size ≤ 60 := by rw [← hu2, size_app]; omega
                have hl2 : lex u2 = .error 0 := by rw [← hu2]; exact mixed_lex HDG.out.1 HX.out
                have HL2 := Lib.hid hl2
                rw [hu2]
                clear hl2 hu2
                refine (lex_calls u2 w5 (by unfold maxLen; omega) HY5.out).mono ?_
                rintro e w6 h6
                obtain ⟨rfl, g6⟩ := lex_err (by omega) HL2.out h6
                clear h6
                have r2 := HROW5'.out.grown g6
                have HG6 := Lib.hid (HG5.out.trans g6)
                clear g6
                have b0 : w6.cell? ⟨g', 0, none⟩ = some (.int .i64 2) := r2.cells 0 _ rfl
                have b1 : w6.cell? ⟨g', 1, none⟩ = some (.string d) := by
                  have := r2.cells 1 _ rfl
                  rw [this]; simp only [Tok.text]; rw [ByteArray.extract_zero_size]
                have b2 : w6.cell? ⟨g', 2, none⟩ = some (.int .i64 0) := r2.cells 2 _ rfl
                clear r2
                go_wp2
                go_ret
                exact ⟨rfl, HG6.out⟩
          · have hc2 : ∀ W : World, (convert 32 9 (.slice (some ⟨W.heap.size, 0, none⟩) 1 1)).run Tryd.prog (W.alloc (.cells #[.int .u8 (48 + (m : Int) % 10)] 5)) = .ok (.string (chr (48 + m % 10))) (W.alloc (.cells #[.int .u8 (48 + (m : Int) % 10)] 5)) :=
              fun W => chr_conv (by omega) W _ (by omega)
            have hcs : ((chr (48 + m % 10)).size : Int) ≤ 1 := Int.le_refl 1
            have hdiv : ((m / 10 : Nat) : Int) = (m : Int) / 10 := by omega
            have HDIV := Lib.hid hdiv; clear hdiv
            go_wp2
            go_roundg (m / 10)
            case measure => rw [HG2.out]; omega
            case rel => exact ⟨HGR.out.trans (World.grownBy_alloc _ _ _), chr (48 + m % 10) ++ d, m / 10, rfl, by rw [HDIV.out], by rw [size_app]; have : (chr (48 + m % 10)).size = 1 := rfl; omega, part_step HP.out (.inl (by omega))⟩
end Go.Proofs.YtmcokfalkkjgmaaDoor

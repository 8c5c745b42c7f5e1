/- Texts of the proof: M6 M7. -/
import Derived.Test.YthkjjiijjedipaaDoorCA12
import Derived.Test.YthkjjiijjedipaaDoorCA02
import Derived.Test.YthkjjiijjedipaaDoorCA05
import Derived.Laws.CopyOwn
namespace Go.Proofs.YthkjjiijjedipaaDoor
open Go.RowKit

set_option maxRecDepth 100000 in
set_option maxHeartbeats 1000000 in
theorem cloneBools_calls (zs : List Bool) (ad : Addr) (c : Nat) (w : World) (h : BoolsW w (some ad) c zs) (hl : zs.length ≤ 100000) :
    Calls Tryd.prog 32 #[.slice (some ad) zs.length c] w fun e w' => ∃ a' c', e = .returned (.slice a' zs.length c') ∧ Span w.heap.size w'.heap.size w' (fun W => BoolsW W a' c' zs) ∧ w.grownBy w' none := by
  obtain ⟨n, hn⟩ : ∃ n, zs.length = n := ⟨_, rfl⟩
  rw [hn] at hl ⊢
  have HN := Lib.hid hn; clear hn
  obtain ⟨i0, hi0, hz0, hz1, hz2⟩ := info_parts info4
  have HC := Lib.hid h.2; have hc := h.1; clear h
  rw [HN.out] at hc
  have q28 : ∀ (w : World) (a : Option Addr) (n c n' c' : Nat), (binOp .eql 23 (.slice a n c) (.slice none n' c')).run Tryd.prog w = .ok (.bool a.isNone) w := fun w a n c n' c' => Lib.run_eql_slice_nil w _ _ a n c n' c' Tryd.underlying23
  go_enter Tryd.func32, Tryd.ntmps32
  go_wp2_with (at_builtin; refine wpList_append_own _ rfl _ _ 23 rfl w.heap.size 4 i0 (.bool false) 1 1 Tryd.underlying23 hi0 hz0 hz1 hz2 rfl (by decide) _ _ _ rfl (World.ownsRow_made w #[] 0 (Nat.le_refl _) (Nat.zero_le _) rfl) ad n c (boolCells zs) rfl ?qc1 ?qc2 ?qc3 ?qc4 ?qc5 ?qc6 ?_)
  case qc1 => rw [boolCells, List.length_map, HN.out]; omega
  case qc2 =>
    intro j u hj
    rw [boolCells, List.getElem?_map] at hj
    cases hq : zs[j]? with
    | none => rw [hq] at hj; simp at hj
    | some z =>
      rw [hq] at hj
      simp only [Option.map_some, Option.some.injEq] at hj
      rcases HC.out with h0 | ⟨b, o, e, hz⟩
      · rw [h0] at hq; simp at hq
      · cases e
        have hadd : (⟨b, o, none⟩ : Addr).add j = ⟨b, o + j, none⟩ := by unfold Addr.add; split <;> simp_all
        rw [hadd, ← hj]
        exact (World.grownBy_alloc w _ none).cell (hz j z hq) (by simp)
  case qc3 => intro u hu; obtain ⟨x, _, rfl⟩ := List.mem_map.1 hu; rfl
  case qc4 => unfold maxLen; omega
  case qc5 => omega
  case qc6 => simp
  intro v' w1 hown hgrow hnil
  have hown' : w1.ownsRow w.heap.size 4 1 v' zs.length (boolCells zs) := by rw [HN.out]; simpa using hown
  obtain ⟨a', c', rfl, hi⟩ := bools_span hown'
  have HR := Lib.hid hi; clear hi hown hown' hnil
  have HG : Hid (w.grownBy w1 none) := Lib.hid (grown_own (World.grownBy_alloc w _ none) hgrow (fun k hk => by simp [Value.ownBlock] at hk; omega))
  clear hgrow
  rw [HN.out]
  go_wp2
  go_ret
  exact ⟨a', c', rfl, HR.out, HG.out⟩

theorem made_row (m : Nat) : madeCells #[.bool false] m = (List.replicate m (Value.bool false)).toArray := by
  apply Array.ext'
  apply List.ext_getElem?
  intro j
  unfold madeCells
  by_cases h : j < m
  · rw [List.getElem?_replicate, if_pos h]
    simp [h, Nat.mod_one]
  · rw [List.getElem?_replicate, if_neg h]
    simp [h]
theorem splice_given (m : Nat) (vals : List Bool) : splice (List.replicate m (Value.bool false)) 0 (boolCells (vals.take m)) = boolCells (givenP m vals) := by
  unfold splice
  rw [List.take_zero, List.nil_append, Nat.zero_add]
  apply List.ext_getElem?
  intro i
  have hl : (boolCells (vals.take m)).length = min m vals.length := by simp [boolCells]
  by_cases hi : i < m
  · rw [show (boolCells (givenP m vals))[i]? = some (Value.bool ((vals[i]?).getD false)) by rw [boolCells, List.getElem?_map, given_at hi]; rfl]
    by_cases hv : i < vals.length
    · rw [List.getElem?_append_left (by rw [hl]; omega), boolCells, List.getElem?_map, List.getElem?_take_of_lt hi, List.getElem?_eq_getElem hv]
      rfl
    · rw [List.getElem?_append_right (by rw [hl]; omega), List.getElem?_drop, List.getElem?_replicate, if_pos (by rw [hl]; omega), List.getElem?_eq_none (by omega : vals.length ≤ i)]
      rfl
  · rw [List.getElem?_eq_none (by rw [List.length_append, List.length_drop, hl, List.length_replicate]; omega), List.getElem?_eq_none (by rw [boolCells, List.length_map, given_len]; omega)]
theorem vals_cells {w : World} {a : Addr} {c : Nat} {vals : List Bool} (h : BoolsW w (some a) c vals) (m : Nat) : ∀ j v, (boolCells (vals.take m))[j]? = some v → w.cell? (a.add j) = some v := by
  intro j v hj
  rw [boolCells, List.getElem?_map] at hj
  cases hq : (vals.take m)[j]? with
  | none => rw [hq] at hj; simp at hj
  | some z =>
    rw [hq] at hj
    simp only [Option.map_some, Option.some.injEq] at hj
    have hz : vals[j]? = some z := by
      by_cases hjm : j < m
      · rw [← List.getElem?_take_of_lt hjm]; exact hq
      · rw [List.getElem?_take] at hq; rw [if_neg hjm] at hq; cases hq
    obtain ⟨b, o, e, hc⟩ := h.at hz
    cases e
    have hadd : (⟨b, o, none⟩ : Addr).add j = ⟨b, o + j, none⟩ := by unfold Addr.add; split <;> simp_all
    rw [hadd, ← hj]
    exact hc
theorem cell_bool_new (w : World) (z : Bool) (t : TypeId) : ∀ j u, [Value.bool z][j]? = some u → (w.alloc (.cells #[.bool z] t)).cell? ((⟨w.heap.size, 0, none⟩ : Addr).add j) = some u := by
  intro j u hj
  rcases j with _ | j
  · simp at hj; subst hj; rw [add_at]; exact (one_cell w _ t).2.1
  · simp at hj

theorem ext_no {gs : List Gt} {N gv : List Bool} {k : Nat} (h : N[k]? = some false) : extGo gs N gv (k + 1) = extGo gs N gv k := by
  show (if N[k]? = some true then _ else _) = _
  rw [if_neg (by rw [h]; simp)]
theorem ext_yes {gs : List Gt} {N gv : List Bool} {k : Nat} (h : N[k]? = some true) : extGo gs N gv (k + 1) = extGo gs N gv k ++ [evalC gs gv (2 * (k : Int))] := by
  show (if N[k]? = some true then _ else _) = _
  rw [if_pos h]
/-- The row that is being extended. -/
structure ExtR (W0 : World) (g bN S0 : Nat) (wr : World) (v : Value) (L : List Bool) : Prop where
  own : wr.ownsRow g 4 1 v L.length (boolCells L)
  grow : W0.grownBy wr none
  at_ : ∀ x, v.ownBlock = some x → x = g ∨ S0 ≤ x
  size : S0 ≤ wr.heap.size
theorem ExtR.step {W0 : World} {g bN S0 : Nat} {wr WA w3 : World} {v v' : Value} {L : List Bool} {z : Bool} (h : ExtR W0 g bN S0 wr v L) (hW : W0.heap.size ≤ g) (ha : wr.grownBy WA none) (hg : WA.grownBy w3 v.ownBlock)
    (hown : w3.ownsRow g 4 1 v' (L.length + 1) (boolCells L ++ [.bool z])) (hat : v'.ownBlock = v.ownBlock ∨ v'.ownBlock = some WA.heap.size) : ExtR W0 g bN S0 w3 v' (L ++ [z]) := by
  refine ⟨by rw [List.length_append, boolCells, List.map_append]; exact hown, grown_own (World.grownBy.trans h.grow ha) hg (fun k hk => Nat.le_trans hW (h.own.lt k hk).1), fun x hx => ?_, Nat.le_trans h.size (Nat.le_trans ha.size hg.size)⟩
  rcases hat with e | e
  · exact h.at_ x (by rw [← e]; exact hx)
  · rw [e] at hx; injection hx with hx; exact .inr (by have := h.size; have := ha.size; omega)

set_option maxRecDepth 100000 in
set_option maxHeartbeats 4000000 in
theorem extend_calls (gs : List Gt) (r : Int) (m : Nat) (vals : List Bool) (a : Option Addr) (c : Nat) (va : Option Addr) (vc : Nat) (w : World) (h : GatesW w a c gs) (hG : Good gs) (hv : BoolsW w va vc vals) (hl : gs.length ≤ 1000) (_hlv : vals.length ≤ 1000) (hr : Ok gs r) (hm : m ≤ 100) :
    Calls Tryd.prog 13 #[.agg #[.slice a gs.length c], .int .i64 r, .int .i64 (m : Int), .slice va vals.length vc] w fun e w' => ∃ a' c', e = .returned (.slice a' (extP gs r m vals).length c') ∧ BoolsW w' a' c' (extP gs r m vals) ∧ w.grownBy w' none := by
  obtain ⟨n, hn⟩ : ∃ n, gs.length = n := ⟨_, rfl⟩
  obtain ⟨nv, hnv⟩ : ∃ n, vals.length = n := ⟨_, rfl⟩
  have hg1 := World.grownBy_alloc w (.cells #[.slice a n c] 27) none
  have e1 := one_cell w (.slice a n c) 27
  obtain ⟨W1, hW1⟩ : ∃ W, w.alloc (.cells #[.slice a n c] 27) = W := ⟨_, rfl⟩
  rw [hW1] at hg1 e1
  have HQ := Lib.hid e1.2.1
  have HG := Lib.hid hg1
  have HA := Lib.hid (h.grown hg1)
  have HV := Lib.hid (hv.grown hg1)
  have HN := Lib.hid (And.intro hn hnv)
  have HGD := Lib.hid (And.intro hG hr)
  have HGB := Lib.hid (good_bounds hG (by omega))
  obtain ⟨N, hN⟩ : ∃ N, needL gs (r / 2).toNat = N := ⟨_, rfl⟩
  obtain ⟨gv, hgv⟩ : ∃ z, givenP m vals = z := ⟨_, rfl⟩
  have HE : Hid (extP gs r m vals = extGo gs N gv n) := Lib.hid (by unfold extP; rw [hN, hgv, hn])
  have HNN : Hid (N.length = n) := Lib.hid (by rw [← hN, (need_of hG (by have := hr.1; have := hr.2; omega)).len, hn])
  have HNE : Hid (∀ U, W1.grownBy U none → Calls Tryd.prog 31 #[.agg #[.slice a n c], .int .i64 r] U fun e w' => ∃ b, e = .returned (.slice (some ⟨b, 0, none⟩) n n) ∧ BArr w' b N ∧ U.heap.size ≤ b ∧ U.grownBy w' none) := Lib.hid (fun U hU => by
    have := needed_calls gs r a c U ((h.grown hg1).grown hU) hG hl hr
    rw [hn, hN] at this
    exact this)
  have HGV : Hid (gv.length = m ∧ splice (List.replicate m (Value.bool false)) 0 (boolCells (vals.take m)) = boolCells gv) := Lib.hid ⟨by rw [← hgv, given_len], by rw [← hgv]; exact splice_given m vals⟩
  rw [hn] at hl ⊢
  rw [hnv]
  rw [HE.out]
  clear h hg1 e1 hn hnv hG hv hr hN hgv HE
  obtain ⟨i0, hi0, hz0, hz1, hz2⟩ := info_parts info4
  have hmk0 := run_make (P := Tryd.prog) W1 23 4 i0 (.bool false) Tryd.underlying23 hi0 hz0 .i64 .i64 (m : Int) (m : Int) (by omega) (Int.le_refl _) (by rw [hz2]; omega) (by omega)
  rw [Int.toNat_natCast, hz1, Nat.mul_one, show (Value.bool false).cells = #[Value.bool false] from rfl, made_row] at hmk0
  have hgm := World.grownBy_alloc W1 (.cells (List.replicate m (Value.bool false)).toArray 4) none
  have hhg := heap_alloc_new W1 (.cells (List.replicate m (Value.bool false)).toArray 4)
  have hms : (W1.alloc (.cells (List.replicate m (Value.bool false)).toArray 4)).heap.size = W1.heap.size + 1 := by simp
  obtain ⟨W2, hW2⟩ : ∃ z, W1.alloc (.cells (List.replicate m (Value.bool false)).toArray 4) = z := ⟨_, rfl⟩
  rw [hW2] at hmk0 hgm hhg hms
  obtain ⟨g, hg⟩ : ∃ b, W1.heap.size = b := ⟨_, rfl⟩
  rw [hg] at hmk0 hhg hms
  have HGE := Lib.hid hg
  have HGM := Lib.hid (And.intro hgm (And.intro hhg hms))
  obtain ⟨cs, hcs⟩ : ∃ z, boolCells (vals.take m) = z := ⟨_, rfl⟩
  have HCS : Hid (cs.length = Nat.min nv m ∧ ∀ v ∈ cs, v.oneCell' = true) := Lib.hid ⟨by rw [← hcs]; simp [boolCells, HN.out.2, Nat.min_comm], fun v hv => by rw [← hcs] at hv; obtain ⟨x, _, rfl⟩ := List.mem_map.1 hv; rfl⟩
  have HCP : Hid (0 < cs.length → ∃ ad, va = some ad ∧ ∀ j v, cs[j]? = some v → W2.cell? (ad.add j) = some v) := Lib.hid (fun hp => by
    rcases hvv : va with _ | ad
    · have := HV.out.2
      rw [hvv] at this
      rcases this with h | ⟨b, o, e, _⟩
      · rw [← hcs, h] at hp; simp [boolCells] at hp
      · cases e
    · refine ⟨ad, rfl, ?_⟩
      rw [← hcs]
      exact vals_cells (by rw [← hvv]; exact HV.out.grown hgm) m)
  rw [hcs] at HGV
  have hmx : max (m : Int) 0 = (m : Int) := by omega
  clear hg hgm hhg hms hcs hW2
  go_enter Tryd.func13, Tryd.ntmps13
  go_upto_region 2 with fail
  go_wp2_with (refine wpList_copy_splice rfl _ _ 23 23 rfl 4 Tryd.underlying23 (by rw [hi0]; exact congrArg some hz1) (some ⟨g, 0, none⟩) va m m nv vc rfl rfl g 0 (List.replicate m (Value.bool false)) 4 HGM.out.2.1 cs HCS.out.1 (fun hp => ⟨rfl, HCP.out hp⟩) ?hfit HCS.out.2 g W2 (Below.refl _ _) (Nat.le_refl _) ?_)
  case hfit => rw [List.length_replicate, HCS.out.1]; exact (by rw [Nat.zero_add]; exact Nat.min_le_right _ _)
  intro w3 hr3 hb3
  have hg13 : W1.grownBy w3 none := ⟨hb3.os.trans HGM.out.1.os, hb3.tape.trans HGM.out.1.tape, hb3.output.trans HGM.out.1.output, Nat.le_trans HGM.out.1.size hb3.size, fun k hk _ => (hb3.block k (by rw [← HGE.out]; exact hk)).trans (HGM.out.1.block k hk (by simp))⟩
  rw [HGV.out.2] at hr3
  have hown3 : w3.ownsRow g 4 1 (.slice (some ⟨g, 0, none⟩) m m) m (boolCells gv) := ⟨by rw [boolCells, List.length_map, HGV.out.1, Nat.mul_one], .inr ⟨g, m, (boolCells gv).toArray, rfl, Nat.le_refl _, hr3.out, Nat.le_refl _, by unfold maxLen; omega, by rw [List.size_toArray, boolCells, List.length_map, HGV.out.1, Nat.mul_one], by rw [List.take_of_length_le (by simp [boolCells, HGV.out.1])]⟩⟩
  have hbw3 : BoolsW w3 (some ⟨g, 0, none⟩) m gv := by
    obtain ⟨a9, c9, e9, h9⟩ := bools_span (by rw [HGV.out.1]; exact hown3)
    cases e9
    exact h9.here
  have HG3 := Lib.hid hg13
  have HO3 := Lib.hid hown3
  have HCL := Lib.hid (cloneBools_calls gv ⟨g, 0, none⟩ m w3 hbw3 (by rw [HGV.out.1]; omega))
  rw [HGV.out.1] at HCL
  have q3 := hg13.cell HQ.out (by simp)
  have HS3 : Hid (g < w3.heap.size) := Lib.hid (by have := hb3.size; have := HGM.out.2.2; omega)
  clear hr3 hb3 hg13 hown3 hbw3 hmk0 hmx
  go_wp2_with fail
  refine HCL.out.mono ?_
  rintro e w4 ⟨a4, c4, rfl, hs4, hg4⟩
  have HS4 := Lib.hid hs4
  have HG4 := Lib.hid (World.grownBy.trans HG3.out hg4)
  have HO4 := Lib.hid (own_grown HO3.out hg4)
  have q4 := hg4.cell q3 (by simp)
  have HS4b : Hid (w3.heap.size ≤ w4.heap.size) := Lib.hid hg4.size
  clear hs4 hg4 q3 HCL
  go_wp2_with fail
  refine (HNE.out w4 HG4.out).mono ?_
  rintro e w5 ⟨bN, rfl, hN5, hbN, hg5⟩
  have HN5 := Lib.hid (And.intro hN5 hbN)
  have HG5 := Lib.hid (World.grownBy.trans HG4.out hg5)
  have HR5 : Hid (ExtR W1 g bN w5.heap.size w5 (.slice (some ⟨g, 0, none⟩) m m) gv) := Lib.hid ⟨by rw [HGV.out.1]; exact own_grown HO4.out hg5, World.grownBy.trans HG4.out hg5, fun x hx => .inl (by simp [Value.ownBlock] at hx; exact hx.symm), Nat.le_refl _⟩
  have HS5 := Lib.hid (HS4.out.grown hg5)
  have HP5 := Lib.hid (show g < w3.heap.size ∧ w3.heap.size ≤ bN ∧ bN < w5.heap.size from ⟨HS3.out, Nat.le_trans HS4b.out hbN, hN5.low⟩)
  obtain ⟨S0, hS0⟩ : ∃ z, w5.heap.size = z := ⟨_, rfl⟩
  rw [hS0] at HR5 HP5
  have HSZ := Lib.hid hS0
  clear hN5 hbN hg5 q4 hS0 HS4 HG4 HO4
  go_wp2_with fail
  go_loopg [9, 25] n (fun gk s9 s25 wr => ∃ (k : Nat) (L : List Bool) (av : Option Addr) (cv : Nat), s25 = .int .i64 (k : Int) ∧ s9 = .slice av L.length cv ∧ gk = n - k ∧ k ≤ n ∧ L = extGo gs N gv k ∧ L.length ≤ m + k ∧ ExtR W1 g bN S0 wr (.slice av L.length cv) L ∧ BArr wr bN N ∧ Span w3.heap.size w4.heap.size wr (fun W => BoolsW W a4 c4 gv))
  case atStart => exact ⟨0, gv, some ⟨g, 0, none⟩, m, rfl, by rw [HGV.out.1], rfl, Nat.zero_le _, rfl, by rw [HGV.out.1]; omega, by rw [HGV.out.1]; exact HR5.out, HN5.out.1, HS5.out⟩
  case round =>
    obtain ⟨k, L, av, cv, rfl, rfl, hgk, hk, hL, hLl, hR, hB, hS⟩ := hrel
    obtain ⟨wo, hwo⟩ : ∃ z, z = wr := ⟨_, rfl⟩
    rw [← hwo] at hR hB hS ⊢
    clear hwo
    have HI := Lib.hid (And.intro hgk (And.intro hL hLl))
    obtain ⟨p, hp⟩ : ∃ p, L.length = p := ⟨_, rfl⟩
    have HP := Lib.hid hp
    have HR := Lib.hid hR
    rw [hp] at HR
    rw [hp] at hLl ⊢
    have HB := Lib.hid hB
    have HS := Lib.hid hS
    clear hgk hL hR hB hS hp
    by_cases hkn : k < n
    · have hkB : decide (k < n) = true := by simpa using hkn
      have hkI : (k : Int) < (n : Int) := by omega
      obtain ⟨z, hz⟩ : ∃ z, N[k]? = some z := ⟨_, List.getElem?_eq_getElem (by rw [HNN.out]; exact hkn)⟩
      have c0 := HB.out.cells k z hz
      have HZ := Lib.hid hz; clear hz
      cases z with
      | false =>
        have HX : Hid (extGo gs N gv (k + 1) = L) := Lib.hid (by rw [HI.out.2.1]; exact ext_no HZ.out)
        go_wp2_with fail
        go_roundg (n - (k + 1))
        case measure => rw [HI.out.1]; omega
        case rel => exact ⟨k + 1, L, av, cv, rfl, by rw [HP.out], rfl, by omega, HX.out.symm, by rw [HP.out]; omega, by rw [HP.out]; exact HR.out, HB.out, HS.out⟩
      | true =>
        have hw2 : IntKind.i64.wrap (2 * (k : Int)) = 2 * (k : Int) := IntWalk.i64_in _ (by omega)
        have q6 := HR.out.grow.cell HQ.out (by simp)
        have HEV := Lib.hid (eval_calls gs gv (2 * (k : Int)) a c a4 c4 wo (HA.out.grown HR.out.grow) HS.out.here (by rw [HN.out.1]; exact hl) (by rw [HGV.out.1]; omega) HGB.out (by omega))
        rw [HN.out.1, HGV.out.1] at HEV
        have HX : Hid (extGo gs N gv (k + 1) = L ++ [evalC gs gv (2 * (k : Int))]) := Lib.hid (by rw [HI.out.2.1]; exact ext_yes HZ.out)
        go_wp2_with fail
        refine HEV.out.mono ?_
        rintro e w6 ⟨rfl, hg6⟩
        obtain ⟨y, hy⟩ : ∃ y, evalC gs gv (2 * (k : Int)) = y := ⟨_, rfl⟩
        rw [hy] at HX ⊢
        have HG6 := Lib.hid hg6
        have HO6 := Lib.hid (own_grown HR.out.own hg6)
        rw [HP.out] at HO6
        have hnew := cell_bool_new w6 y 4
        have HSZ6 : Hid (g ≤ w6.heap.size) := Lib.hid (by have := HR.out.size; have := hg6.size; have := HP5.out; omega)
        obtain ⟨Lc, hLc⟩ : ∃ z, boolCells L = z := ⟨_, rfl⟩
        rw [hLc] at HO6
        have HLC := Lib.hid hLc
        clear hy hg6 q6 c0 hw2 HEV hLc
        go_wp2_with (at_builtin; refine wpList_append_own_at _ rfl _ _ 23 rfl g 4 i0 (.bool false) 1 1 Tryd.underlying23 hi0 hz0 hz1 hz2 rfl (by decide) _ p Lc rfl (HO6.out.alloc _) ⟨w6.heap.size, 0, none⟩ 1 1 [.bool y] rfl rfl hnew (fun u hu => by simp at hu; subst hu; rfl) (by unfold maxLen; omega) (by omega) (by have := HSZ6.out; simp; omega) ?_)
        intro v' w7 hown' hgrow7 _ hat7
        obtain ⟨rgA, rcA, rfl⟩ := own_shape hown'
        have HST := Lib.hid (HR.out.step (Nat.le_of_eq HGE.out) (World.grownBy.trans HG6.out (World.grownBy_alloc w6 (.cells #[.bool y] 4) none)) hgrow7 (by rw [HP.out, HLC.out]; exact hown') (by rw [show (w6.alloc (.cells #[.bool y] 4)).heap.size = w6.heap.size + 1 by simp]; exact hat7))
        have HB7 : Hid (BArr w7 bN N) := Lib.hid ((HB.out.grown (World.grownBy.trans HG6.out (World.grownBy_alloc w6 (.cells #[.bool y] 4) none)) (by simp)).grown hgrow7 (fun e => by have := HR.out.at_ bN e.symm; have := HP5.out; omega))
        have HS7 : Hid (Span w3.heap.size w4.heap.size w7 (fun W => BoolsW W a4 c4 gv)) := Lib.hid (((HS.out.grown (World.grownBy.trans HG6.out (World.grownBy_alloc w6 (.cells #[.bool y] 4) none)))).off hgrow7 (fun x e => by have := HR.out.at_ x e; have := HP5.out; have := HS5.out.1; have := HSZ.out; omega))
        clear hown' hgrow7 hat7 hnew
        go_wp2_with fail
        go_roundg (n - (k + 1))
        case measure => rw [HI.out.1]; omega
        case rel => exact ⟨k + 1, L ++ [y], rgA, rcA, rfl, by rw [List.length_append, HP.out]; rfl, rfl, by omega, HX.out.symm, by rw [List.length_append, HP.out]; simp; omega, by rw [List.length_append, HP.out]; exact HST.out, HB7.out, HS7.out⟩
    · have hie : k = n := by omega
      subst hie
      have hkB : decide (k < k) = false := by simp
      have HBW : Hid (BoolsW wo av cv (extGo gs N gv k)) := Lib.hid (by
        obtain ⟨a9, c9, e9, h9⟩ := bools_span HR.out.own
        rw [HP.out] at e9
        cases e9
        rw [← HI.out.2.1]
        exact h9.here)
      go_wp2_with fail
      go_ret
      exact ⟨av, cv, by rw [← HI.out.2.1, HP.out]; rfl, HBW.out, World.grownBy.trans HG.out HR.out.grow⟩
end Go.Proofs.YthkjjiijjedipaaDoor

namespace Go.Proofs.YthkjjiijjedipaaDoor
open Go.RowKit

section
variable {δ : Type}
/-- A row that is being made: its own block, and the spans of its elements. -/
structure Out (cs : δ → List Value) (k : Nat) (P : δ → World → Prop) (w : World) (B : Nat) (e : TypeId) (v : Value) (D : List δ) : Prop where
  own : w.ownsRow B e k v D.length (D.flatMap cs)
  el : ∀ d ∈ D, ∃ lo hi, Span lo hi w (P d) ∧ B ≤ lo ∧ ∀ x, v.ownBlock = some x → x < lo ∨ hi ≤ x
variable {cs : δ → List Value} {k : Nat} {P : δ → World → Prop}
theorem Out.start (w : World) (B : Nat) (e : TypeId) : Out cs k P w B e (.slice none 0 0) [] := ⟨World.ownsRow_nil _ _ _ _, fun d hd => (by cases hd)⟩
theorem Out.quiet {w w' : World} {B : Nat} {e : TypeId} {v : Value} {D : List δ} {r : Option Nat} (h : Out cs k P w B e v D) (hg : w.grownBy w' r) (hr : ∀ x, r = some x → x < B) : Out cs k P w' B e v D := by
  refine ⟨h.own.kept hg ?_, fun d hd => ?_⟩
  · cases r with
    | none => cases hv : v.ownBlock <;> simp
    | some k => exact own_ne h.own (hr k rfl)
  · obtain ⟨lo, hi, hs, hb, hx⟩ := h.el d hd
    exact ⟨lo, hi, hs.off hg (fun x hx => by have := hr x hx; omega), hb, hx⟩
theorem Out.push {w w3 : World} {B : Nat} {e : TypeId} {v v' : Value} {D : List δ} {d : δ} {lo hi : Nat} {o : Obj} (h : Out cs k P w B e v D) (hd : Span lo hi w (P d)) (hB : B ≤ lo)
    (hx : ∀ x, v.ownBlock = some x → x < lo ∨ hi ≤ x) (hown : w3.ownsRow B e k v' (D.length + 1) (D.flatMap cs ++ cs d))
    (hg : (w.alloc o).grownBy w3 v.ownBlock) (hat : v'.ownBlock = v.ownBlock ∨ v'.ownBlock = some (w.alloc o).heap.size) : Out cs k P w3 B e v' (D ++ [d]) := by
  have ga := World.grownBy_alloc w o none
  have key : ∀ (y : δ) (lo hi : Nat), Span lo hi w (P y) → B ≤ lo → (∀ x, v.ownBlock = some x → x < lo ∨ hi ≤ x) → ∃ lo hi, Span lo hi w3 (P y) ∧ B ≤ lo ∧ ∀ x, v'.ownBlock = some x → x < lo ∨ hi ≤ x := by
    intro y lo hi hs hb hx
    refine ⟨lo, hi, (hs.grown ga).off hg hx, hb, fun x e => ?_⟩
    rcases hat with q | q
    · exact hx x (by rw [← q]; exact e)
    · rw [q] at e
      injection e with e
      have := hs.1
      have := ga.size
      omega
  refine ⟨by rw [List.length_append, List.flatMap_append, List.flatMap_cons, List.flatMap_nil, List.append_nil]; exact hown, fun y hy => ?_⟩
  rw [List.mem_append, List.mem_singleton] at hy
  rcases hy with hy | rfl
  · obtain ⟨lo, hi, hs, hb, hx⟩ := h.el y hy
    exact key y lo hi hs hb hx
  · exact key _ lo hi hd hB hx
theorem flat_at (hcs : ∀ d, (cs d).length = k) : ∀ (D : List δ) (j : Nat) (d : δ), D[j]? = some d → ∀ t < k, (D.flatMap cs)[j * k + t]? = (cs d)[t]?
  | [], j, d, h, _, _ => by simp at h
  | e :: D, 0, d, h, t, ht => by
    simp at h; subst h
    rw [List.flatMap_cons, List.getElem?_append_left (by rw [hcs]; omega), Nat.zero_mul, Nat.zero_add]
  | e :: D, j + 1, d, h, t, ht => by
    rw [List.flatMap_cons, List.getElem?_append_right (by rw [hcs, Nat.add_mul]; omega)]
    have := flat_at hcs D j d (by simpa using h) t ht
    rw [← this, hcs]; congr 1; rw [Nat.add_mul]; omega
theorem Out.span {w : World} {B : Nat} {e : TypeId} {v : Value} {D : List δ} (h : Out cs k P w B e v D) (hcs : ∀ d, (cs d).length = k) :
    ∃ a c, v = .slice a D.length c ∧ D.length ≤ c ∧ Span B w.heap.size w (fun W => ∀ (j : Nat) (d : δ), D[j]? = some d → P d W ∧ ∃ g, a = some ⟨g, 0, none⟩ ∧ ∀ t u, (cs d)[t]? = some u → W.cell? ⟨g, 0 + j * k + t, none⟩ = some u) := by
  have hc := @World.ownsRow.cells w B e k v D.length _ h.own
  rcases h.own.2 with ⟨hv, h0⟩ | ⟨g, cap, cur, rfl, hb, hg, hnc, hcm, _⟩
  · have hl : D = [] := List.eq_nil_of_length_eq_zero h0
    subst hl
    exact ⟨none, 0, hv, Nat.le_refl _, Nat.le_refl _, fun W _ j d hj => by simp at hj⟩
  · have hlt := (Array.getElem?_eq_some_iff.1 hg).1
    refine ⟨_, _, rfl, hnc, Nat.le_refl _, fun W hW j d hj => ⟨?_, g, rfl, fun t u hu => ?_⟩⟩
    · obtain ⟨lo, hi, hs, hbl, _⟩ := h.el d (List.mem_of_getElem? hj)
      exact hs.2 W fun b h1 h2 => hW b (by omega) (Nat.lt_of_lt_of_le h2 hs.1)
    · have ht : t < k := by rw [← hcs d]; exact (List.getElem?_eq_some_iff.1 hu).1
      have := hc (g := g) rfl (j * k + t) u (by rw [flat_at hcs D j d hj t ht]; exact hu)
      rw [add_at] at this
      rw [Nat.zero_add, World.cell?_of_block (hW g hb hlt)]; exact this
end

/-- A row of integers that is written in its place. -/
structure IArr (w : World) (b : Nat) (M : List Int) : Prop where
  cells : ∀ (j : Nat) (z : Int), M[j]? = some z → w.cell? ⟨b, j, none⟩ = some (.int .i64 z)
  fr : ∀ o, w.frozen? ⟨b, o, none⟩ = false
  low : b < w.heap.size
theorem IArr.grown {w w' : World} {b : Nat} {M : List Int} {r : Option Nat} (h : IArr w b M) (hg : w.grownBy w' r) (hr : some b ≠ r) : IArr w' b M :=
  ⟨fun j z hj => hg.cell (h.cells j z hj) hr, fun o => (World.frozen?_of_block (a := ⟨b, o, none⟩) (hg.block b h.low hr)).trans (h.fr o), Nat.lt_of_lt_of_le h.low hg.size⟩
theorem IArr.set {w : World} {b : Nat} {M : List Int} (h : IArr w b M) {j : Nat} {z0 : Int} (hj : M[j]? = some z0) (z : Int) : IArr (w.setCell ⟨b, j, none⟩ (.int .i64 z)) b (M.set j z) := by
  have hjl : j < M.length := (List.getElem?_eq_some_iff.1 hj).1
  refine ⟨fun k u hk => ?_, fun o => by rw [World.frozen?_setCell]; exact h.fr o, Nat.lt_of_lt_of_le h.low (grown_set w b j _).size⟩
  by_cases e : k = j
  · subst e
    rw [List.getElem?_set_self hjl] at hk
    cases hk
    exact World.cell?_setCell_same _ _ _ (h.cells k z0 hj)
  · rw [List.getElem?_set_ne (fun e2 => e e2.symm)] at hk
    rw [World.cell?_setCell_other _ _ _ _ (ne_at (fun e2 => e e2.symm))]
    exact h.cells k u hk
theorem IArr.ints {w : World} {b : Nat} {M : List Int} (h : IArr w b M) {c : Nat} (hc : M.length ≤ c) : IntsW w (some ⟨b, 0, none⟩) c M :=
  ⟨hc, .inr ⟨b, 0, rfl, fun j z hj => by rw [Nat.zero_add]; exact h.cells j z hj⟩⟩
theorem made_zero (n j : Nat) (z : Int) (h : (List.replicate n (0 : Int))[j]? = some z) : (madeCells #[.int .i64 0] n)[j]? = some (.int .i64 z) := by
  have hj := (List.getElem?_eq_some_iff.1 h).1
  rw [List.length_replicate] at hj
  rw [List.getElem?_replicate, if_pos hj] at h
  cases h
  unfold madeCells
  rw [Array.getElem?_eq_getElem (by simpa using hj)]
  simp [Nat.mod_one]
theorem IArr.made (w : World) (n : Nat) : IArr (w.alloc (.cells (madeCells #[.int .i64 0] n) 3)) w.heap.size (List.replicate n 0) :=
  ⟨fun j z hj => by rw [World.cell?_alloc_new]; exact made_zero n j z hj, fun o => World.frozen?_alloc_new w _ _ o, by simp⟩

/-- A clause with its row. -/
abbrev Dc := List Int × Option Addr × Nat
def clC (d : Dc) : List Value := [.slice d.2.1 d.1.length d.2.2]
def clP (d : Dc) (W : World) : Prop := IntsW W d.2.1 d.2.2 d.1
abbrev OutC (w : World) (B : Nat) (v : Value) (D : List Dc) : Prop := Out clC 1 clP w B 28 v D
theorem OutC.cls {w : World} {B : Nat} {v : Value} {D : List Dc} (h : OutC w B v D) : ∃ a c, v = .slice a (D.map (·.1)).length c ∧ Span B w.heap.size w (fun W => ClsW W a c (D.map (·.1))) := by
  obtain ⟨a, c, hv, hc, hs⟩ := h.span (fun d => rfl)
  refine ⟨a, c, by rw [List.length_map]; exact hv, hs.1, fun W hW => ⟨by rw [List.length_map]; exact hc, ?_⟩⟩
  have hh := hs.2 W hW
  rcases D with _ | ⟨d0, D⟩
  · exact .inl rfl
  · obtain ⟨_, g, rfl, _⟩ := hh 0 d0 rfl
    refine .inr ⟨g, 0, rfl, fun j z hz => ?_⟩
    rw [List.getElem?_map] at hz
    cases hd : (d0 :: D)[j]? with
    | none => rw [hd] at hz; cases hz
    | some d =>
      rw [hd] at hz
      simp only [Option.map_some, Option.some.injEq] at hz
      subst hz
      obtain ⟨hp, g', e, hcell⟩ := hh j d hd
      cases e
      have h0 := hcell 0 _ rfl
      rw [Nat.mul_one, Nat.add_zero] at h0
      exact ⟨d.2.1, d.2.2, h0, hp⟩
/-- Several elements are put behind. -/
theorem Out.pushL {δ : Type} {cs : δ → List Value} {k : Nat} {P : δ → World → Prop} {w w3 : World} {B : Nat} {e : TypeId} {v v' : Value} {D ds : List δ} (h : Out cs k P w B e v D)
    (hd : ∀ d ∈ ds, ∃ lo hi, Span lo hi w (P d) ∧ B ≤ lo ∧ ∀ x, v.ownBlock = some x → x < lo ∨ hi ≤ x)
    (hown : w3.ownsRow B e k v' (D.length + ds.length) (D.flatMap cs ++ ds.flatMap cs))
    (hg : w.grownBy w3 v.ownBlock) (hat : v'.ownBlock = v.ownBlock ∨ ∀ x, v'.ownBlock = some x → w.heap.size ≤ x) : Out cs k P w3 B e v' (D ++ ds) := by
  have key : ∀ (y : δ) (lo hi : Nat), Span lo hi w (P y) → B ≤ lo → (∀ x, v.ownBlock = some x → x < lo ∨ hi ≤ x) → ∃ lo hi, Span lo hi w3 (P y) ∧ B ≤ lo ∧ ∀ x, v'.ownBlock = some x → x < lo ∨ hi ≤ x := by
    intro y lo hi hs hb hx
    refine ⟨lo, hi, hs.off hg hx, hb, fun x e => ?_⟩
    rcases hat with q | q
    · exact hx x (by rw [← q]; exact e)
    · have := q x e
      have := hs.1
      omega
  refine ⟨by rw [List.length_append, List.flatMap_append]; exact hown, fun y hy => ?_⟩
  rw [List.mem_append] at hy
  rcases hy with hy | hy
  · obtain ⟨lo, hi, hs, hb, hx⟩ := h.el y hy
    exact key y lo hi hs hb hx
  · obtain ⟨lo, hi, hs, hb, hx⟩ := hd y hy
    exact key y lo hi hs hb hx

/-- Where the blocks of the translation lie. -/
structure TsB where
  W0 : World
  pc : Nat
  pf : Nat
  pv : Nat
  pl : Nat
  bv : Nat
  bN : Nat
  B : Nat
  n : Nat
  ga : Option Addr
  gc : Nat
  N : List Bool
/-- They lie apart, below the row. -/
structure TsB.Ok (T : TsB) : Prop where
  lo : T.W0.heap.size ≤ T.pc
  o1 : T.pc < T.pf
  o2 : T.pf < T.bv
  o3 : T.bv < T.pv
  o4 : T.pv < T.pl
  o5 : T.pl < T.bN
  o6 : T.bN < T.B
/-- The translation's state. -/
structure TsS (T : TsB) (wr : World) (k : Int) (V : List Int) (v : Value) (D : List Dc) : Prop where
  grow : T.W0.grownBy wr none
  size : T.B ≤ wr.heap.size
  c0 : wr.cell? ⟨T.pc, 0, none⟩ = some (.slice T.ga T.n T.gc)
  f0 : wr.cell? ⟨T.pf, 0, none⟩ = some (.int .i64 k)
  f1 : wr.cell? ⟨T.pf, 1, none⟩ = some v
  ff : ∀ o, wr.frozen? ⟨T.pf, o, none⟩ = false
  v0 : wr.cell? ⟨T.pv, 0, none⟩ = some (.slice (some ⟨T.bv, 0, none⟩) T.n T.n)
  l0 : wr.cell? ⟨T.pl, 0, none⟩ = some (.func (.func 29) #[] #[.pointer (some ⟨T.pv, 0, none⟩)])
  arr : IArr wr T.bv V
  len : V.length = T.n
  nd : BArr wr T.bN T.N
  row : OutC wr T.B v D
theorem TsS.grown {T : TsB} {wr w' : World} {k : Int} {V : List Int} {v : Value} {D : List Dc} (h : TsS T wr k V v D) (hg : wr.grownBy w' none) : TsS T w' k V v D :=
  ⟨World.grownBy.trans h.grow hg, Nat.le_trans h.size hg.size, hg.cell h.c0 (by simp), hg.cell h.f0 (by simp), hg.cell h.f1 (by simp), fun o => (grown_frozen hg (lies_lt h.f0) o).trans (h.ff o), hg.cell h.v0 (by simp), hg.cell h.l0 (by simp), h.arr.grown hg (by simp), h.len, h.nd.grown hg (by simp), h.row.quiet hg (fun x e => by cases e)⟩
theorem some_ne {p q : Nat} (h : p ≠ q) : some p ≠ some q := fun e => h (Option.some.inj e)
theorem TsS.vars {T : TsB} (hT : T.Ok) {wr : World} {k : Int} {V : List Int} {v : Value} {D : List Dc} (h : TsS T wr k V v D) (k' : Int) : TsS T (wr.setCell ⟨T.pf, 0, none⟩ (.int .i64 k')) k' V v D := by
  have hg := grown_set wr T.pf 0 (.int .i64 k')
  have := hT.lo; have := hT.o1; have := hT.o2; have := hT.o3; have := hT.o4; have := hT.o5; have := hT.o6
  have n1 : T.pc ≠ T.pf := by omega
  have n2 : T.pv ≠ T.pf := by omega
  have n3 : T.pl ≠ T.pf := by omega
  have n4 : T.bv ≠ T.pf := by omega
  have n5 : T.bN ≠ T.pf := by omega
  refine ⟨grown_own h.grow hg (fun x e => by cases e; omega), Nat.le_trans h.size hg.size, hg.cell h.c0 (some_ne n1), World.cell?_setCell_same _ _ _ h.f0, ?_, fun o => by rw [World.frozen?_setCell]; exact h.ff o, hg.cell h.v0 (some_ne n2), hg.cell h.l0 (some_ne n3), h.arr.grown hg (some_ne n4), h.len, h.nd.grown hg (some_ne n5), h.row.quiet hg (fun x e => by cases e; omega)⟩
  rw [World.cell?_setCell_other _ _ _ _ (ne_at (by decide))]; exact h.f1
theorem TsS.put {T : TsB} (hT : T.Ok) {wr : World} {k : Int} {V : List Int} {v : Value} {D : List Dc} (h : TsS T wr k V v D) {i : Nat} (hi : i < T.n) (x : Int) : TsS T (wr.setCell ⟨T.bv, i, none⟩ (.int .i64 x)) k (V.set i x) v D := by
  have hg := grown_set wr T.bv i (.int .i64 x)
  have := hT.lo; have := hT.o1; have := hT.o2; have := hT.o3; have := hT.o4; have := hT.o5; have := hT.o6
  obtain ⟨z, hz⟩ : ∃ z, V[i]? = some z := ⟨_, List.getElem?_eq_getElem (by rw [h.len]; exact hi)⟩
  have n1 : T.pc ≠ T.bv := by omega
  have n2 : T.pf ≠ T.bv := by omega
  have n3 : T.pv ≠ T.bv := by omega
  have n4 : T.pl ≠ T.bv := by omega
  have n5 : T.bN ≠ T.bv := by omega
  exact ⟨grown_own h.grow hg (fun y e => by cases e; omega), Nat.le_trans h.size hg.size, hg.cell h.c0 (some_ne n1), hg.cell h.f0 (some_ne n2), hg.cell h.f1 (some_ne n2), fun o => by rw [World.frozen?_setCell]; exact h.ff o, hg.cell h.v0 (some_ne n3), hg.cell h.l0 (some_ne n4), h.arr.set hz x, by rw [List.length_set]; exact h.len, h.nd.grown hg (some_ne n5), h.row.quiet hg (fun y e => by cases e; omega)⟩
/-- Clauses are put behind, and stored. -/
theorem TsS.push {T : TsB} (hT : T.Ok) {wr WA w3 : World} {k : Int} {V : List Int} {v v' : Value} {D ds : List Dc} (h : TsS T wr k V v D) (ha : wr.grownBy WA none)
    (hd : ∀ d ∈ ds, ∃ lo hi, Span lo hi WA (clP d) ∧ wr.heap.size ≤ lo)
    (hown : w3.ownsRow T.B 28 1 v' (D.length + ds.length) (D.flatMap clC ++ ds.flatMap clC))
    (hg : WA.grownBy w3 v.ownBlock) (hat : v'.ownBlock = v.ownBlock ∨ v'.ownBlock = some WA.heap.size) : TsS T (w3.setCell ⟨T.pf, 1, none⟩ v') k V v' (D ++ ds) := by
  have := hT.lo; have := hT.o1; have := hT.o2; have := hT.o3; have := hT.o4; have := hT.o5; have := hT.o6
  have hA := h.grown ha
  have hge : ∀ x, v.ownBlock = some x → T.B ≤ x ∧ x < wr.heap.size := fun x e => h.row.own.lt x e
  have ne : ∀ {x : Nat}, x < T.B → some x ≠ v.ownBlock := fun {x} hx e => by have := (hge x e.symm).1; omega
  have hs := grown_set w3 T.pf 1 v'
  have n1 : T.pc ≠ T.pf := by omega
  have n2 : T.pv ≠ T.pf := by omega
  have n3 : T.pl ≠ T.pf := by omega
  have n4 : T.bv ≠ T.pf := by omega
  have n5 : T.bN ≠ T.pf := by omega
  have frz : ∀ o, w3.frozen? ⟨T.pf, o, none⟩ = false := fun o => (World.frozen?_of_block (a := ⟨T.pf, o, none⟩) (hg.block T.pf (lies_lt hA.f0) (ne (x := T.pf) (by omega)))).trans (hA.ff o)
  have hf1 := hg.cell hA.f1 (ne (by show T.pf < T.B; omega))
  refine ⟨grown_own (grown_own hA.grow hg (fun x e => by have := (hge x e).1; omega)) hs (fun x e => by cases e; omega), Nat.le_trans hA.size (Nat.le_trans hg.size hs.size),
    hs.cell (hg.cell hA.c0 (ne (by show T.pc < T.B; omega))) (some_ne n1), ?_, World.cell?_setCell_same _ _ _ hf1, fun o => by rw [World.frozen?_setCell]; exact frz o,
    hs.cell (hg.cell hA.v0 (ne (by show T.pv < T.B; omega))) (some_ne n2), hs.cell (hg.cell hA.l0 (ne (by show T.pl < T.B; omega))) (some_ne n3), (hA.arr.grown hg (ne (x := T.bv) (by omega))).grown hs (some_ne n4), h.len, (hA.nd.grown hg (ne (x := T.bN) (by omega))).grown hs (some_ne n5), ?_⟩
  · rw [World.cell?_setCell_other _ _ _ _ (ne_at (by decide))]
    exact hg.cell hA.f0 (ne (by show T.pf < T.B; omega))
  · refine Out.quiet (Out.pushL hA.row (fun d hm => ?_) hown hg ?_) hs (fun x e => by cases e; omega)
    · obtain ⟨lo, hi, h1, h2⟩ := hd d hm
      exact ⟨lo, hi, h1, Nat.le_trans h.size h2, fun x e => .inl (by have := (hge x e).2; omega)⟩
    · rcases hat with q | q
      · exact .inl q
      · exact .inr (fun x e => by rw [q] at e; injection e with e; omega)

def vget (V : List Int) (q : Nat) : Int := (V[q]?).getD 0
def litV' (V : List Int) (r : Int) : Int := if r % 2 = 1 then -(vget V (r / 2).toNat) else vget V (r / 2).toNat
set_option maxHeartbeats 1000000 in
theorem literal_calls (V : List Int) (pv bv n : Nat) (r : Int) (w : World) (hp : w.cell? ⟨pv, 0, none⟩ = some (.slice (some ⟨bv, 0, none⟩) n n)) (hv : IArr w bv V) (hl : V.length = n) (hn : n ≤ 1000) (hr : 0 ≤ r ∧ r < 2 * (n : Int)) (hb : ∀ x ∈ V, -1000000 ≤ x ∧ x ≤ 1000000) :
    Calls Tryd.prog 29 #[.int .i64 r, .pointer (some ⟨pv, 0, none⟩)] w fun e w' => e = .returned (.int .i64 (litV' V r)) ∧ w' = w := by
  obtain ⟨q, hq⟩ : ∃ q : Nat, r / 2 = (q : Int) := ⟨(r / 2).toNat, by omega⟩
  have hqn : (q : Int) < (n : Int) := by omega
  have hq0 : (0 : Int) ≤ (q : Int) := by omega
  obtain ⟨z, hz⟩ : ∃ z, V[q]? = some z := ⟨_, List.getElem?_eq_getElem (by rw [hl]; omega)⟩
  have hzb := hb z (List.mem_of_getElem? hz)
  have c0 := hv.cells q z hz
  have HV : Hid (litV' V r = if r % 2 = 1 then -z else z) := Lib.hid (by unfold litV' vget; rw [hq, Int.toNat_natCast, hz]; rfl)
  have hd : Int.tdiv r 2 = (q : Int) := by rw [Int.tdiv_eq_ediv_of_nonneg hr.1, hq]
  have hwq : IntKind.i64.wrap (q : Int) = (q : Int) := IntWalk.i64_in _ (by omega)
  have hm : Int.tmod r 2 = r % 2 := Int.tmod_eq_emod_of_nonneg hr.1
  have hnz : IntKind.i64.wrap (-z) = -z := IntWalk.i64_in _ (by omega)
  rcases Int.emod_two_eq r with e | e
  · have hm2 : Int.tmod r 2 = 0 := by rw [hm, e]
    have HR : Hid (litV' V r = z) := Lib.hid (by rw [HV.out, if_neg (by omega)])
    clear HV hm e hq hz hv
    go_enter Tryd.func29, Tryd.ntmps29
    go_wp2_with fail
    go_ret
    exact ⟨by rw [HR.out]; rfl, rfl⟩
  · have hm2 : Int.tmod r 2 = 1 := by rw [hm, e]
    have HR : Hid (litV' V r = -z) := Lib.hid (by rw [HV.out, if_pos e])
    clear HV hm e hq hz hv
    go_enter Tryd.func29, Tryd.ntmps29
    go_wp2_with fail
    go_ret
    exact ⟨by rw [HR.out]; rfl, rfl⟩
end Go.Proofs.YthkjjiijjedipaaDoor

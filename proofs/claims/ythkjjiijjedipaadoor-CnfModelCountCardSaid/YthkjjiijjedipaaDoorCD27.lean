/- Texts of the proof: M6. -/
import Derived.Test.YthkjjiijjedipaaDoorCD26
import Derived.Test.YthkjjiijjedipaaDoorCD08
import Derived.Test.YthkjjiijjedipaaDoorCD16
import Derived.Laws.CopyOwn
namespace Go.Proofs.YthkjjiijjedipaaDoor
open Go.RowKit

set_option maxRecDepth 100000 in
set_option maxHeartbeats 1000000 in
theorem cloneBools_calls (zs : List Bool) (ad : Addr) (c : Nat) (w : World) (h : BoolsW w (some ad) c zs) (hl : zs.length ≤ 100000) :
    Calls Tryd.prog 32 #[.slice (some ad) zs.length c] w fun e w' => ∃ a' c', e = .returned (.slice a' zs.length c') ∧ Span w.heap.size w'.heap.size w' (fun W => BoolsW W a' c' zs) ∧ w.grownBy w' none := by
  obtain ⟨n, hn⟩ : ∃ n, zs.length = n := ⟨_, rfl⟩
  rw [hn] at hl ⊢
  have HN := Lib.hid hn; clear hn
  obtain ⟨i0, hi0, hz0, hz1, hz2⟩ := info_parts info4
  have HC := Lib.hid h.2; have hc := h.1; clear h
  rw [HN.out] at hc
  have q28 : ∀ (w : World) (a : Option Addr) (n c n' c' : Nat), (binOp .eql 23 (.slice a n c) (.slice none n' c')).run Tryd.prog w = .ok (.bool a.isNone) w := fun w a n c n' c' => Lib.run_eql_slice_nil w _ _ a n c n' c' Tryd.underlying23
  go_enter Tryd.func32, Tryd.ntmps32
  go_wp2_with (at_builtin; refine wpList_append_own _ rfl _ _ 23 rfl w.heap.size 4 i0 (.bool false) 1 1 Tryd.underlying23 hi0 hz0 hz1 hz2 rfl (by decide) _ _ _ rfl (World.ownsRow_made w #[] 0 (Nat.le_refl _) (Nat.zero_le _) rfl) ad n c (boolCells zs) rfl ?qc1 ?qc2 ?qc3 ?qc4 ?qc5 ?qc6 ?_)
  case qc1 => rw [boolCells, List.length_map, HN.out]; omega
  case qc2 =>
    intro j u hj
    rw [boolCells, List.getElem?_map] at hj
    cases hq : zs[j]? with
    | none => rw [hq] at hj; simp at hj
    | some z =>
      rw [hq] at hj
      simp only [Option.map_some, Option.some.injEq] at hj
      rcases HC.out with h0 | ⟨b, o, e, hz⟩
      · rw [h0] at hq; simp at hq
      · cases e
        have hadd : (⟨b, o, none⟩ : Addr).add j = ⟨b, o + j, none⟩ := by unfold Addr.add; split <;> simp_all
        rw [hadd, ← hj]
        exact (World.grownBy_alloc w _ none).cell (hz j z hq) (by simp)
  case qc3 => intro u hu; obtain ⟨x, _, rfl⟩ := List.mem_map.1 hu; rfl
  case qc4 => unfold maxLen; omega
  case qc5 => omega
  case qc6 => simp
  intro v' w1 hown hgrow hnil
  have hown' : w1.ownsRow w.heap.size 4 1 v' zs.length (boolCells zs) := by rw [HN.out]; simpa using hown
  obtain ⟨a', c', rfl, hi⟩ := bools_span hown'
  have HR := Lib.hid hi; clear hi hown hown' hnil
  have HG : Hid (w.grownBy w1 none) := Lib.hid (grown_own (World.grownBy_alloc w _ none) hgrow (fun k hk => by simp [Value.ownBlock] at hk; omega))
  clear hgrow
  rw [HN.out]
  go_wp2
  go_ret
  exact ⟨a', c', rfl, HR.out, HG.out⟩

theorem made_row (m : Nat) : madeCells #[.bool false] m = (List.replicate m (Value.bool false)).toArray := by
  apply Array.ext'
  apply List.ext_getElem?
  intro j
  unfold madeCells
  by_cases h : j < m
  · rw [List.getElem?_replicate, if_pos h]
    simp [h, Nat.mod_one]
  · rw [List.getElem?_replicate, if_neg h]
    simp [h]
theorem splice_given (m : Nat) (vals : List Bool) : splice (List.replicate m (Value.bool false)) 0 (boolCells (vals.take m)) = boolCells (givenP m vals) := by
  unfold splice
  rw [List.take_zero, List.nil_append, Nat.zero_add]
  apply List.ext_getElem?
  intro i
  have hl : (boolCells (vals.take m)).length = min m vals.length := by simp [boolCells]
  by_cases hi : i < m
  · rw [show (boolCells (givenP m vals))[i]? = some (Value.bool ((vals[i]?).getD false)) by rw [boolCells, List.getElem?_map, given_at hi]; rfl]
    by_cases hv : i < vals.length
    · rw [List.getElem?_append_left (by rw [hl]; omega), boolCells, List.getElem?_map, List.getElem?_take_of_lt hi, List.getElem?_eq_getElem hv]
      rfl
    · rw [List.getElem?_append_right (by rw [hl]; omega), List.getElem?_drop, List.getElem?_replicate, if_pos (by rw [hl]; omega), List.getElem?_eq_none (by omega : vals.length ≤ i)]
      rfl
  · rw [List.getElem?_eq_none (by rw [List.length_append, List.length_drop, hl, List.length_replicate]; omega), List.getElem?_eq_none (by rw [boolCells, List.length_map, given_len]; omega)]
theorem vals_cells {w : World} {a : Addr} {c : Nat} {vals : List Bool} (h : BoolsW w (some a) c vals) (m : Nat) : ∀ j v, (boolCells (vals.take m))[j]? = some v → w.cell? (a.add j) = some v := by
  intro j v hj
  rw [boolCells, List.getElem?_map] at hj
  cases hq : (vals.take m)[j]? with
  | none => rw [hq] at hj; simp at hj
  | some z =>
    rw [hq] at hj
    simp only [Option.map_some, Option.some.injEq] at hj
    have hz : vals[j]? = some z := by
      by_cases hjm : j < m
      · rw [← List.getElem?_take_of_lt hjm]; exact hq
      · rw [List.getElem?_take] at hq; rw [if_neg hjm] at hq; cases hq
    obtain ⟨b, o, e, hc⟩ := h.at hz
    cases e
    have hadd : (⟨b, o, none⟩ : Addr).add j = ⟨b, o + j, none⟩ := by unfold Addr.add; split <;> simp_all
    rw [hadd, ← hj]
    exact hc
theorem cell_bool_new (w : World) (z : Bool) (t : TypeId) : ∀ j u, [Value.bool z][j]? = some u → (w.alloc (.cells #[.bool z] t)).cell? ((⟨w.heap.size, 0, none⟩ : Addr).add j) = some u := by
  intro j u hj
  rcases j with _ | j
  · simp at hj; subst hj; rw [add_at]; exact (one_cell w _ t).2.1
  · simp at hj

theorem ext_no {gs : List Gt} {N gv : List Bool} {k : Nat} (h : N[k]? = some false) : extGo gs N gv (k + 1) = extGo gs N gv k := by
  show (if N[k]? = some true then _ else _) = _
  rw [if_neg (by rw [h]; simp)]
theorem ext_yes {gs : List Gt} {N gv : List Bool} {k : Nat} (h : N[k]? = some true) : extGo gs N gv (k + 1) = extGo gs N gv k ++ [evalC gs gv (2 * (k : Int))] := by
  show (if N[k]? = some true then _ else _) = _
  rw [if_pos h]
/-- The row that is being extended. -/
structure ExtR (W0 : World) (g bN S0 : Nat) (wr : World) (v : Value) (L : List Bool) : Prop where
  own : wr.ownsRow g 4 1 v L.length (boolCells L)
  grow : W0.grownBy wr none
  at_ : ∀ x, v.ownBlock = some x → x = g ∨ S0 ≤ x
  size : S0 ≤ wr.heap.size
theorem ExtR.step {W0 : World} {g bN S0 : Nat} {wr WA w3 : World} {v v' : Value} {L : List Bool} {z : Bool} (h : ExtR W0 g bN S0 wr v L) (hW : W0.heap.size ≤ g) (ha : wr.grownBy WA none) (hg : WA.grownBy w3 v.ownBlock)
    (hown : w3.ownsRow g 4 1 v' (L.length + 1) (boolCells L ++ [.bool z])) (hat : v'.ownBlock = v.ownBlock ∨ v'.ownBlock = some WA.heap.size) : ExtR W0 g bN S0 w3 v' (L ++ [z]) := by
  refine ⟨by rw [List.length_append, boolCells, List.map_append]; exact hown, grown_own (World.grownBy.trans h.grow ha) hg (fun k hk => Nat.le_trans hW (h.own.lt k hk).1), fun x hx => ?_, Nat.le_trans h.size (Nat.le_trans ha.size hg.size)⟩
  rcases hat with e | e
  · exact h.at_ x (by rw [← e]; exact hx)
  · rw [e] at hx; injection hx with hx; exact .inr (by have := h.size; have := ha.size; omega)

set_option maxRecDepth 100000 in
set_option maxHeartbeats 4000000 in
theorem extend_calls (gs : List Gt) (r : Int) (m : Nat) (vals : List Bool) (a : Option Addr) (c : Nat) (va : Option Addr) (vc : Nat) (w : World) (h : GatesW w a c gs) (hG : Good gs) (hv : BoolsW w va vc vals) (hl : gs.length ≤ 1000) (_hlv : vals.length ≤ 1000) (hr : Ok gs r) (hm : m ≤ 100) :
    Calls Tryd.prog 13 #[.agg #[.slice a gs.length c], .int .i64 r, .int .i64 (m : Int), .slice va vals.length vc] w fun e w' => ∃ a' c', e = .returned (.slice a' (extP gs r m vals).length c') ∧ BoolsW w' a' c' (extP gs r m vals) ∧ w.grownBy w' none := by
  obtain ⟨n, hn⟩ : ∃ n, gs.length = n := ⟨_, rfl⟩
  obtain ⟨nv, hnv⟩ : ∃ n, vals.length = n := ⟨_, rfl⟩
  have hg1 := World.grownBy_alloc w (.cells #[.slice a n c] 27) none
  have e1 := one_cell w (.slice a n c) 27
  obtain ⟨W1, hW1⟩ : ∃ W, w.alloc (.cells #[.slice a n c] 27) = W := ⟨_, rfl⟩
  rw [hW1] at hg1 e1
  have HQ := Lib.hid e1.2.1
  have HG := Lib.hid hg1
  have HA := Lib.hid (h.grown hg1)
  have HV := Lib.hid (hv.grown hg1)
  have HN := Lib.hid (And.intro hn hnv)
  have HGD := Lib.hid (And.intro hG hr)
  have HGB := Lib.hid (good_bounds hG (by omega))
  obtain ⟨N, hN⟩ : ∃ N, needL gs (r / 2).toNat = N := ⟨_, rfl⟩
  obtain ⟨gv, hgv⟩ : ∃ z, givenP m vals = z := ⟨_, rfl⟩
  have HE : Hid (extP gs r m vals = extGo gs N gv n) := Lib.hid (by unfold extP; rw [hN, hgv, hn])
  have HNN : Hid (N.length = n) := Lib.hid (by rw [← hN, (need_of hG (by have := hr.1; have := hr.2; omega)).len, hn])
  have HNE : Hid (∀ U, W1.grownBy U none → Calls Tryd.prog 31 #[.agg #[.slice a n c], .int .i64 r] U fun e w' => ∃ b, e = .returned (.slice (some ⟨b, 0, none⟩) n n) ∧ BArr w' b N ∧ U.heap.size ≤ b ∧ U.grownBy w' none) := Lib.hid (fun U hU => by
    have := needed_calls gs r a c U ((h.grown hg1).grown hU) hG hl hr
    rw [hn, hN] at this
    exact this)
  have HGV : Hid (gv.length = m ∧ splice (List.replicate m (Value.bool false)) 0 (boolCells (vals.take m)) = boolCells gv) := Lib.hid ⟨by rw [← hgv, given_len], by rw [← hgv]; exact splice_given m vals⟩
  rw [hn] at hl ⊢
  rw [hnv]
  rw [HE.out]
  clear h hg1 e1 hn hnv hG hv hr hN hgv HE
  obtain ⟨i0, hi0, hz0, hz1, hz2⟩ := info_parts info4
  have hmk0 := run_make (P := Tryd.prog) W1 23 4 i0 (.bool false) Tryd.underlying23 hi0 hz0 .i64 .i64 (m : Int) (m : Int) (by omega) (Int.le_refl _) (by rw [hz2]; omega) (by omega)
  rw [Int.toNat_natCast, hz1, Nat.mul_one, show (Value.bool false).cells = #[Value.bool false] from rfl, made_row] at hmk0
  have hgm := World.grownBy_alloc W1 (.cells (List.replicate m (Value.bool false)).toArray 4) none
  have hhg := heap_alloc_new W1 (.cells (List.replicate m (Value.bool false)).toArray 4)
  have hms : (W1.alloc (.cells (List.replicate m (Value.bool false)).toArray 4)).heap.size = W1.heap.size + 1 := by simp
  obtain ⟨W2, hW2⟩ : ∃ z, W1.alloc (.cells (List.replicate m (Value.bool false)).toArray 4) = z := ⟨_, rfl⟩
  rw [hW2] at hmk0 hgm hhg hms
  obtain ⟨g, hg⟩ : ∃ b, W1.heap.size = b := ⟨_, rfl⟩
  rw [hg] at hmk0 hhg hms
  have HGE := Lib.hid hg
  have HGM := Lib.hid (And.intro hgm (And.intro hhg hms))
  obtain ⟨cs, hcs⟩ : ∃ z, boolCells (vals.take m) = z := ⟨_, rfl⟩
  have HCS : Hid (cs.length = Nat.min nv m ∧ ∀ v ∈ cs, v.oneCell' = true) := Lib.hid ⟨by rw [← hcs]; simp [boolCells, HN.out.2, Nat.min_comm], fun v hv => by rw [← hcs] at hv; obtain ⟨x, _, rfl⟩ := List.mem_map.1 hv; rfl⟩
  have HCP : Hid (0 < cs.length → ∃ ad, va = some ad ∧ ∀ j v, cs[j]? = some v → W2.cell? (ad.add j) = some v) := Lib.hid (fun hp => by
    rcases hvv : va with _ | ad
    · have := HV.out.2
      rw [hvv] at this
      rcases this with h | ⟨b, o, e, _⟩
      · rw [← hcs, h] at hp; simp [boolCells] at hp
      · cases e
    · refine ⟨ad, rfl, ?_⟩
      rw [← hcs]
      exact vals_cells (by rw [← hvv]; exact HV.out.grown hgm) m)
  rw [hcs] at HGV
  have hmx : max (m : Int) 0 = (m : Int) := by omega
  clear hg hgm hhg hms hcs hW2
  go_enter Tryd.func13, Tryd.ntmps13
  go_upto_region 2 with fail
  go_wp2_with (refine wpList_copy_splice rfl _ _ 23 23 rfl 4 Tryd.underlying23 (by rw [hi0]; exact congrArg some hz1) (some ⟨g, 0, none⟩) va m m nv vc rfl rfl g 0 (List.replicate m (Value.bool false)) 4 HGM.out.2.1 cs HCS.out.1 (fun hp => ⟨rfl, HCP.out hp⟩) ?hfit HCS.out.2 g W2 (Below.refl _ _) (Nat.le_refl _) ?_)
  case hfit => rw [List.length_replicate, HCS.out.1]; exact (by rw [Nat.zero_add]; exact Nat.min_le_right _ _)
  intro w3 hr3 hb3
  have hg13 : W1.grownBy w3 none := ⟨hb3.os.trans HGM.out.1.os, hb3.tape.trans HGM.out.1.tape, hb3.output.trans HGM.out.1.output, Nat.le_trans HGM.out.1.size hb3.size, fun k hk _ => (hb3.block k (by rw [← HGE.out]; exact hk)).trans (HGM.out.1.block k hk (by simp))⟩
  rw [HGV.out.2] at hr3
  have hown3 : w3.ownsRow g 4 1 (.slice (some ⟨g, 0, none⟩) m m) m (boolCells gv) := ⟨by rw [boolCells, List.length_map, HGV.out.1, Nat.mul_one], .inr ⟨g, m, (boolCells gv).toArray, rfl, Nat.le_refl _, hr3.out, Nat.le_refl _, by unfold maxLen; omega, by rw [List.size_toArray, boolCells, List.length_map, HGV.out.1, Nat.mul_one], by rw [List.take_of_length_le (by simp [boolCells, HGV.out.1])]⟩⟩
  have hbw3 : BoolsW w3 (some ⟨g, 0, none⟩) m gv := by
    obtain ⟨a9, c9, e9, h9⟩ := bools_span (by rw [HGV.out.1]; exact hown3)
    cases e9
    exact h9.here
  have HG3 := Lib.hid hg13
  have HO3 := Lib.hid hown3
  have HCL := Lib.hid (cloneBools_calls gv ⟨g, 0, none⟩ m w3 hbw3 (by rw [HGV.out.1]; omega))
  rw [HGV.out.1] at HCL
  have q3 := hg13.cell HQ.out (by simp)
  have HS3 : Hid (g < w3.heap.size) := Lib.hid (by have := hb3.size; have := HGM.out.2.2; omega)
  clear hr3 hb3 hg13 hown3 hbw3 hmk0 hmx
  go_wp2_with fail
  refine HCL.out.mono ?_
  rintro e w4 ⟨a4, c4, rfl, hs4, hg4⟩
  have HS4 := Lib.hid hs4
  have HG4 := Lib.hid (World.grownBy.trans HG3.out hg4)
  have HO4 := Lib.hid (own_grown HO3.out hg4)
  have q4 := hg4.cell q3 (by simp)
  have HS4b : Hid (w3.heap.size ≤ w4.heap.size) := Lib.hid hg4.size
  clear hs4 hg4 q3 HCL
  go_wp2_with fail
  refine (HNE.out w4 HG4.out).mono ?_
  rintro e w5 ⟨bN, rfl, hN5, hbN, hg5⟩
  have HN5 := Lib.hid (And.intro hN5 hbN)
  have HG5 := Lib.hid (World.grownBy.trans HG4.out hg5)
  have HR5 : Hid (ExtR W1 g bN w5.heap.size w5 (.slice (some ⟨g, 0, none⟩) m m) gv) := Lib.hid ⟨by rw [HGV.out.1]; exact own_grown HO4.out hg5, World.grownBy.trans HG4.out hg5, fun x hx => .inl (by simp [Value.ownBlock] at hx; exact hx.symm), Nat.le_refl _⟩
  have HS5 := Lib.hid (HS4.out.grown hg5)
  have HP5 := Lib.hid (show g < w3.heap.size ∧ w3.heap.size ≤ bN ∧ bN < w5.heap.size from ⟨HS3.out, Nat.le_trans HS4b.out hbN, hN5.low⟩)
  obtain ⟨S0, hS0⟩ : ∃ z, w5.heap.size = z := ⟨_, rfl⟩
  rw [hS0] at HR5 HP5
  have HSZ := Lib.hid hS0
  clear hN5 hbN hg5 q4 hS0 HS4 HG4 HO4
  go_wp2_with fail
  go_loopg [9, 25] n (fun gk s9 s25 wr => ∃ (k : Nat) (L : List Bool) (av : Option Addr) (cv : Nat), s25 = .int .i64 (k : Int) ∧ s9 = .slice av L.length cv ∧ gk = n - k ∧ k ≤ n ∧ L = extGo gs N gv k ∧ L.length ≤ m + k ∧ ExtR W1 g bN S0 wr (.slice av L.length cv) L ∧ BArr wr bN N ∧ Span w3.heap.size w4.heap.size wr (fun W => BoolsW W a4 c4 gv))
  case atStart => exact ⟨0, gv, some ⟨g, 0, none⟩, m, rfl, by rw [HGV.out.1], rfl, Nat.zero_le _, rfl, by rw [HGV.out.1]; omega, by rw [HGV.out.1]; exact HR5.out, HN5.out.1, HS5.out⟩
  case round =>
    obtain ⟨k, L, av, cv, rfl, rfl, hgk, hk, hL, hLl, hR, hB, hS⟩ := hrel
    obtain ⟨wo, hwo⟩ : ∃ z, z = wr := ⟨_, rfl⟩
    rw [← hwo] at hR hB hS ⊢
    clear hwo
    have HI := Lib.hid (And.intro hgk (And.intro hL hLl))
    obtain ⟨p, hp⟩ : ∃ p, L.length = p := ⟨_, rfl⟩
    have HP := Lib.hid hp
    have HR := Lib.hid hR
    rw [hp] at HR
    rw [hp] at hLl ⊢
    have HB := Lib.hid hB
    have HS := Lib.hid hS
    clear hgk hL hR hB hS hp
    by_cases hkn : k < n
    · have hkB : decide (k < n) = true := by simpa using hkn
      have hkI : (k : Int) < (n : Int) := by omega
      obtain ⟨z, hz⟩ : ∃ z, N[k]? = some z := ⟨_, List.getElem?_eq_getElem (by rw [HNN.out]; exact hkn)⟩
      have c0 := HB.out.cells k z hz
      have HZ := Lib.hid hz; clear hz
      cases z with
      | false =>
        have HX : Hid (extGo gs N gv (k + 1) = L) := Lib.hid (by rw [HI.out.2.1]; exact ext_no HZ.out)
        go_wp2_with fail
        go_roundg (n - (k + 1))
        case measure => rw [HI.out.1]; omega
        case rel => exact ⟨k + 1, L, av, cv, rfl, by rw [HP.out], rfl, by omega, HX.out.symm, by rw [HP.out]; omega, by rw [HP.out]; exact HR.out, HB.out, HS.out⟩
      | true =>
        have hw2 : IntKind.i64.wrap (2 * (k : Int)) = 2 * (k : Int) := IntWalk.i64_in _ (by omega)
        have q6 := HR.out.grow.cell HQ.out (by simp)
        have HEV := Lib.hid (eval_calls gs gv (2 * (k : Int)) a c a4 c4 wo (HA.out.grown HR.out.grow) HS.out.here (by rw [HN.out.1]; exact hl) (by rw [HGV.out.1]; omega) HGB.out (by omega))
        rw [HN.out.1, HGV.out.1] at HEV
        have HX : Hid (extGo gs N gv (k + 1) = L ++ [evalC gs gv (2 * (k : Int))]) := Lib.hid (by rw [HI.out.2.1]; exact ext_yes HZ.out)
        go_wp2_with fail
        refine HEV.out.mono ?_
        rintro e w6 ⟨rfl, hg6⟩
        obtain ⟨y, hy⟩ : ∃ y, evalC gs gv (2 * (k : Int)) = y := ⟨_, rfl⟩
        rw [hy] at HX ⊢
        have HG6 := Lib.hid hg6
        have HO6 := Lib.hid (own_grown HR.out.own hg6)
        rw [HP.out] at HO6
        have hnew := cell_bool_new w6 y 4
        have HSZ6 : Hid (g ≤ w6.heap.size) := Lib.hid (by have := HR.out.size; have := hg6.size; have := HP5.out; omega)
        obtain ⟨Lc, hLc⟩ : ∃ z, boolCells L = z := ⟨_, rfl⟩
        rw [hLc] at HO6
        have HLC := Lib.hid hLc
        clear hy hg6 q6 c0 hw2 HEV hLc
        go_wp2_with (at_builtin; refine wpList_append_own_at _ rfl _ _ 23 rfl g 4 i0 (.bool false) 1 1 Tryd.underlying23 hi0 hz0 hz1 hz2 rfl (by decide) _ p Lc rfl (HO6.out.alloc _) ⟨w6.heap.size, 0, none⟩ 1 1 [.bool y] rfl rfl hnew (fun u hu => by simp at hu; subst hu; rfl) (by unfold maxLen; omega) (by omega) (by have := HSZ6.out; simp; omega) ?_)
        intro v' w7 hown' hgrow7 _ hat7
        obtain ⟨rgA, rcA, rfl⟩ := own_shape hown'
        have HST := Lib.hid (HR.out.step (Nat.le_of_eq HGE.out) (World.grownBy.trans HG6.out (World.grownBy_alloc w6 (.cells #[.bool y] 4) none)) hgrow7 (by rw [HP.out, HLC.out]; exact hown') (by rw [show (w6.alloc (.cells #[.bool y] 4)).heap.size = w6.heap.size + 1 by simp]; exact hat7))
        have HB7 : Hid (BArr w7 bN N) := Lib.hid ((HB.out.grown (World.grownBy.trans HG6.out (World.grownBy_alloc w6 (.cells #[.bool y] 4) none)) (by simp)).grown hgrow7 (fun e => by have := HR.out.at_ bN e.symm; have := HP5.out; omega))
        have HS7 : Hid (Span w3.heap.size w4.heap.size w7 (fun W => BoolsW W a4 c4 gv)) := Lib.hid (((HS.out.grown (World.grownBy.trans HG6.out (World.grownBy_alloc w6 (.cells #[.bool y] 4) none)))).off hgrow7 (fun x e => by have := HR.out.at_ x e; have := HP5.out; have := HS5.out.1; have := HSZ.out; omega))
        clear hown' hgrow7 hat7 hnew
        go_wp2_with fail
        go_roundg (n - (k + 1))
        case measure => rw [HI.out.1]; omega
        case rel => exact ⟨k + 1, L ++ [y], rgA, rcA, rfl, by rw [List.length_append, HP.out]; rfl, rfl, by omega, HX.out.symm, by rw [List.length_append, HP.out]; simp; omega, by rw [List.length_append, HP.out]; exact HST.out, HB7.out, HS7.out⟩
    · have hie : k = n := by omega
      subst hie
      have hkB : decide (k < k) = false := by simp
      have HBW : Hid (BoolsW wo av cv (extGo gs N gv k)) := Lib.hid (by
        obtain ⟨a9, c9, e9, h9⟩ := bools_span HR.out.own
        rw [HP.out] at e9
        cases e9
        rw [← HI.out.2.1]
        exact h9.here)
      go_wp2_with fail
      go_ret
      exact ⟨av, cv, by rw [← HI.out.2.1, HP.out]; rfl, HBW.out, World.grownBy.trans HG.out HR.out.grow⟩
end Go.Proofs.YthkjjiijjedipaaDoor

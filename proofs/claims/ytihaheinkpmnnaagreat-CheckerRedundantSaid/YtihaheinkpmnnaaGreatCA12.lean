/- Texts of the proof: W2. -/
import Derived.Test.YtihaheinkpmnnaaGreatCA11
import Derived.RangeFuncCalls
namespace Go.Proofs.YtihaheinkpmnnaaGreat
set_option maxRecDepth 200000
open Go.RowKit
attribute [local go_sem] Oper.semAt_some
set_option maxHeartbeats 16000000 in
set_option maxRecDepth 100000 in
theorem propagated_calls (V : Nat) (C : List (List Int)) (ca : Option Addr) (cc : Nat) (A : List Int) (aa : Option Addr) (ac : Nat) (w : World) (h : ClsW w ca cc C) (hV : V ≤ 400) (hC : C.length ≤ 1000) (hL : ∀ c ∈ C, c.length ≤ 100) (hR : Ran V C)
    (hA : IntsW w aa ac A) (hAl : A.length ≤ 10000) (hAr : ∀ x ∈ A, InR V x) :
    Calls Tryz.prog 91 #[.agg #[.int .i64 (V : Int), .slice ca C.length cc], .slice aa A.length ac] w fun e w' => ∃ p, e = .returned (.pointer (some ⟨p, 0, none⟩)) ∧
      PropR w.heap.size w' p ca C.length cc (propP V C A).1 (propP V C A).2.2.1 ((propP V C A).2.1 : Int) (propP V C A).2.2.2 ∧ w.grownBy w' none := by
  obtain ⟨cn, hcn⟩ : ∃ n, C.length = n := ⟨_, rfl⟩
  obtain ⟨an, han⟩ : ∃ n, A.length = n := ⟨_, rfl⟩
  obtain ⟨bf, hbf⟩ : ∃ z, w.heap.size = z := ⟨_, rfl⟩
  have HH := Lib.hid (And.intro h (And.intro hC (And.intro hL (And.intro hR hcn))))
  have HA := Lib.hid (And.intro hA (And.intro hAl (And.intro hAr han)))
  obtain ⟨W1, hW1⟩ : ∃ z, w.alloc (.cells #[.int .i64 (V : Int), .slice ca cn cc] 24) = z := ⟨_, rfl⟩
  obtain ⟨W2, hW2⟩ : ∃ z, W1.alloc (.cells #[.pointer none] 114) = z := ⟨_, rfl⟩
  obtain ⟨s2, q0, q1, q2, q3, hg2⟩ := boxes34 w (.int .i64 (V : Int)) (.slice ca cn cc) (W := W2) (by rw [hW1, hW2])
  have s1 : W1.heap.size = bf + 1 := by rw [← hW1, ← hbf]; simp
  have HG2 := Lib.hid hg2
  have HB := Lib.hid (And.intro s2 hbf)
  rw [hcn, han]
  rw [hbf] at q0 q1 q2 q3
  clear h hC hL hR hA hAl hAr hg2 hcn han s2
  have hmf : ∀ (fn : Fn) (first cap : Array Value) (w : World), (Instr.makeFunc fn first cap).run Tryz.prog w = .ok (.func fn first cap) w := fun _ _ _ _ => rfl
  have HCO : Hid (Calls Tryz.prog 89 #[.slice aa an ac] W2 fun e w' => e = .returned (.bool (contraP A)) ∧ W2.grownBy w' none) := Lib.hid (by
    have := contradict_calls A aa ac W2 (HA.out.1.grown HG2.out) HA.out.2.1 (fun x hx => by obtain ⟨a1, a2, a3⟩ := HA.out.2.2.1 x hx; exact ⟨a1, by omega, by omega⟩)
    rwa [HA.out.2.2.2] at this)
  refine callsIn_wide (n := 3) |>.1 ?_
  refine callsIn_of_wp_marks Tryz.func91 rfl trivial ?_ rfl
  simp only [Tryz.ntmps91, List.size_toArray, List.length_cons, List.length_nil, Nat.reduceAdd, Nat.reduceSub, Array.replicate_succ, Array.replicate_zero, List.push_toArray, List.append_toArray, List.nil_append, List.cons_append]
  gi_wp2_with fail
  refine ⟨trivial, (callsIn_wide.2 HCO.out).mono ?_⟩
  rintro e w3 ⟨rfl, hg3⟩
  have HG3 := Lib.hid hg3
  have c0 := hg3.cell q0 (by simp)
  have c1 := hg3.cell q1 (by simp)
  have c2 := hg3.cell q2 (by simp)
  have c3 : w3.frozen? ⟨bf + 1, 0, none⟩ = false := (grown_frozen hg3 (lies_lt q2) 0).trans q3
  have hsz : bf + 2 ≤ w3.heap.size := by have := lies_lt c2; simp only at this; omega
  clear hg3 q0 q1 q2 q3 hW1 hW2
  obtain ⟨cb, hcb⟩ : ∃ z, contraP A = z := ⟨_, rfl⟩
  rw [hcb]
  have HCB := Lib.hid hcb
  clear hcb
  cases cb with
  | true =>
    obtain ⟨W4, hW4⟩ : ∃ z, w3.alloc (.cells #[.int .i64 0, .slice none 0 0, .slice none 0 0, .int .i64 0, .slice none 0 0, .int .i64 (-2), .slice none 0 0, .slice none 0 0, .slice none 0 0, .slice none 0 0, .slice none 0 0, .slice none 0 0] 113) = z := ⟨_, rfl⟩
    have hg4 : w3.grownBy W4 none := by rw [← hW4]; exact World.grownBy_alloc w3 _ none
    have c4 := hg4.cell c2 (by simp)
    have f4 : W4.frozen? ⟨bf + 1, 0, none⟩ = false := (grown_frozen hg4 (lies_lt c2) 0).trans c3
    gi_wp2_with fail
    have hpr := contra34 w3 (bf + 1) (by omega) hW4 (.pointer (some ⟨w3.heap.size, 0, none⟩)) ca cn cc (B := w.heap.size) (by omega)
    refine leave34 rfl (World.cell?_setCell_same _ _ _ c4) ⟨_, rfl, by rw [propP_contra HCB.out]; exact hpr, ?_⟩
    exact grown_own (World.grownBy.trans HG2.out (World.grownBy.trans HG3.out hg4)) (grown_set _ _ _ _) (fun k e => by have := Option.some.inj e; omega)
  | false =>
    have HNEW := Lib.hid (new_calls V C ca cc w3 (HH.out.1.grown (World.grownBy.trans HG2.out HG3.out)) hV HH.out.2.1 HH.out.2.2.1 HH.out.2.2.2.1)
    rw [HH.out.2.2.2.2] at HNEW
    gi_wp2_with fail
    refine ⟨trivial, (callsIn_wide.2 HNEW.out).mono ?_⟩
    rintro e w4 ⟨KK, R0, rfl, hps, hg4, hsB, hKV, hKa, hKn, hKc, hR1⟩
    clear HNEW HCO
    have c4 := hg4.cell c2 (by simp)
    have f4 := (grown_frozen hg4 (lies_lt c2) 0).trans c3
    have htb : bf + 1 < KK.B := by omega
    have hwB : w.heap.size ≤ KK.B := by omega
    have hg5 := grown_set w4 (bf + 1) 0 (.pointer (some ⟨KK.p, 0, none⟩))
    have hBX : Hid (Bx w KK (bf + 1) (w4.setCell ⟨bf + 1, 0, none⟩ (.pointer (some ⟨KK.p, 0, none⟩)))) := Lib.hid ⟨World.cell?_setCell_same _ _ _ c4, grown_own (World.grownBy.trans HG2.out (World.grownBy.trans HG3.out hg4)) hg5 (fun k e => by have := Option.some.inj e; omega), by go_simp⟩
    have hPS : Hid (PS KK C (w4.setCell ⟨bf + 1, 0, none⟩ (.pointer (some ⟨KK.p, 0, none⟩))) [] 0 (-1) R0) := Lib.hid { hps with pw := hps.pw.kept fun k hk => Below.heap_setCell _ _ _ _ (fun (e : k = bf + 1) => by have := (hps.pw.below k hk).1; omega) }
    have HK := Lib.hid (And.intro hKV (And.intro hKa (And.intro hKn (And.intro hKc (And.intro htb (And.intro hwB hR1))))))
    clear hg5 hg4 hps hsB hKV hKa hKn hKc hR1 htb hwB c0 c1 c2 c3 hsz s1
    gi_wp2_with fail
    obtain ⟨W5, hW5⟩ : ∃ z, w4.setCell ⟨bf + 1, 0, none⟩ (.pointer (some ⟨KK.p, 0, none⟩)) = z := ⟨_, rfl⟩
    rw [hW5] at hBX hPS ⊢
    clear c4 f4 hW5
    gi_loopg [6, 18] an (fun gk _s6 s18 wr => ∃ (k : Nat) (R : Nat → Rw), s18 = .int .i64 (k : Int) ∧ gk = an - k ∧ k ≤ an ∧ PS KK C wr (uq (A.take k)) 0 (-1) R ∧ (R 1).l = [] ∧ Bx w KK (bf + 1) wr)
    case atStart => exact ⟨0, R0, rfl, rfl, by omega, hPS.out, HK.out.2.2.2.2.2.2, hBX.out⟩
    case round =>
      obtain ⟨k, R, rfl, hgk, hk, hps, hr1, hbx⟩ := hrel
      have HI := Lib.hid (And.intro hgk (And.intro hps (And.intro hr1 hbx)))
      have c0 := hbx.1
      clear hgk hps hr1 hbx
      have hL2 : ∀ c ∈ C, c.length ≤ 1000 := fun c hc => Nat.le_trans (HH.out.2.2.1 c hc) (by omega)
      have HL2 := Lib.hid hL2
      clear hL2
      by_cases hkn : k < an
      · have f1 : decide ((k : Int) < (an : Int)) = true := decide_eq_true (by omega)
        have f1' : decide (k < an) = true := decide_eq_true hkn
        have i0 : (0 : Int) ≤ (k : Int) := by omega
        have i1 : (k : Int) < (an : Int) := by omega
        have k1 : IntKind.i64.wrap ((k : Int) + 1) = (k : Int) + 1 := IntWalk.i64_in _ (by have h1 := HA.out.2.1; rw [HA.out.2.2.2] at h1; omega)
        obtain ⟨x, hx⟩ : ∃ x, A[k]? = some x := ⟨_, List.getElem?_eq_getElem (by rw [HA.out.2.2.2]; exact hkn)⟩
        have hxm : x ∈ A := List.mem_of_getElem? hx
        have hxr := HA.out.2.2.1 x hxm
        obtain ⟨b, o, hb0, hcell⟩ := (HA.out.1.grown HI.out.2.2.2.2.1).at hx
        subst hb0
        have hxr' : InR KK.V x := by rw [HK.out.1]; exact hxr
        have HV := Lib.hid (value_calls HI.out.2.1.pw HI.out.2.1.cons (by rw [HK.out.1]; omega) hxr')
        have hu := und_val (tr := uq (A.take k)) (x := x)
        have htake : A.take (k + 1) = A.take k ++ [x] := by
          have h1 := List.getElem?_eq_some_iff.1 hx
          obtain ⟨hlt, e⟩ := h1
          rw [List.take_succ_eq_append_getElem hlt, e]
        have hneg : -x ∉ A := contra_false HCB.out x hxm
        have hiff : und (uq (A.take k)) x = !decide (x ∈ uq (A.take k)) := by
          rw [Bool.eq_iff_iff, und_iff]
          simp only [Bool.not_eq_true', decide_eq_false_iff_not]
          exact ⟨fun h => h.1, fun h => ⟨h, fun hm => hneg (List.mem_of_mem_take ((mem_uq _ _).1 hm))⟩⟩
        have hnext : uq (A.take (k + 1)) = if und (uq (A.take k)) x = true then uq (A.take k) ++ [x] else uq (A.take k) := by
          rw [htake, uq_snoc, hiff]
          by_cases hm : x ∈ uq (A.take k) <;> simp [hm]
        obtain ⟨d, hd⟩ : ∃ d, und (uq (A.take k)) x = d := ⟨_, rfl⟩
        rw [hd] at hu hnext
        have HX := Lib.hid (And.intro hxr' (And.intro hd hnext))
        clear hx hxm hxr hxr' htake hneg hiff hnext hd
        gi_wp2_with fail
        refine ⟨trivial, (callsIn_wide.2 HV.out).mono ?_⟩
        rintro e w6 ⟨rfl, rfl⟩
        clear HV
        cases d with
        | true =>
          have HAS := Lib.hid (assign_calls HI.out.2.1 (by rw [HK.out.1]; exact hV) HH.out.2.1 HL2.out x (fun r hr => by cases hr) HX.out.1 HX.out.2.1)
          gi_wp2_with fail
          refine ⟨trivial, (callsIn_wide.2 HAS.out).mono ?_⟩
          rintro e w7 ⟨rfl, R', hps', hr1', hoff, _⟩
          have HN := Lib.hid (And.intro hps' (And.intro (show (R' 1).l = [] by rw [hr1']; exact HI.out.2.2.1) (HI.out.2.2.2.own HK.out.2.2.2.2.1 HK.out.2.2.2.2.2.1 HI.out.2.1.pw hoff)))
          clear hps' hr1' hoff HAS hcell
          gi_wp2_with fail
          gi_roundg (an - (k + 1))
          case measure => rw [HI.out.1]; omega
          case rel => exact ⟨k + 1, R', rfl, rfl, by omega, by rw [HX.out.2.2]; exact HN.out.1, HN.out.2.1, HN.out.2.2⟩
        | false =>
          gi_wp2_with fail
          gi_roundg (an - (k + 1))
          case measure => rw [HI.out.1]; omega
          case rel => exact ⟨k + 1, R, rfl, rfl, by omega, by rw [HX.out.2.2]; exact HI.out.2.1, HI.out.2.2.1, HI.out.2.2.2⟩
      · have hke : k = an := by omega
        subst hke
        have f1 : decide (k < k) = false := by simp
        have HP : Hid (PS KK C wr (uq A) 0 (-1) R) := Lib.hid (by have h1 := HI.out.2.1; have h2 := HA.out.2.2.2; rwa [← h2, List.take_length] at h1)
        gi_wp2_with fail
        obtain ⟨m, hm⟩ : ∃ m, (uq A).length = m := ⟨_, rfl⟩
        have q2 := HP.out.pw.f2
        rw [Rw.val, HP.out.t, hm] at q2
        have q3 := HP.out.pw.f3
        have g3 := HP.out.pw.fr 3
        have HM := Lib.hid hm
        clear hm
        refine wpIn_wide.2 ?_
        go_cut [] from 30 to 38 (fun wx => PW KK wx (valsP KK.V (uq A)) (m : Int) (-1) R ∧ Bx w KK (bf + 1) wx)
        case first =>
          go_region
          all_goals go_wp2_with fail
          all_goals go_meet
          exact ⟨(HP.out.pw.setAs _).drew, HI.out.2.2.2.own HK.out.2.2.2.2.1 HK.out.2.2.2.2.2.1 HP.out.pw (Off.of (World.grownBy.trans (grown_set wr KK.p 3 (.int .i64 (m : Int))) (grown_drew _ _)) (fun k e => .inl (Option.some.inj e).symm))⟩
        case rest =>
          obtain ⟨hpw, hbx⟩ := hcut
          have hps : PS KK C wc (uq A) (m : Int) (-1) R := { HP.out with pw := hpw }
          have HPS := Lib.hid hps
          have HBX := Lib.hid hbx
          have HR1 := Lib.hid HI.out.2.2.1
          have c1 := hbx.1
          obtain ⟨RES, hRES⟩ : ∃ z, prop C (V + 1) (uq A) [] = z := ⟨_, rfl⟩
          have HRES := Lib.hid hRES
          have HPP : Hid (propP V C A = (RES.1, m, RES.2.1, RES.2.2)) := Lib.hid (by unfold propP; rw [HCB.out, if_neg (by simp), hRES, HM.out])
          have HRL : Hid (RES.2.1.length ≤ V + 1) := Lib.hid (by rw [← hRES]; have := (prop_ge C (V + 1) (uq A) []).2; simpa using this)
          have hlt := lies_lt c1
          clear hps hpw hbx q2 q3 g3 c0 HP HI hPS hBX hRES f1 hk hkn
          gi_wp2_with fail
          refine rangeN (n := 3) (vals := ciV) (gf := 108) (la := #[.pointer (some ⟨KK.p, 0, none⟩)]) (lb := #[]) rfl (by omega) rfl trivial (enters_of Tryz.func108 (by kernel_rfl) rfl) (fun _ => rfl) (B := KK.B) (J := JC KK C (m : Int) RES (Bx w KK (bf + 1)) []) (A := JA KK C (m : Int) RES (Bx w KK (bf + 1))) (Z := JZ KK C (m : Int) RES (Bx w KK (bf + 1))) (μ := fun b => b.2.2)
            (fun W _ => cand_gives (fun W W' hb hk => hb.kp HK.out.2.2.2.2.1 HK.out.2.2.2.2.2.1 hk) (by rw [HK.out.1]; exact hV) HH.out.2.1 W)
            (fun s W W' row hs hg hr => hs.from_ (by have := HBX.out.2.1.size; omega) hlt hg hr)
            (fun s W W' row hs hg hr => ⟨hs.1.from_ (by have := HBX.out.2.1.size; omega) hlt hg hr, hs.2⟩)
            (fun s W W' row hs hg hr => ⟨hs.1.from_ (by have := HBX.out.2.1.size; omega) hlt hg hr, hs.2⟩)
            (fun id W => id = 2 ∧ Fin34 w KK (bf + 1) (m : Int) RES W)
            (fun s W W' row hs hg hr => ⟨hs.1, hs.2.from_ (by have := HBX.out.2.1.size; omega) hlt hg hr⟩)
            (b0 := (uq A, [], V + 1)) ⟨⟨R, HPS.out, HR1.out⟩, HRES.out, by have := free_le KK.V (uq A); have := HK.out.1; simp only; omega, HBX.out⟩ ?round ?done ?stop
          case round =>
            intro l b i W hF
            obtain ⟨tr, rs, n⟩ := b
            have HF := Lib.hid hF
            clear hF
            simp only [ciV]
            gi_wp2
            refine ⟨trivial, fun W2 hF2 => ?_⟩
            obtain ⟨⟨⟨R9, hps2, hrs2⟩, hrun2, hfu2, hbx2⟩, hix2⟩ := hF2
            simp only at hps2 hrs2 hrun2 hfu2 hix2
            obtain ⟨hiC, hLm, hhot⟩ := findIdx_some hix2
            obtain ⟨L, hLe⟩ : ∃ L, C.getD i [] = L := ⟨_, rfl⟩
            rw [hLe] at hLm hhot
            have hCi : C[i]? = some L := by rw [← hLe, List.getD_eq_getElem?_getD, List.getElem?_eq_getElem hiC]; rfl
            obtain ⟨bc, oc, a', c', hca, hcellw, hintsw⟩ := HH.out.1.at hCi
            obtain ⟨n1, hn1⟩ : ∃ z, L.length = z := ⟨_, rfl⟩
            have hKV : KK.V ≤ 400 := by rw [HK.out.1]; exact hV
            have HIF := Lib.hid (indexF_calls hps2.pw hps2.cons (by omega) hbx2.1 (hintsw.grown hbx2.2.1) (fun y hy => by rw [HK.out.1]; exact HH.out.2.2.2.1 L hLm y hy) (by have := HH.out.2.2.1 L hLm; omega))
            obtain ⟨fi, hfi⟩ : ∃ z, L.findIdx? (und tr) = z := ⟨_, rfl⟩
            rw [hn1] at HIF hcellw
            rw [hfi] at HIF
            have hcell := hbx2.2.1.cell hcellw (by simp)
            have q1 := hps2.pw.f1
            rw [HK.out.2.1, HK.out.2.2.1, hca] at q1
            have e1 := hbx2.1
            have e2 := hbx2.2.2
            have j0 : (0 : Int) ≤ (i : Int) := by omega
            have j1 : (i : Int) < (cn : Int) := by have := HH.out.2.2.2.2; omega
            have H2 := Lib.hid (And.intro hps2 (And.intro hrs2 (And.intro hrun2 (And.intro hfu2 (And.intro hbx2 hix2)))))
            have HLL := Lib.hid (And.intro hLe (And.intro hLm (And.intro hfi (And.intro hn1 (And.intro hintsw (And.intro hcellw hca))))))
            clear hps2 hrs2 hrun2 hfu2 hbx2 hix2 hLe hLm hhot hCi hca hintsw hcellw hfi hn1 hiC
            gi_wp2_with fail
            refine ⟨trivial, (CallsIn.inRound l (callsIn_wide.2 HIF.out)).mono ?_⟩
            rintro e w9 ⟨rfl, hw9⟩
            rw [hw9]
            clear hw9 w9 HIF
            cases fi with
            | none =>
              have hr : RES = (tr, rs, (i : Int)) := by rw [← H2.out.2.2.1]; exact prop_stop (by have := H2.out.2.2.2.1; omega) H2.out.2.2.2.2.2 (by rw [HLL.out.1]; exact find_no_ix HLL.out.2.2.1)
              have HR := Lib.hid hr
              have q5 := H2.out.1.pw.f5
              have g5 := H2.out.1.pw.fr 5
              have d1 : decide (ixOf none < 0) = true := rfl
              clear hr q1 hcell
              gi_wp2_with fail
              have hpwk := H2.out.1.pw.setKf (i : Int)
              have ho := Off.of (M := PM KK R9) (grown_set W2 KK.p 5 (.int .i64 (i : Int))) (fun k e => .inl (Option.some.inj e).symm)
              exact ⟨ho.keeps (fun k o hk ho' => (H2.out.1.pw.below k hk).2.2 o ho'), rfl, R9, _, by rw [HR.out]; exact hpwk, by rw [HR.out]; exact H2.out.1.t, by rw [HR.out]; exact H2.out.2.1, H2.out.2.2.2.2.1.own HK.out.2.2.2.2.1 HK.out.2.2.2.2.2.1 H2.out.1.pw ho⟩
            | some j =>
              obtain ⟨x, hxj, hfx, hux⟩ := find_of_ix HLL.out.2.2.1
              have hjn : j < n1 := by rw [← HLL.out.2.2.2.1]; exact (List.getElem?_eq_some_iff.1 hxj).1
              obtain ⟨bx, ox, hax, hxw⟩ := HLL.out.2.2.2.2.1.at hxj
              subst hax
              obtain ⟨n0, rfl⟩ : ∃ z, n = z + 1 := ⟨n - 1, by have := H2.out.2.2.2.1; omega⟩
              have hxL : x ∈ L := List.mem_of_getElem? hxj
              have hxr : InR KK.V x := by rw [HK.out.1]; exact HH.out.2.2.2.1 L HLL.out.2.1 x hxL
              have hrun : prop C n0 (tr ++ [x]) (rs ++ [(i : Int)]) = RES := by rw [← H2.out.2.2.1]; exact (prop_go H2.out.2.2.2.2.2 (by rw [HLL.out.1]; exact hfx)).symm
              have HRUN := Lib.hid (And.intro hrun (And.intro hxr (And.intro hux (And.intro hxL (show free KK.V (tr ++ [x]) < n0 from by have := H2.out.2.2.2.1; have := free_snoc hxr hux; omega)))))
              have d1 : decide ((j : Int) < 0) = false := decide_eq_false (by omega)
              obtain ⟨i0, hi0, hz0, hz1, hz2⟩ := info_parts info3
              obtain ⟨hl9, hhl9⟩ : ∃ z, (R9 1).l.length = z := ⟨_, rfl⟩
              have HN9 := Lib.hid hhl9
              have HLEN : Hid (hl9 ≤ 1000000) := Lib.hid (by have h1 := (prop_ge C (n0 + 1) tr rs).1; rw [H2.out.2.2.1] at h1; have h2 := HRL.out; rw [← hhl9, H2.out.2.1]; omega)
              have HPW9 := Lib.hid H2.out.1.pw
              have HVAL : Hid ((R9 1).val = .slice (R9 1).a hl9 (R9 1).c) := Lib.hid (by rw [Rw.val, hhl9])
              have HOW9 : Hid (W2.ownsRow KK.B 3 1 (.slice (R9 1).a hl9 (R9 1).c) hl9 (intCells (R9 1).l)) := Lib.hid (by have h := HPW9.out.rows 1 (by omega); unfold IRow at h; rwa [hhl9] at h)
              have HT0 := Lib.hid e1
              have hpb := HPW9.out.below KK.p (.inl rfl)
              have HBS : Hid (KK.B ≤ W2.heap.size) := Lib.hid (by omega)
              have HPL : Hid (KK.p < W2.heap.size) := Lib.hid hpb.2.1
              have hbk : (R9 1).blk = (Value.slice (R9 1).a hl9 (R9 1).c).ownBlock := by unfold Rw.blk; rw [HVAL.out]
              have HTM : Hid (¬ PM KK R9 (bf + 1)) := Lib.hid (fun e => by have := (HPW9.out.below _ e).1; have := HK.out.2.2.2.2.1; omega)
              have HNT : Hid (some (bf + 1) ≠ (Value.slice (R9 1).a hl9 (R9 1).c).ownBlock) := Lib.hid (fun e => HTM.out (.inr (.inr ⟨1, by omega, by rw [hbk]; exact e.symm⟩)))
              have HNP : Hid (some KK.p ≠ (Value.slice (R9 1).a hl9 (R9 1).c).ownBlock) := Lib.hid (fun e => HPW9.out.offp 1 (by omega) (by rw [hbk]; exact e.symm))
              have HSA : Hid (∀ Wh : World, Wh.cell? ⟨bf + 1, 0, none⟩ = some (.pointer (some ⟨KK.p, 0, none⟩)) → (fun Wh : World => Wh.cell? ⟨bf + 1, 0, none⟩ = some (.pointer (some ⟨KK.p, 0, none⟩))) Wh) := Lib.hid (fun Wh h => h)
              have HSB : Hid (∀ Wh : World, (Bx w KK (bf + 1) Wh ∧ Wh.cell? ⟨KK.p, 1, none⟩ = some (.slice (some ⟨bc, oc, none⟩) cn KK.cc)) → (fun Wh : World => Wh.cell? ⟨bf + 1, 0, none⟩ = some (.pointer (some ⟨KK.p, 0, none⟩)) ∧ Wh.cell? ⟨KK.p, 1, none⟩ = some (.slice (some ⟨bc, oc, none⟩) cn KK.cc) ∧ Wh.cell? ⟨bc, oc + i, none⟩ = some (.slice (some ⟨bx, ox, none⟩) n1 c') ∧ Wh.cell? ⟨bx, ox + j, none⟩ = some (.int .i64 x)) Wh) := Lib.hid (fun Wh h => ⟨h.1.1, h.2, h.1.2.1.cell HLL.out.2.2.2.2.2.1 (by simp), h.1.2.1.cell hxw (by simp)⟩)
              have HQ1 : Hid (KK.ca = some ⟨bc, oc, none⟩ ∧ KK.cn = cn) := Lib.hid ⟨by rw [HK.out.2.1]; exact HLL.out.2.2.2.2.2.2, HK.out.2.2.1⟩
              have jn : (j : Int) < (n1 : Int) := by omega
              have jz : (0 : Int) ≤ (j : Int) := by omega
              clear hhl9 hpb hbk hrun hxr hux hxL hfx hxj hxw q1 hcell
              simp only [show ixOf (some j) = (j : Int) from rfl]
              gi_wp2_with fail
              clear e1 e2
              have hdr := (show (W2.drew).cell? _ = _ from HT0.out)
              refine wpIn_region_held_round (S := (fun Wh : World => Wh.cell? ⟨bf + 1, 0, none⟩ = some (.pointer (some ⟨KK.p, 0, none⟩)))) (by kernel_rfl) (by kernel_rfl) (by rintro ⟨_, _, h⟩; exact h) (HSA.out _ hdr) (fun hHeld => ?_)
              refine wpAnyH_take (i := 0) (oi := { dst := some 57, op := Op.load 114 (Operand.tmp 4), type := 114, pos := "propagator.go:74", after := #[], guard := none }) (v := ?_) rfl (by kernel_rfl) (by kernel_rfl) (by kernel_rfl) (fun _ _ _ h => h) (Or.inl ⟨by rfl, ?_⟩) (by assumption) ?_
              rotate_left 1
              · (intro W hSW; (try dsimp only at hSW); first | (go_simp; done) | (go_simp; with_reducible rfl))
              try simp only [Act.put, List.setIfInBounds_toArray, List.set_cons_zero, List.set_cons_succ]
              refine wpAnyH_take (i := 1) (oi := { dst := some 58, op := Op.load 114 (Operand.tmp 4), type := 114, pos := "propagator.go:74", after := #[], guard := none }) (v := ?_) rfl (by kernel_rfl) (by kernel_rfl) (by kernel_rfl) (fun _ _ _ h => h) (Or.inl ⟨by rfl, ?_⟩) (by assumption) ?_
              rotate_left 1
              · (intro W hSW; (try dsimp only at hSW); first | (go_simp; done) | (go_simp; with_reducible rfl))
              try simp only [Act.put, List.setIfInBounds_toArray, List.set_cons_zero, List.set_cons_succ]
              refine wpAnyH_take (i := 2) (oi := { dst := some 59, op := Op.nilCheck (Operand.tmp 58), type := 0, pos := "propagator.go:74", after := #[{ on := 1, ground := Ground.data }], guard := none }) (v := ?_) rfl (by kernel_rfl) (by kernel_rfl) (by kernel_rfl) (fun _ _ _ h => h) (Or.inl ⟨by rfl, ?_⟩) (by assumption) ?_
              rotate_left 1
              · (intro W hSW; (try dsimp only at hSW); first | (go_simp; done) | (go_simp; with_reducible rfl))
              try simp only [Act.put, List.setIfInBounds_toArray, List.set_cons_zero, List.set_cons_succ]
              refine wpAnyH_take (i := 3) (oi := { dst := some 60, op := Op.fieldAddr 113 (Operand.tmp 59) 3, type := 0, pos := "propagator.go:74", after := #[{ on := 2, ground := Ground.data }], guard := none }) (v := ?_) rfl (by kernel_rfl) (by kernel_rfl) (by kernel_rfl) (fun _ _ _ h => h) (Or.inl ⟨by rfl, ?_⟩) (by assumption) ?_
              rotate_left 1
              · (intro W hSW; (try dsimp only at hSW); first | (go_simp; done) | (go_simp; with_reducible rfl))
              try simp only [Act.put, List.setIfInBounds_toArray, List.set_cons_zero, List.set_cons_succ]
              refine wpAnyH_take (i := 5) (oi := { dst := some 62, op := Op.move (Operand.tmp 7), type := 3, pos := "propagator.go:74", after := #[], guard := none }) (v := ?_) rfl (by kernel_rfl) (by kernel_rfl) (by kernel_rfl) (fun _ _ _ h => h) (Or.inl ⟨by rfl, ?_⟩) (by assumption) ?_
              rotate_left 1
              · (intro W hSW; (try dsimp only at hSW); first | (go_simp; done) | (go_simp; with_reducible rfl))
              try simp only [Act.put, List.setIfInBounds_toArray, List.set_cons_zero, List.set_cons_succ]
              refine wpAnyH_ready (rs := [4, 6]) (by kernel_rfl) (by simp) ?_
              refine (AllReadyH.cons (o := { dst := some 61, op := Op.load 34 (Operand.tmp 60), type := 34, pos := "propagator.go:74", after := #[{ on := 3, ground := Ground.data }], guard := none }) rfl (fun K hK => ?_) (AllReadyH.cons (o := { dst := some 63, op := Op.buildSlice 34 1 #[(0, Operand.tmp 62)], type := 34, pos := "propagator.go:74", after := #[{ on := 5, ground := Ground.data }], guard := none }) rfl (fun K hK => ?_) AllReadyH.nil))
              · rw [if_pos (by rfl)]
                have hq := HPW9.out.drew.f4
                rw [HVAL.out] at hq
                go_simp
                clear hq
                refine hK.out _ _ (HSA.out _ hdr) (fun hHeld => ?_)
                clear hK K
                try simp only [Act.put, List.setIfInBounds_toArray, List.set_cons_zero, List.set_cons_succ]
                refine wpAnyH_ready (rs := [6]) (by kernel_rfl) (by simp) ?_
                refine (AllReadyH.cons (o := { dst := some 63, op := Op.buildSlice 34 1 #[(0, Operand.tmp 62)], type := 34, pos := "propagator.go:74", after := #[{ on := 5, ground := Ground.data }], guard := none }) rfl (fun K hK => ?_) AllReadyH.nil)
                rw [if_pos (by rfl)]
                go_simp
                have haA : ∀ r, W2.grownBy ((World.alloc W2 (.cells #[.int .i64 (i : Int)] 3)).drew) r := fun r => (World.grownBy_alloc W2 _ r).trans (grown_drew _ r)
                have hnA : ∀ j u, [Value.int .i64 (i : Int)][j]? = some u → ((World.alloc W2 (.cells #[.int .i64 (i : Int)] 3)).drew).cell? ((⟨W2.heap.size, 0, none⟩ : Addr).add j) = some u := cell_one_new W2 _ _
                obtain ⟨WA, hWA⟩ : ∃ WA, (World.alloc W2 (.cells #[.int .i64 (i : Int)] 3)).drew = WA := ⟨_, rfl⟩
                rw [hWA] at haA hnA ⊢
                clear hWA
                have htA := (haA none).cell HT0.out (by simp)
                refine hK.out _ _ (HSA.out _ htA) (fun hHeld => ?_)
                clear hK K
                try simp only [Act.put, List.setIfInBounds_toArray, List.set_cons_zero, List.set_cons_succ]
                refine wpAnyH_ready (rs := [7]) (by kernel_rfl) (by simp) ?_
                refine (AllReadyH.cons (o := { dst := some 64, op := Op.call { callee := Callee.builtin Builtin.append, args := #[Operand.tmp 61, Operand.tmp 63], argTypes := #[34, 34] }, type := 34, pos := "propagator.go:74", after := #[{ on := 4, ground := Ground.data }, { on := 6, ground := Ground.data }], guard := none }) rfl (fun K hK => ?_) AllReadyH.nil)
                refine ready_append_g 34 3 (.tmp 61) (.tmp 63) rfl rfl Tryz.underlying34 hi0 hz0 hz1 hz2 rfl (by decide) (by omega) KK.B _ _ (intCells (R9 1).l) rfl (own_grown HOW9.out (haA none)) ⟨W2.heap.size, 0, none⟩ [.int .i64 (i : Int)] rfl rfl hnA (fun u hu => by simp at hu; subst hu; rfl) HLEN.out (Nat.le_trans HBS.out (haA none).size) (fun v' w6 hown' hgrow6 hat6 => ?_)
                obtain ⟨rgA, rcA, rfl⟩ := own_shape hown'
                have hg6 : W2.grownBy w6 (Value.slice (R9 1).a hl9 (R9 1).c).ownBlock := (haA _).trans hgrow6
                have ht6 := hg6.cell HT0.out HNT.out
                have hat9 : (Value.slice rgA (hl9 + 1) rcA).ownBlock = (Value.slice (R9 1).a hl9 (R9 1).c).ownBlock ∨ ∃ b, (Value.slice rgA (hl9 + 1) rcA).ownBlock = some b ∧ W2.heap.size ≤ b := hat6.imp id (fun h => ⟨_, h, (haA none).size⟩)
                have hTR := trail_row (i := 1) HPW9.out (by omega) HN9.out hown' hg6 hat9
                refine hK.out _ _ (HSA.out _ ht6) (fun hHeld => ?_)
                clear hK K
                try simp only [Act.put, List.setIfInBounds_toArray, List.set_cons_zero, List.set_cons_succ]
                refine wpAnyH_take (i := 8) (oi := { dst := some 65, op := Op.nilCheck (Operand.tmp 57), type := 0, pos := "propagator.go:74", after := #[{ on := 0, ground := Ground.data }, { on := 0, ground := Ground.phase }, { on := 1, ground := Ground.phase }, { on := 2, ground := Ground.phase }, { on := 3, ground := Ground.phase }, { on := 4, ground := Ground.phase }, { on := 5, ground := Ground.phase }, { on := 6, ground := Ground.phase }, { on := 7, ground := Ground.phase }], guard := none }) (v := ?_) rfl (by kernel_rfl) (by kernel_rfl) (by kernel_rfl) (fun _ _ _ h => h) (Or.inl ⟨by rfl, ?_⟩) (by assumption) ?_
                rotate_left 1
                · (intro W hSW; (try dsimp only at hSW); first | (go_simp; done) | (go_simp; with_reducible rfl))
                try simp only [Act.put, List.setIfInBounds_toArray, List.set_cons_zero, List.set_cons_succ]
                refine wpAnyH_take (i := 9) (oi := { dst := some 66, op := Op.fieldAddr 113 (Operand.tmp 65) 3, type := 0, pos := "propagator.go:74", after := #[{ on := 8, ground := Ground.data }, { on := 0, ground := Ground.phase }, { on := 1, ground := Ground.phase }, { on := 2, ground := Ground.phase }, { on := 3, ground := Ground.phase }, { on := 4, ground := Ground.phase }, { on := 5, ground := Ground.phase }, { on := 6, ground := Ground.phase }, { on := 7, ground := Ground.phase }], guard := none }) (v := ?_) rfl (by kernel_rfl) (by kernel_rfl) (by kernel_rfl) (fun _ _ _ h => h) (Or.inl ⟨by rfl, ?_⟩) (by assumption) ?_
                rotate_left 1
                · (intro W hSW; (try dsimp only at hSW); first | (go_simp; done) | (go_simp; with_reducible rfl))
                try simp only [Act.put, List.setIfInBounds_toArray, List.set_cons_zero, List.set_cons_succ]
                refine wpAnyH_ready (rs := [10]) (by kernel_rfl) (by simp) ?_
                refine (AllReadyH.cons (o := { dst := none, op := Op.store 34 (Operand.tmp 66) (Operand.tmp 64), type := 0, pos := "propagator.go:74", after := #[{ on := 9, ground := Ground.data }, { on := 7, ground := Ground.data }, { on := 7, ground := Ground.chain }, { on := 0, ground := Ground.phase }, { on := 1, ground := Ground.phase }, { on := 2, ground := Ground.phase }, { on := 3, ground := Ground.phase }, { on := 4, ground := Ground.phase }, { on := 5, ground := Ground.phase }, { on := 6, ground := Ground.phase }, { on := 7, ground := Ground.phase }], guard := none }) rfl (fun K hK => ?_) AllReadyH.nil)
                rw [if_pos (by rfl)]
                have hc := hg6.cell HPW9.out.f4 HNP.out
                have hz : w6.frozen? ⟨KK.p, 4, none⟩ = false := (World.frozen?_of_block (a := ⟨KK.p, 4, none⟩) (hg6.block KK.p HPL.out HNP.out)).trans (HPW9.out.fr 4)
                go_simp
                clear hc hz
                obtain ⟨WX, hWX⟩ : ∃ z, w6.setCell ⟨KK.p, 4, none⟩ (.slice rgA (hl9 + 1) rcA) = z := ⟨_, rfl⟩
                have htX : WX.cell? ⟨_, 0, none⟩ = some _ := hTR.2.1.cell HT0.out HTM.out |> fun h => by rw [← hWX]; exact h
                simp only [fld] at hTR
                rw [hWX] at hTR ⊢
                clear hWX
                refine hK.out _ _ (HSA.out _ htX) (fun hHeld => ?_)
                clear hK K
                try simp only [Act.put, List.setIfInBounds_toArray, List.set_cons_zero, List.set_cons_succ]
                refine wpAnyH_done (by kernel_rfl) ?_ _
                have hEND := htX
                clear hHeld
                have HX17 := Lib.hid (And.intro (H2.out.1.reason hTR.1) (And.intro (H2.out.2.2.2.2.1.own HK.out.2.2.2.2.1 HK.out.2.2.2.2.2.1 HPW9.out hTR.2.1) (hTR.2.1.keeps (fun k o hk ho' => (HPW9.out.below k hk).2.2 o ho'))))
                have HAS := Lib.hid (assign_calls HX17.out.1.drew hKV HH.out.2.1 HL2.out x (fun r hr => by rw [List.mem_singleton.1 hr, HLL.out.1]; exact HRUN.out.2.2.2.1) HRUN.out.2.1 HRUN.out.2.2.1)
                clear hTR htX
                gi_wp2_with fail
                have hdr : Bx w KK (bf + 1) WX.drew ∧ (WX.drew).cell? ⟨KK.p, 1, none⟩ = some (.slice (some ⟨bc, oc, none⟩) cn KK.cc) := ⟨HX17.out.2.1.drew, by have h := HX17.out.1.pw.f1; rw [HQ1.out.1, HQ1.out.2] at h; exact h⟩
                refine wpIn_region_held_round (S := (fun Wh : World => Wh.cell? ⟨bf + 1, 0, none⟩ = some (.pointer (some ⟨KK.p, 0, none⟩)) ∧ Wh.cell? ⟨KK.p, 1, none⟩ = some (.slice (some ⟨bc, oc, none⟩) cn KK.cc) ∧ Wh.cell? ⟨bc, oc + i, none⟩ = some (.slice (some ⟨bx, ox, none⟩) n1 c') ∧ Wh.cell? ⟨bx, ox + j, none⟩ = some (.int .i64 x))) (by kernel_rfl) (by kernel_rfl) (by rintro ⟨_, _, h⟩; exact h) (HSB.out _ hdr) (fun hHeld => ?_)
                refine wpAnyH_take (i := 0) (oi := { dst := some 67, op := Op.load 114 (Operand.tmp 4), type := 114, pos := "propagator.go:75", after := #[], guard := none }) (v := ?_) rfl (by kernel_rfl) (by kernel_rfl) (by kernel_rfl) (fun _ _ _ h => h) (Or.inl ⟨by rfl, ?_⟩) (by assumption) ?_
                rotate_left 1
                · (intro W hSW; (try dsimp only at hSW); first | (go_simp; done) | (go_simp; with_reducible rfl))
                try simp only [Act.put, List.setIfInBounds_toArray, List.set_cons_zero, List.set_cons_succ]
                refine wpAnyH_take (i := 1) (oi := { dst := some 68, op := Op.load 114 (Operand.tmp 4), type := 114, pos := "propagator.go:75", after := #[], guard := none }) (v := ?_) rfl (by kernel_rfl) (by kernel_rfl) (by kernel_rfl) (fun _ _ _ h => h) (Or.inl ⟨by rfl, ?_⟩) (by assumption) ?_
                rotate_left 1
                · (intro W hSW; (try dsimp only at hSW); first | (go_simp; done) | (go_simp; with_reducible rfl))
                try simp only [Act.put, List.setIfInBounds_toArray, List.set_cons_zero, List.set_cons_succ]
                refine wpAnyH_take (i := 2) (oi := { dst := some 69, op := Op.nilCheck (Operand.tmp 68), type := 0, pos := "propagator.go:75", after := #[{ on := 1, ground := Ground.data }], guard := none }) (v := ?_) rfl (by kernel_rfl) (by kernel_rfl) (by kernel_rfl) (fun _ _ _ h => h) (Or.inl ⟨by rfl, ?_⟩) (by assumption) ?_
                rotate_left 1
                · (intro W hSW; (try dsimp only at hSW); first | (go_simp; done) | (go_simp; with_reducible rfl))
                try simp only [Act.put, List.setIfInBounds_toArray, List.set_cons_zero, List.set_cons_succ]
                refine wpAnyH_take (i := 3) (oi := { dst := some 70, op := Op.fieldAddr 113 (Operand.tmp 69) 0, type := 0, pos := "propagator.go:75", after := #[{ on := 2, ground := Ground.data }], guard := none }) (v := ?_) rfl (by kernel_rfl) (by kernel_rfl) (by kernel_rfl) (fun _ _ _ h => h) (Or.inl ⟨by rfl, ?_⟩) (by assumption) ?_
                rotate_left 1
                · (intro W hSW; (try dsimp only at hSW); first | (go_simp; done) | (go_simp; with_reducible rfl))
                try simp only [Act.put, List.setIfInBounds_toArray, List.set_cons_zero, List.set_cons_succ]
                refine wpAnyH_take (i := 4) (oi := { dst := some 71, op := Op.fieldAddr 24 (Operand.tmp 70) 1, type := 0, pos := "propagator.go:75", after := #[{ on := 3, ground := Ground.data }], guard := none }) (v := ?_) rfl (by kernel_rfl) (by kernel_rfl) (by kernel_rfl) (fun _ _ _ h => h) (Or.inl ⟨by rfl, ?_⟩) (by assumption) ?_
                rotate_left 1
                · (intro W hSW; (try dsimp only at hSW); first | (go_simp; done) | (go_simp; with_reducible rfl))
                try simp only [Act.put, List.setIfInBounds_toArray, List.set_cons_zero, List.set_cons_succ]
                refine wpAnyH_take (i := 5) (oi := { dst := some 72, op := Op.load 22 (Operand.tmp 71), type := 22, pos := "propagator.go:75", after := #[{ on := 4, ground := Ground.data }], guard := none }) (v := ?_) rfl (by kernel_rfl) (by kernel_rfl) (by kernel_rfl) (fun _ _ _ h => h) (Or.inl ⟨by rfl, ?_⟩) (by assumption) ?_
                rotate_left 1
                · (intro W hSW; (try dsimp only at hSW); first | (go_simp; done) | (go_simp; with_reducible rfl))
                try simp only [Act.put, List.setIfInBounds_toArray, List.set_cons_zero, List.set_cons_succ]
                refine wpAnyH_take (i := 6) (oi := { dst := some 73, op := Op.move (Operand.tmp 7), type := 3, pos := "propagator.go:75", after := #[], guard := none }) (v := ?_) rfl (by kernel_rfl) (by kernel_rfl) (by kernel_rfl) (fun _ _ _ h => h) (Or.inl ⟨by rfl, ?_⟩) (by assumption) ?_
                rotate_left 1
                · (intro W hSW; (try dsimp only at hSW); first | (go_simp; done) | (go_simp; with_reducible rfl))
                try simp only [Act.put, List.setIfInBounds_toArray, List.set_cons_zero, List.set_cons_succ]
                refine wpAnyH_take (i := 7) (oi := { dst := some 74, op := Op.indexAddr 22 (Operand.tmp 72) (Operand.tmp 73), type := 0, pos := "propagator.go:75", after := #[{ on := 5, ground := Ground.data }, { on := 6, ground := Ground.data }], guard := none }) (v := ?_) rfl (by kernel_rfl) (by kernel_rfl) (by kernel_rfl) (fun _ _ _ h => h) (Or.inl ⟨by rfl, ?_⟩) (by assumption) ?_
                rotate_left 1
                · (intro W hSW; (try dsimp only at hSW); first | (go_simp; done) | (go_simp; with_reducible rfl))
                try simp only [Act.put, List.setIfInBounds_toArray, List.set_cons_zero, List.set_cons_succ]
                refine wpAnyH_take (i := 8) (oi := { dst := some 75, op := Op.load 34 (Operand.tmp 74), type := 34, pos := "propagator.go:75", after := #[{ on := 7, ground := Ground.data }], guard := none }) (v := ?_) rfl (by kernel_rfl) (by kernel_rfl) (by kernel_rfl) (fun _ _ _ h => h) (Or.inl ⟨by rfl, ?_⟩) (by assumption) ?_
                rotate_left 1
                · (intro W hSW; (try dsimp only at hSW); first | (go_simp; done) | (go_simp; with_reducible rfl))
                try simp only [Act.put, List.setIfInBounds_toArray, List.set_cons_zero, List.set_cons_succ]
                refine wpAnyH_take (i := 9) (oi := { dst := some 76, op := Op.move (Operand.tmp 8), type := 3, pos := "propagator.go:75", after := #[], guard := none }) (v := ?_) rfl (by kernel_rfl) (by kernel_rfl) (by kernel_rfl) (fun _ _ _ h => h) (Or.inl ⟨by rfl, ?_⟩) (by assumption) ?_
                rotate_left 1
                · (intro W hSW; (try dsimp only at hSW); first | (go_simp; done) | (go_simp; with_reducible rfl))
                try simp only [Act.put, List.setIfInBounds_toArray, List.set_cons_zero, List.set_cons_succ]
                refine wpAnyH_take (i := 10) (oi := { dst := some 77, op := Op.indexAddr 34 (Operand.tmp 75) (Operand.tmp 76), type := 0, pos := "propagator.go:75", after := #[{ on := 8, ground := Ground.data }, { on := 9, ground := Ground.data }], guard := none }) (v := ?_) rfl (by kernel_rfl) (by kernel_rfl) (by kernel_rfl) (fun _ _ _ h => h) (Or.inl ⟨by rfl, ?_⟩) (by assumption) ?_
                rotate_left 1
                · (intro W hSW; (try dsimp only at hSW); first | (go_simp; done) | (go_simp; with_reducible rfl))
                try simp only [Act.put, List.setIfInBounds_toArray, List.set_cons_zero, List.set_cons_succ]
                refine wpAnyH_take (i := 11) (oi := { dst := some 78, op := Op.load 3 (Operand.tmp 77), type := 3, pos := "propagator.go:75", after := #[{ on := 10, ground := Ground.data }], guard := none }) (v := ?_) rfl (by kernel_rfl) (by kernel_rfl) (by kernel_rfl) (fun _ _ _ h => h) (Or.inl ⟨by rfl, ?_⟩) (by assumption) ?_
                rotate_left 1
                · (intro W hSW; (try dsimp only at hSW); first | (go_simp; done) | (go_simp; with_reducible rfl))
                try simp only [Act.put, List.setIfInBounds_toArray, List.set_cons_zero, List.set_cons_succ]
                refine wpAnyH_ready (rs := [12]) (by kernel_rfl) (by simp) ?_
                refine (AllReadyH.cons (o := { dst := some 79, op := Op.call { callee := Callee.value (Operand.func 107), args := #[Operand.tmp 67, Operand.tmp 78], argTypes := #[114, 3] }, type := 0, pos := "propagator.go:75", after := #[{ on := 0, ground := Ground.data }, { on := 11, ground := Ground.data }], guard := none }) rfl (fun K hK => ?_) AllReadyH.nil)
                rw [if_pos (by rfl)]
                go_simp
                go_at_call 107
                refine (HAS.out).mono ?_
                rintro e w9 ⟨rfl, R8, hps8, hr8, ho8, _⟩
                have hbx8 := HX17.out.2.1.drew.own HK.out.2.2.2.2.1 HK.out.2.2.2.2.2.1 HX17.out.1.drew.pw ho8
                have HXN := Lib.hid (And.intro (And.intro hps8 (And.intro (show (R8 1).l = rs ++ [(i : Int)] from by rw [hr8, upd_same]; simp only; rw [H2.out.2.1]) hbx8)) (ho8.keeps (fun k o hk ho' => (HX17.out.1.drew.pw.below k hk).2.2 o ho')))
                have hgr8 : Bx w KK (bf + 1) w9 ∧ w9.cell? ⟨KK.p, 1, none⟩ = some (.slice (some ⟨bc, oc, none⟩) cn KK.cc) := ⟨hbx8, by have h := hps8.pw.f1; rwa [HQ1.out.1, HQ1.out.2] at h⟩
                clear hps8 hr8 ho8 hbx8
                go_wp2_with fail
                refine hK.out _ _ (HSB.out _ hgr8) (fun hHeld => ?_)
                clear hK K
                try simp only [Act.put, List.setIfInBounds_toArray, List.set_cons_zero, List.set_cons_succ]
                refine wpAnyH_done (by kernel_rfl) ?_ _
                have hEND := hgr8
                clear hHeld
                gi_wp2_with fail
                exact ⟨keeps_trans HX17.out.2.2 (keeps_trans (keeps_drew WX) HXN.out.2), (tr ++ [x], rs ++ [(i : Int)], n0), Nat.lt_succ_self n0, ⟨⟨_, HXN.out.1.1, HXN.out.1.2.1⟩, HRUN.out.1, HRUN.out.2.2.2.2, HXN.out.1.2.2⟩⟩
              · rw [if_pos (by rfl)]
                go_simp
                have haA : ∀ r, W2.grownBy ((World.alloc W2 (.cells #[.int .i64 (i : Int)] 3)).drew) r := fun r => (World.grownBy_alloc W2 _ r).trans (grown_drew _ r)
                have hnA : ∀ j u, [Value.int .i64 (i : Int)][j]? = some u → ((World.alloc W2 (.cells #[.int .i64 (i : Int)] 3)).drew).cell? ((⟨W2.heap.size, 0, none⟩ : Addr).add j) = some u := cell_one_new W2 _ _
                obtain ⟨WA, hWA⟩ : ∃ WA, (World.alloc W2 (.cells #[.int .i64 (i : Int)] 3)).drew = WA := ⟨_, rfl⟩
                rw [hWA] at haA hnA ⊢
                clear hWA
                have htA := (haA none).cell HT0.out (by simp)
                refine hK.out _ _ (HSA.out _ htA) (fun hHeld => ?_)
                clear hK K
                try simp only [Act.put, List.setIfInBounds_toArray, List.set_cons_zero, List.set_cons_succ]
                refine wpAnyH_ready (rs := [4]) (by kernel_rfl) (by simp) ?_
                refine (AllReadyH.cons (o := { dst := some 61, op := Op.load 34 (Operand.tmp 60), type := 34, pos := "propagator.go:74", after := #[{ on := 3, ground := Ground.data }], guard := none }) rfl (fun K hK => ?_) AllReadyH.nil)
                rw [if_pos (by rfl)]
                have hq := (HPW9.out.grown (haA none)).f4
                rw [HVAL.out] at hq
                go_simp
                clear hq
                refine hK.out _ _ (HSA.out _ htA) (fun hHeld => ?_)
                clear hK K
                try simp only [Act.put, List.setIfInBounds_toArray, List.set_cons_zero, List.set_cons_succ]
                refine wpAnyH_ready (rs := [7]) (by kernel_rfl) (by simp) ?_
                refine (AllReadyH.cons (o := { dst := some 64, op := Op.call { callee := Callee.builtin Builtin.append, args := #[Operand.tmp 61, Operand.tmp 63], argTypes := #[34, 34] }, type := 34, pos := "propagator.go:74", after := #[{ on := 4, ground := Ground.data }, { on := 6, ground := Ground.data }], guard := none }) rfl (fun K hK => ?_) AllReadyH.nil)
                refine ready_append_g 34 3 (.tmp 61) (.tmp 63) rfl rfl Tryz.underlying34 hi0 hz0 hz1 hz2 rfl (by decide) (by omega) KK.B _ _ (intCells (R9 1).l) rfl (own_grown HOW9.out (haA none)) ⟨W2.heap.size, 0, none⟩ [.int .i64 (i : Int)] rfl rfl hnA (fun u hu => by simp at hu; subst hu; rfl) HLEN.out (Nat.le_trans HBS.out (haA none).size) (fun v' w6 hown' hgrow6 hat6 => ?_)
                obtain ⟨rgA, rcA, rfl⟩ := own_shape hown'
                have hg6 : W2.grownBy w6 (Value.slice (R9 1).a hl9 (R9 1).c).ownBlock := (haA _).trans hgrow6
                have ht6 := hg6.cell HT0.out HNT.out
                have hat9 : (Value.slice rgA (hl9 + 1) rcA).ownBlock = (Value.slice (R9 1).a hl9 (R9 1).c).ownBlock ∨ ∃ b, (Value.slice rgA (hl9 + 1) rcA).ownBlock = some b ∧ W2.heap.size ≤ b := hat6.imp id (fun h => ⟨_, h, (haA none).size⟩)
                have hTR := trail_row (i := 1) HPW9.out (by omega) HN9.out hown' hg6 hat9
                refine hK.out _ _ (HSA.out _ ht6) (fun hHeld => ?_)
                clear hK K
                try simp only [Act.put, List.setIfInBounds_toArray, List.set_cons_zero, List.set_cons_succ]
                refine wpAnyH_take (i := 8) (oi := { dst := some 65, op := Op.nilCheck (Operand.tmp 57), type := 0, pos := "propagator.go:74", after := #[{ on := 0, ground := Ground.data }, { on := 0, ground := Ground.phase }, { on := 1, ground := Ground.phase }, { on := 2, ground := Ground.phase }, { on := 3, ground := Ground.phase }, { on := 4, ground := Ground.phase }, { on := 5, ground := Ground.phase }, { on := 6, ground := Ground.phase }, { on := 7, ground := Ground.phase }], guard := none }) (v := ?_) rfl (by kernel_rfl) (by kernel_rfl) (by kernel_rfl) (fun _ _ _ h => h) (Or.inl ⟨by rfl, ?_⟩) (by assumption) ?_
                rotate_left 1
                · (intro W hSW; (try dsimp only at hSW); first | (go_simp; done) | (go_simp; with_reducible rfl))
                try simp only [Act.put, List.setIfInBounds_toArray, List.set_cons_zero, List.set_cons_succ]
                refine wpAnyH_take (i := 9) (oi := { dst := some 66, op := Op.fieldAddr 113 (Operand.tmp 65) 3, type := 0, pos := "propagator.go:74", after := #[{ on := 8, ground := Ground.data }, { on := 0, ground := Ground.phase }, { on := 1, ground := Ground.phase }, { on := 2, ground := Ground.phase }, { on := 3, ground := Ground.phase }, { on := 4, ground := Ground.phase }, { on := 5, ground := Ground.phase }, { on := 6, ground := Ground.phase }, { on := 7, ground := Ground.phase }], guard := none }) (v := ?_) rfl (by kernel_rfl) (by kernel_rfl) (by kernel_rfl) (fun _ _ _ h => h) (Or.inl ⟨by rfl, ?_⟩) (by assumption) ?_
                rotate_left 1
                · (intro W hSW; (try dsimp only at hSW); first | (go_simp; done) | (go_simp; with_reducible rfl))
                try simp only [Act.put, List.setIfInBounds_toArray, List.set_cons_zero, List.set_cons_succ]
                refine wpAnyH_ready (rs := [10]) (by kernel_rfl) (by simp) ?_
                refine (AllReadyH.cons (o := { dst := none, op := Op.store 34 (Operand.tmp 66) (Operand.tmp 64), type := 0, pos := "propagator.go:74", after := #[{ on := 9, ground := Ground.data }, { on := 7, ground := Ground.data }, { on := 7, ground := Ground.chain }, { on := 0, ground := Ground.phase }, { on := 1, ground := Ground.phase }, { on := 2, ground := Ground.phase }, { on := 3, ground := Ground.phase }, { on := 4, ground := Ground.phase }, { on := 5, ground := Ground.phase }, { on := 6, ground := Ground.phase }, { on := 7, ground := Ground.phase }], guard := none }) rfl (fun K hK => ?_) AllReadyH.nil)
                rw [if_pos (by rfl)]
                have hc := hg6.cell HPW9.out.f4 HNP.out
                have hz : w6.frozen? ⟨KK.p, 4, none⟩ = false := (World.frozen?_of_block (a := ⟨KK.p, 4, none⟩) (hg6.block KK.p HPL.out HNP.out)).trans (HPW9.out.fr 4)
                go_simp
                clear hc hz
                obtain ⟨WX, hWX⟩ : ∃ z, w6.setCell ⟨KK.p, 4, none⟩ (.slice rgA (hl9 + 1) rcA) = z := ⟨_, rfl⟩
                have htX : WX.cell? ⟨_, 0, none⟩ = some _ := hTR.2.1.cell HT0.out HTM.out |> fun h => by rw [← hWX]; exact h
                simp only [fld] at hTR
                rw [hWX] at hTR ⊢
                clear hWX
                refine hK.out _ _ (HSA.out _ htX) (fun hHeld => ?_)
                clear hK K
                try simp only [Act.put, List.setIfInBounds_toArray, List.set_cons_zero, List.set_cons_succ]
                refine wpAnyH_done (by kernel_rfl) ?_ _
                have hEND := htX
                clear hHeld
                have HX17 := Lib.hid (And.intro (H2.out.1.reason hTR.1) (And.intro (H2.out.2.2.2.2.1.own HK.out.2.2.2.2.1 HK.out.2.2.2.2.2.1 HPW9.out hTR.2.1) (hTR.2.1.keeps (fun k o hk ho' => (HPW9.out.below k hk).2.2 o ho'))))
                have HAS := Lib.hid (assign_calls HX17.out.1.drew hKV HH.out.2.1 HL2.out x (fun r hr => by rw [List.mem_singleton.1 hr, HLL.out.1]; exact HRUN.out.2.2.2.1) HRUN.out.2.1 HRUN.out.2.2.1)
                clear hTR htX
                gi_wp2_with fail
                have hdr : Bx w KK (bf + 1) WX.drew ∧ (WX.drew).cell? ⟨KK.p, 1, none⟩ = some (.slice (some ⟨bc, oc, none⟩) cn KK.cc) := ⟨HX17.out.2.1.drew, by have h := HX17.out.1.pw.f1; rw [HQ1.out.1, HQ1.out.2] at h; exact h⟩
                refine wpIn_region_held_round (S := (fun Wh : World => Wh.cell? ⟨bf + 1, 0, none⟩ = some (.pointer (some ⟨KK.p, 0, none⟩)) ∧ Wh.cell? ⟨KK.p, 1, none⟩ = some (.slice (some ⟨bc, oc, none⟩) cn KK.cc) ∧ Wh.cell? ⟨bc, oc + i, none⟩ = some (.slice (some ⟨bx, ox, none⟩) n1 c') ∧ Wh.cell? ⟨bx, ox + j, none⟩ = some (.int .i64 x))) (by kernel_rfl) (by kernel_rfl) (by rintro ⟨_, _, h⟩; exact h) (HSB.out _ hdr) (fun hHeld => ?_)
                refine wpAnyH_take (i := 0) (oi := { dst := some 67, op := Op.load 114 (Operand.tmp 4), type := 114, pos := "propagator.go:75", after := #[], guard := none }) (v := ?_) rfl (by kernel_rfl) (by kernel_rfl) (by kernel_rfl) (fun _ _ _ h => h) (Or.inl ⟨by rfl, ?_⟩) (by assumption) ?_
                rotate_left 1
                · (intro W hSW; (try dsimp only at hSW); first | (go_simp; done) | (go_simp; with_reducible rfl))
                try simp only [Act.put, List.setIfInBounds_toArray, List.set_cons_zero, List.set_cons_succ]
                refine wpAnyH_take (i := 1) (oi := { dst := some 68, op := Op.load 114 (Operand.tmp 4), type := 114, pos := "propagator.go:75", after := #[], guard := none }) (v := ?_) rfl (by kernel_rfl) (by kernel_rfl) (by kernel_rfl) (fun _ _ _ h => h) (Or.inl ⟨by rfl, ?_⟩) (by assumption) ?_
                rotate_left 1
                · (intro W hSW; (try dsimp only at hSW); first | (go_simp; done) | (go_simp; with_reducible rfl))
                try simp only [Act.put, List.setIfInBounds_toArray, List.set_cons_zero, List.set_cons_succ]
                refine wpAnyH_take (i := 2) (oi := { dst := some 69, op := Op.nilCheck (Operand.tmp 68), type := 0, pos := "propagator.go:75", after := #[{ on := 1, ground := Ground.data }], guard := none }) (v := ?_) rfl (by kernel_rfl) (by kernel_rfl) (by kernel_rfl) (fun _ _ _ h => h) (Or.inl ⟨by rfl, ?_⟩) (by assumption) ?_
                rotate_left 1
                · (intro W hSW; (try dsimp only at hSW); first | (go_simp; done) | (go_simp; with_reducible rfl))
                try simp only [Act.put, List.setIfInBounds_toArray, List.set_cons_zero, List.set_cons_succ]
                refine wpAnyH_take (i := 3) (oi := { dst := some 70, op := Op.fieldAddr 113 (Operand.tmp 69) 0, type := 0, pos := "propagator.go:75", after := #[{ on := 2, ground := Ground.data }], guard := none }) (v := ?_) rfl (by kernel_rfl) (by kernel_rfl) (by kernel_rfl) (fun _ _ _ h => h) (Or.inl ⟨by rfl, ?_⟩) (by assumption) ?_
                rotate_left 1
                · (intro W hSW; (try dsimp only at hSW); first | (go_simp; done) | (go_simp; with_reducible rfl))
                try simp only [Act.put, List.setIfInBounds_toArray, List.set_cons_zero, List.set_cons_succ]
                refine wpAnyH_take (i := 4) (oi := { dst := some 71, op := Op.fieldAddr 24 (Operand.tmp 70) 1, type := 0, pos := "propagator.go:75", after := #[{ on := 3, ground := Ground.data }], guard := none }) (v := ?_) rfl (by kernel_rfl) (by kernel_rfl) (by kernel_rfl) (fun _ _ _ h => h) (Or.inl ⟨by rfl, ?_⟩) (by assumption) ?_
                rotate_left 1
                · (intro W hSW; (try dsimp only at hSW); first | (go_simp; done) | (go_simp; with_reducible rfl))
                try simp only [Act.put, List.setIfInBounds_toArray, List.set_cons_zero, List.set_cons_succ]
                refine wpAnyH_take (i := 5) (oi := { dst := some 72, op := Op.load 22 (Operand.tmp 71), type := 22, pos := "propagator.go:75", after := #[{ on := 4, ground := Ground.data }], guard := none }) (v := ?_) rfl (by kernel_rfl) (by kernel_rfl) (by kernel_rfl) (fun _ _ _ h => h) (Or.inl ⟨by rfl, ?_⟩) (by assumption) ?_
                rotate_left 1
                · (intro W hSW; (try dsimp only at hSW); first | (go_simp; done) | (go_simp; with_reducible rfl))
                try simp only [Act.put, List.setIfInBounds_toArray, List.set_cons_zero, List.set_cons_succ]
                refine wpAnyH_take (i := 6) (oi := { dst := some 73, op := Op.move (Operand.tmp 7), type := 3, pos := "propagator.go:75", after := #[], guard := none }) (v := ?_) rfl (by kernel_rfl) (by kernel_rfl) (by kernel_rfl) (fun _ _ _ h => h) (Or.inl ⟨by rfl, ?_⟩) (by assumption) ?_
                rotate_left 1
                · (intro W hSW; (try dsimp only at hSW); first | (go_simp; done) | (go_simp; with_reducible rfl))
                try simp only [Act.put, List.setIfInBounds_toArray, List.set_cons_zero, List.set_cons_succ]
                refine wpAnyH_take (i := 7) (oi := { dst := some 74, op := Op.indexAddr 22 (Operand.tmp 72) (Operand.tmp 73), type := 0, pos := "propagator.go:75", after := #[{ on := 5, ground := Ground.data }, { on := 6, ground := Ground.data }], guard := none }) (v := ?_) rfl (by kernel_rfl) (by kernel_rfl) (by kernel_rfl) (fun _ _ _ h => h) (Or.inl ⟨by rfl, ?_⟩) (by assumption) ?_
                rotate_left 1
                · (intro W hSW; (try dsimp only at hSW); first | (go_simp; done) | (go_simp; with_reducible rfl))
                try simp only [Act.put, List.setIfInBounds_toArray, List.set_cons_zero, List.set_cons_succ]
                refine wpAnyH_take (i := 8) (oi := { dst := some 75, op := Op.load 34 (Operand.tmp 74), type := 34, pos := "propagator.go:75", after := #[{ on := 7, ground := Ground.data }], guard := none }) (v := ?_) rfl (by kernel_rfl) (by kernel_rfl) (by kernel_rfl) (fun _ _ _ h => h) (Or.inl ⟨by rfl, ?_⟩) (by assumption) ?_
                rotate_left 1
                · (intro W hSW; (try dsimp only at hSW); first | (go_simp; done) | (go_simp; with_reducible rfl))
                try simp only [Act.put, List.setIfInBounds_toArray, List.set_cons_zero, List.set_cons_succ]
                refine wpAnyH_take (i := 9) (oi := { dst := some 76, op := Op.move (Operand.tmp 8), type := 3, pos := "propagator.go:75", after := #[], guard := none }) (v := ?_) rfl (by kernel_rfl) (by kernel_rfl) (by kernel_rfl) (fun _ _ _ h => h) (Or.inl ⟨by rfl, ?_⟩) (by assumption) ?_
                rotate_left 1
                · (intro W hSW; (try dsimp only at hSW); first | (go_simp; done) | (go_simp; with_reducible rfl))
                try simp only [Act.put, List.setIfInBounds_toArray, List.set_cons_zero, List.set_cons_succ]
                refine wpAnyH_take (i := 10) (oi := { dst := some 77, op := Op.indexAddr 34 (Operand.tmp 75) (Operand.tmp 76), type := 0, pos := "propagator.go:75", after := #[{ on := 8, ground := Ground.data }, { on := 9, ground := Ground.data }], guard := none }) (v := ?_) rfl (by kernel_rfl) (by kernel_rfl) (by kernel_rfl) (fun _ _ _ h => h) (Or.inl ⟨by rfl, ?_⟩) (by assumption) ?_
                rotate_left 1
                · (intro W hSW; (try dsimp only at hSW); first | (go_simp; done) | (go_simp; with_reducible rfl))
                try simp only [Act.put, List.setIfInBounds_toArray, List.set_cons_zero, List.set_cons_succ]
                refine wpAnyH_take (i := 11) (oi := { dst := some 78, op := Op.load 3 (Operand.tmp 77), type := 3, pos := "propagator.go:75", after := #[{ on := 10, ground := Ground.data }], guard := none }) (v := ?_) rfl (by kernel_rfl) (by kernel_rfl) (by kernel_rfl) (fun _ _ _ h => h) (Or.inl ⟨by rfl, ?_⟩) (by assumption) ?_
                rotate_left 1
                · (intro W hSW; (try dsimp only at hSW); first | (go_simp; done) | (go_simp; with_reducible rfl))
                try simp only [Act.put, List.setIfInBounds_toArray, List.set_cons_zero, List.set_cons_succ]
                refine wpAnyH_ready (rs := [12]) (by kernel_rfl) (by simp) ?_
                refine (AllReadyH.cons (o := { dst := some 79, op := Op.call { callee := Callee.value (Operand.func 107), args := #[Operand.tmp 67, Operand.tmp 78], argTypes := #[114, 3] }, type := 0, pos := "propagator.go:75", after := #[{ on := 0, ground := Ground.data }, { on := 11, ground := Ground.data }], guard := none }) rfl (fun K hK => ?_) AllReadyH.nil)
                rw [if_pos (by rfl)]
                go_simp
                go_at_call 107
                refine (HAS.out).mono ?_
                rintro e w9 ⟨rfl, R8, hps8, hr8, ho8, _⟩
                have hbx8 := HX17.out.2.1.drew.own HK.out.2.2.2.2.1 HK.out.2.2.2.2.2.1 HX17.out.1.drew.pw ho8
                have HXN := Lib.hid (And.intro (And.intro hps8 (And.intro (show (R8 1).l = rs ++ [(i : Int)] from by rw [hr8, upd_same]; simp only; rw [H2.out.2.1]) hbx8)) (ho8.keeps (fun k o hk ho' => (HX17.out.1.drew.pw.below k hk).2.2 o ho')))
                have hgr8 : Bx w KK (bf + 1) w9 ∧ w9.cell? ⟨KK.p, 1, none⟩ = some (.slice (some ⟨bc, oc, none⟩) cn KK.cc) := ⟨hbx8, by have h := hps8.pw.f1; rwa [HQ1.out.1, HQ1.out.2] at h⟩
                clear hps8 hr8 ho8 hbx8
                go_wp2_with fail
                refine hK.out _ _ (HSB.out _ hgr8) (fun hHeld => ?_)
                clear hK K
                try simp only [Act.put, List.setIfInBounds_toArray, List.set_cons_zero, List.set_cons_succ]
                refine wpAnyH_done (by kernel_rfl) ?_ _
                have hEND := hgr8
                clear hHeld
                gi_wp2_with fail
                exact ⟨keeps_trans HX17.out.2.2 (keeps_trans (keeps_drew WX) HXN.out.2), (tr ++ [x], rs ++ [(i : Int)], n0), Nat.lt_succ_self n0, ⟨⟨_, HXN.out.1.1, HXN.out.1.2.1⟩, HRUN.out.1, HRUN.out.2.2.2.2, HXN.out.1.2.2⟩⟩
          case done =>
            intro D b W hD hZ hd
            have hfin := hZ.fin
            have e1 := hZ.1.base.1
            have e2 := hZ.1.base.2.2
            have HF := Lib.hid hfin
            have HD := Lib.hid (And.intro hd hD)
            clear hfin hZ hd hD
            gi_wp2_with fail
            exact end34 HF.out HD.out.1 (by have := HD.out.2; omega) HK.out.2.2.2.2.1 HK.out.2.2.2.2.2.1 (by omega) (by have h1 := HD.out.2; have h2 := HBX.out.2.1.size; omega) rfl (fun W' hp hg => ⟨_, rfl, by rw [HPP.out]; rw [HK.out.2.1, HK.out.2.2.1, HK.out.2.2.2.1] at hp; exact hp, hg⟩)
          case stop =>
            intro D id W hD hX hd
            obtain ⟨rfl, hfin⟩ := hX
            obtain ⟨R9, vs9, _, _, _, e1, _, e2⟩ := id hfin
            have HF := Lib.hid hfin
            have HD := Lib.hid (And.intro hd hD)
            clear hfin hd hD
            gi_wp2_with fail
            exact end34 HF.out HD.out.1 (by have := HD.out.2; omega) HK.out.2.2.2.2.1 HK.out.2.2.2.2.2.1 (by omega) (by have h1 := HD.out.2; have h2 := HBX.out.2.1.size; omega) rfl (fun W' hp hg => ⟨_, rfl, by rw [HPP.out]; rw [HK.out.2.1, HK.out.2.2.1, HK.out.2.2.2.1] at hp; exact hp, hg⟩)
end Go.Proofs.YtihaheinkpmnnaaGreat
